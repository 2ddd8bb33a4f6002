/- The contract of the document's Decide. -/
import Derived.Test.YtipnmgihbpbonaaOrdW
import Derived.Test.YtipnmgihbpbonaaOrdE2
set_option linter.unusedVariables false
set_option linter.unusedSimpArgs false
set_option maxRecDepth 100000
namespace Go.Proofs.Ytipnmgihbpbonaa.ordQ
open Go.ChangeShapes Go.WideShapes Go.ChangeAt Go.RowKit Go.Deep
open opV chnM gen chnA chnR chnE ordA ordB ordC ordCr ordM ordL ordD ordH ordK ordRl ordW ordE2

/-- what the document's Decide leaves -/
def rdS (L : Lg) (r : Rc) : Lg := if r.1.1 ≤ L.bd then L else if there L.wt r = true then L else { L with wt := L.wt ++ [r] }
theorem rdec_end {col : Nat → Nat} {c p : Nat} {L : Lg} {A1 A2 : Option Addr} {c1 c2 : Nat} {ms mw : List MR} {w w4 w6 : World} {m : MR} {Ac A' : Option Addr} {cc c' : Nat} {o : Obj} (h : LogIs T2 col c w p L A1 c1 A2 c2 ms mw) (hc : c ≠ 0) (hf : Fresh col w) (hB : Below w.heap.size w w4) (hG : GV w4 w.heap.size Ac cc m.vs) (hsz : m.vs.length * 64 ≤ 140737488355328) (hs : Sm m.vs) (hl : ms.length + mw.length < 200)
    (ho : w6.ownsRow 0 32 4 (.slice A' (mw.length + 1) c') (mw.length + 1) (gl mw ++ cR { m with A := Ac, c := cc })) (hg : (w4.alloc o).grownBy w6 (Value.slice A2 mw.length c2).ownBlock) (hat : (Value.slice A' (mw.length + 1) c').ownBlock = (Value.slice A2 mw.length c2).ownBlock ∨ (Value.slice A' (mw.length + 1) c').ownBlock = some (w4.alloc o).heap.size) :
    w6.cell? ⟨p, 1, none⟩ = some (.slice A2 mw.length c2) ∧ w6.frozen? ⟨p, 1, none⟩ = false ∧ Lv T2 col c p ⟨L.st, L.wt ++ [m.r], L.bd⟩ w (w6.setCell ⟨p, 1, none⟩ (.slice A' (mw.length + 1) c')) := by
  have h5 := (h.below hB).below (al0 w4 o)
  have hnp : (Value.slice A2 mw.length c2).ownBlock ≠ some p := row_apart h5.row h5.o2 h5.tne
  have hp6 : w6.heap[p]? = (w4.alloc o).heap[p]? := hg.block p h5.row.lt (fun e => hnp e.symm)
  have hl1 : (mw ++ [{ m with A := Ac, c := cc }]).length = mw.length + 1 := by simp
  have hG6 : GR w6 0 A' c' (mw ++ [{ m with A := Ac, c := cc }]) := by unfold GR; rw [hl1, gl_app, gl_one]; exact ho
  obtain ⟨col', g1, g2, g3, g4⟩ := decided (m := m) h hc hf hB hG hsz hs hg hG6 (by rw [hl1]; exact hat) (fun x hx => by
    rcases List.mem_append.1 hx with hx | hx
    · exact .inr hx
    · exact .inl (List.mem_singleton.1 hx)) (by rw [hl1]; omega)
  rw [hl1] at g2 g3 g4
  rw [List.map_append, h.e2] at g4
  exact ⟨(World.cell?_of_block (a := ⟨p, 1, none⟩) hp6).trans h5.cells.2.1, (World.frozen?_of_block (a := ⟨p, 1, none⟩) hp6).trans h5.fz.2.1, col', ⟨g1, g2, g3⟩, _, _, _, _, _, _, g4⟩
theorem lv_stay {T : TypeId} {col : Nat → Nat} {c p : Nat} {L : Lg} {w w' : World} (h : LogAt T col c w p L) (hf : Fresh col w) (hB : Below w.heap.size w w') : Lv T col c p L w w' := ⟨col, Cn.below hf hB, h.below hB⟩
section
variable {col : Nat → Nat} {c p : Nat} {L : Lg} {A1 A2 : Option Addr} {c1 c2 : Nat} {ms mw : List MR}
set_option maxHeartbeats 4000000 in
theorem rdecide_any (w : World) (h : LogIs T2 col c w p L A1 c1 A2 c2 ms mw) (hc : c ≠ 0) (hf : Fresh col w) (m : MR) (hm : HV w m.A m.c m.vs) (hs : Sm m.vs) (hl : ms.length + mw.length < 200) :
    Calls Try.prog 11 #[.pointer (some ⟨p, 0, none⟩), rv m] w fun e w' => e = .returned (.int .i64 (dE L m.r)) ∧ Lv T2 col c p (rdS L m.r) w w' := by
  obtain ⟨W, hW⟩ : ∃ W, w.alloc (.cells #[.int .u64 m.ts, .int .i64 m.dc, .int .i64 m.tx, .slice m.A m.vs.length m.c] 32) = W := ⟨_, rfl⟩
  have hP : P4 w.heap.size m W := by rw [← hW]; exact P4.new w m
  have hBW : Below w.heap.size w W := by rw [← hW]; exact al0 _ _
  have hLW := h.below hBW
  obtain ⟨b0, b1, b2, b3⟩ := P4.r4 hP
  obtain ⟨k0, k1, k2⟩ := hLW.cells
  have hn : Hid (∀ n, Below w.heap.size w (W.drewN n) ∧ P4 w.heap.size m (W.drewN n)) := Lib.hid fun n => ⟨bdrN n hBW, P4.below hP (bdrN n (Below.refl _ _))⟩
  replace hW := Lib.hid hW
  have hmw9 : mw.length ≤ 200 := by omega
  by_cases ht : m.ts ≤ L.bd
  · have hE : dE L m.r = 11 := by unfold dE; rw [if_pos (show m.r.1.1 ≤ L.bd from ht)]
    have hS : rdS L m.r = L := by unfold rdS; rw [if_pos (show m.r.1.1 ≤ L.bd from ht)]
    rw [hE, hS]
    have hfin := Lib.hid (fun n => lv_stay ⟨_, _, _, _, _, _, h⟩ hf (hn.out n).1)
    have hd : decide (m.ts ≤ L.bd) = true := decide_eq_true ht
    clear h hf hm hs hP hBW hLW hE hS ht
    generalize L.bd = bd at *
    go_enter Try.func11, Try.ntmps11
    go_upto_region 1 with (fail)
    rw [hW.out]
    go_quiet (fail)
    go_wp2
    go_ret
    exact ⟨rfl, hfin.out _⟩
  · have hd : decide (m.ts ≤ L.bd) = false := decide_eq_false ht
    have hyes : Hid (∀ j w', j < mw.length → (nt mw j).k = m.k → Below w.heap.size w w' → dE L m.r = 8 ∧ Lv T2 col c p (rdS L m.r) w w') := Lib.hid fun j w' hj e hB => by
      have hth : there L.wt m.r = true := by unfold there; rw [decide_eq_true_eq]; exact ⟨(nt mw j).r, by rw [← h.e2]; exact List.mem_map_of_mem (nt_mem hj), e⟩
      unfold dE rdS
      rw [if_neg (show ¬ m.r.1.1 ≤ L.bd from ht), if_pos hth, if_neg (show ¬ m.r.1.1 ≤ L.bd from ht), if_pos hth]
      exact ⟨rfl, lv_stay ⟨_, _, _, _, _, _, h⟩ hf hB⟩
    have hno : Hid ((∀ j, j < mw.length → ¬ (nt mw j).k = m.k) → dE L m.r = 0 ∧ rdS L m.r = ⟨L.st, L.wt ++ [m.r], L.bd⟩) := Lib.hid fun hx => by
      have hth : ¬ there L.wt m.r = true := by
        unfold there; rw [decide_eq_true_eq]
        rintro ⟨x, hx1, e⟩
        rw [← h.e2] at hx1
        obtain ⟨y, hy, rfl⟩ := List.mem_map.1 hx1
        obtain ⟨j, hj, rfl⟩ := mem_nt hy
        exact hx j hj e
      unfold dE rdS
      rw [if_neg (show ¬ m.r.1.1 ≤ L.bd from ht), if_neg hth, if_neg (show ¬ m.r.1.1 ≤ L.bd from ht), if_neg hth]
      exact ⟨rfl, rfl⟩
    have hend := Lib.hid (fun w4 w6 Ac cc A' c' o (hB : Below w.heap.size w w4) hG ho hg hat => rdec_end (w4 := w4) (w6 := w6) (m := m) (Ac := Ac) (cc := cc) (A' := A') (c' := c') (o := o) h hc hf hB hG hm.sm hs hl ho hg hat)
    have hcopy := Lib.hid (fun w' (hB : Below w.heap.size w w') => rcopy_any m w' (hm.below hB))
    have hcl := Lib.hid (fun w' (hB : Below w.heap.size w w') => (h.below hB).cells.2.1)
    have hfz := Lib.hid (fun w' (hB : Below w.heap.size w w') => (h.below hB).fz.2.1)
    have hrw := Lib.hid (fun w' (hB : Below w.heap.size w w') => log_hw (h.below hB))
    have hown := Lib.hid (fun w' (hB : Below w.heap.size w w') => (h.below hB).o2)
    generalize dE L m.r = E at *
    generalize rdS L m.r = S at *
    generalize L.bd = bd at *
    clear h hf hm hs hP hBW hLW ht hc hl
    go_enter Try.func11, Try.ntmps11
    go_upto_region 1 with (fail)
    rw [hW.out]
    go_quiet (fail)
    have hB2 := Lib.hid (hn.out nq).1
    have hP2 := Lib.hid (hn.out nq).2
    clear b0 b1 b2 b3 k0 k1 k2 hn
    generalize W.drewN nq = W2 at *
    go_wp2
    go_loopw [5] (fun t wr => ∃ j : Nat, j ≤ mw.length ∧ t = .int .i64 j ∧ Hid (∀ i, i < j → ¬ (nt mw i).k = m.k) ∧ Hid (P4 w.heap.size m wr) ∧ Hid (Below w.heap.size w wr)) (fun t _ => mw.length - (intOf t).toNat)
    case atStart => exact ⟨0, by omega, rfl, Lib.hid (fun i hi => by omega), hP2, hB2⟩
    case round =>
      clear hB2 hP2
      obtain ⟨j, hj, rfl, hne, hP3, hB3⟩ := hrel
      have k1 := hcl.out wr hB3.out
      by_cases hlt : j < mw.length
      · have hltI : (j : Int) < (mw.length : Int) := by omega
        obtain ⟨pb, po, rfl, hpb, hcc⟩ := (hrw.out wr hB3.out).at hlt
        have hS : Hid ((D2 pb (po + j * 4) w.heap.size 0 (nt mw j) m wr.drew ∧ wr.drew.cell? ⟨p, 1, none⟩ = some (.slice (some ⟨pb, po, none⟩) mw.length c2)) ∧ Below wr.heap.size wr wr.drew) := Lib.hid ⟨⟨⟨hcc, P4.r4 hP3.out⟩, k1⟩, below_drew _⟩
        have hq := eql_mk (nt mw j).k m.k
        have hmx := Lib.hid (rmark_any (nt mw j))
        have hmy := Lib.hid (rmark_any m)
        by_cases he : (nt mw j).k = m.k
        · have hy := Lib.hid (fun w' (hB : Below w.heap.size w w') => hyes.out j w' hlt he hB)
          rw [decide_eq_true he] at hq
          clear he hne hyes hno
          generalize nt mw j = x at *
          generalize x.k = kx at *
          obtain ⟨ky, hky⟩ : ∃ ky, m.k = ky := ⟨_, rfl⟩
          rw [hky] at hmy hq
          clear hky
          obtain ⟨c0, c1', c2', c3⟩ := hcc
          go_wp2
          go_region_held3 (fun w' => (D2 pb (po + j * 4) w.heap.size 0 x m w' ∧ w'.cell? ⟨p, 1, none⟩ = some (.slice (some ⟨pb, po, none⟩) mw.length c2)) ∧ Below wr.heap.size wr w')
            (first | with_reducible exact hS.out | with_reducible assumption | with_reducible exact ⟨⟨D2.below (And.left (And.left (by assumption))) (by assumption), keep_cell (by assumption) (And.right (And.left (by assumption)))⟩, trans0 (And.right (by assumption)) (by assumption)⟩ | fail)
            (first
              | (go_at_call 21; ((with_reducible refine (hmx.out _).mono ?_); rintro e w' ⟨rfl, hB9⟩))
              | (go_at_call 21; ((with_reducible refine (hmy.out _).mono ?_); rintro e w' ⟨rfl, hB9⟩)) | fail)
          all_goals
            rename_i hHeld
            obtain ⟨e1, hLv⟩ := hy.out _ (trans0 hB3.out hHeld.2)
            replace e1 := Lib.hid e1
            replace hLv := Lib.hid hLv
            clear hHeld
            go_wp2
            go_ret
            exact ⟨by rw [e1.out]; rfl, hLv.out⟩
        · have hne' := Lib.hid (show ∀ i, i < j + 1 → ¬ (nt mw i).k = m.k from fun i hi => by
            by_cases hij : i = j
            · rw [hij]; exact he
            · exact hne.out i (by omega))
          rw [decide_eq_false he] at hq
          clear he hne
          generalize nt mw j = x at *
          generalize x.k = kx at *
          obtain ⟨ky, hky⟩ : ∃ ky, m.k = ky := ⟨_, rfl⟩
          rw [hky] at hmy hq
          replace hky := Lib.hid hky
          obtain ⟨c0, c1', c2', c3⟩ := hcc
          go_wp2
          go_region_held3 (fun w' => (D2 pb (po + j * 4) w.heap.size 0 x m w' ∧ w'.cell? ⟨p, 1, none⟩ = some (.slice (some ⟨pb, po, none⟩) mw.length c2)) ∧ Below wr.heap.size wr w')
            (first | with_reducible exact hS.out | with_reducible assumption | with_reducible exact ⟨⟨D2.below (And.left (And.left (by assumption))) (by assumption), keep_cell (by assumption) (And.right (And.left (by assumption)))⟩, trans0 (And.right (by assumption)) (by assumption)⟩ | fail)
            (first
              | (go_at_call 21; ((with_reducible refine (hmx.out _).mono ?_); rintro e w' ⟨rfl, hB9⟩))
              | (go_at_call 21; ((with_reducible refine (hmy.out _).mono ?_); rintro e w' ⟨rfl, hB9⟩)) | fail)
          all_goals
            rename_i hHeld
            have hB4 := Lib.hid (trans0 hB3.out hHeld.2)
            have hP4 := Lib.hid (P4.below hP3.out hHeld.2)
            clear hHeld hS hmx hmy hq c0 c1' c2' c3 hB3 hP3 k1
            go_wp2
            go_roundw
            case rel => exact ⟨j + 1, by omega, by go_num, hne', hP4, hB4⟩
            case measure => simp [intOf]; omega
      · obtain rfl : j = mw.length := by omega
        obtain ⟨e1, hSe⟩ := hno.out hne.out
        subst hSe
        replace e1 := Lib.hid e1
        obtain ⟨iV, hiV, hzV0, hzV1, hzV2⟩ := info_parts infoR
        have k2 := hfz.out wr hB3.out
        have hBd := Lib.hid hB3.out.drew
        have hpl := World.block_lt_of_cell? _ _ k1
        have hb8 := P4.r4 hP3.out
        have hbx8 := Lib.hid hb8
        have hwl := World.block_lt_of_cell? _ _ hb8.1
        obtain ⟨b0, b1, b2, b3⟩ := hb8
        clear hne hno hyes hrw hP3 hcl hfz
        go_upto_region 8 with (fail)
        go_region_law (first
          | (go_simp; go_at_call 27; ((with_reducible refine (hcopy.out _ hBd.out).mono ?_); rintro e w4 ⟨Ac, cc, rfl, hG4, hB4⟩); have hB4w := Lib.hid (trans0 hBd.out hB4); have hG4w := Lib.hid (hG4.more hBd.out.size); have e1' := keep_cell hB4 (show wr.drew.cell? ⟨p, 1, none⟩ = _ from k1); have hp4 := World.block_lt_of_cell? _ _ e1'; obtain ⟨d0, d1, d2, d3⟩ := R4.below (show R4 w.heap.size 0 m wr.drew from hbx8.out) hB4; have hal4 := Lib.hid (al0 w4 (.cells (cM m Ac cc) 32)); have hst4 := Lib.hid (stand_new w4 (cR { m with A := Ac, c := cc }) 32 1); have hown4 := Lib.hid ((hown.out w4 hB4w.out).below hal4.out); clear hG4 hB4)
          | (refine step_gen rfl (.tmp 37) (.tmp 40) 26 rfl 0 32 iV _ 4 48 Try.underlying26 hiV hzV0 hzV1 hzV2 rfl (by decide) (.slice A2 mw.length c2) mw.length (gl mw) (by rfl) hown4.out (some ⟨w4.heap.size, 0, none⟩) 1 1 (cR { m with A := Ac, c := cc }) (by rfl) rfl hst4.out (cR_one _) (by unfold maxLen; omega) (by omega) (Nat.zero_le _) ?_; intro A' c' w6 ho hg hat; obtain ⟨z1, z2, hD⟩ := hend.out _ _ _ _ _ _ _ hB4w.out hG4w.out ho hg hat; replace hD := Lib.hid hD; clear ho hg hat)
          | fail)
        all_goals
          go_wp2
          go_ret
          exact ⟨by rw [e1.out]; rfl, hD.out⟩
end
end Go.Proofs.Ytipnmgihbpbonaa.ordQ
