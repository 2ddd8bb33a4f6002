/- The contract of the program's Decide. -/
import Derived.Test.YtipnmgihbpbonaaOrdH
import Derived.Test.YtipnmgihbpbonaaOrdOg
import Derived.Deep.RegionLaw
set_option linter.unusedVariables false
set_option linter.unusedSimpArgs false
set_option maxRecDepth 100000
namespace Go.Proofs.Ytipnmgihbpbonaa.ordK
open Go.ChangeShapes Go.WideShapes Go.ChangeAt Go.RowKit Go.Deep
open opV chnM gen chnA chnR chnE ordA ordB ordC ordM ordL ordD ordH ordN ordOg

theorem decided {T : TypeId} {col : Nat → Nat} {c p : Nat} {L : Lg} {A1 A2 Ac A' : Option Addr} {c1 c2 cc c' : Nat} {ms mw l' : List MR} {w w4 w6 : World} {m : MR} {o : Obj}
    (h : LogIs T col c w p L A1 c1 A2 c2 ms mw) (hc : c ≠ 0) (hf : Fresh col w) (hB : Below w.heap.size w w4) (hG : GV w4 w.heap.size Ac cc m.vs) (hsz : m.vs.length * 64 ≤ 140737488355328) (hs : Sm m.vs)
    (hg : (w4.alloc o).grownBy w6 (Value.slice A2 mw.length c2).ownBlock) (ho : GR w6 0 A' c' l') (hat : (Value.slice A' l'.length c').ownBlock = (Value.slice A2 mw.length c2).ownBlock ∨ (Value.slice A' l'.length c').ownBlock = some (w4.alloc o).heap.size)
    (hm : ∀ x ∈ l', x = { m with A := Ac, c := cc } ∨ x ∈ mw) (hl : ms.length + l'.length ≤ 200) :
    ∃ col', Ext w col col' ∧ Fresh col' (w6.setCell ⟨p, 1, none⟩ (.slice A' l'.length c')) ∧ Chg col c w (w6.setCell ⟨p, 1, none⟩ (.slice A' l'.length c')) ∧ LogIs T col' c (w6.setCell ⟨p, 1, none⟩ (.slice A' l'.length c')) p ⟨L.st, l'.map MR.r, L.bd⟩ A1 c1 A' c' ms l' := by
  refine ⟨_, h.put2 hc hf (hB.trans ((al0 w4 o).mono hB.size)) hg ho (fun k e => ?_) (fun x hx => ?_) hl⟩
  · rcases hat with h1 | h1
    · rw [h1] at e; exact .inl e
    · rw [h1] at e; cases e; have := hB.size; have := (al0 w4 o).size; exact .inr (by omega)
  · rcases hm x hx with rfl | hx
    · exact .inr ⟨hG.below (al0 w4 o), hsz, hs⟩
    · exact .inl (h.d2 x hx)
/-- the cells of a copied commit, as they are laid for Insert -/
abbrev cM (m : MR) (A : Option Addr) (c : Nat) : Array Value := #[.int .u64 m.ts, .int .i64 m.dc, .int .i64 m.tx, .slice A m.vs.length c]
/-- What Decide leaves. -/
def DecP (T : TypeId) (col : Nat → Nat) (c : Nat) (p : Nat) (L : Lg) (w w' : World) : Prop := ∃ col', Ext w col col' ∧ Fresh col' w' ∧ Chg col c w w' ∧ LogAt T col' c w' p L
theorem decP_stay {T : TypeId} {col : Nat → Nat} {c p : Nat} {L : Lg} {w w' : World} (h : LogAt T col c w p L) (hf : Fresh col w) (hB : Below w.heap.size w w') : DecP T col c p L w w' :=
  ⟨col, Ext.refl _ _, hf.up hB.size, Chg.of_below _ _ hB, h.below hB⟩
theorem map_ins (l : List MR) (i : Nat) (x : MR) : (insA l i x).map MR.r = insA (l.map MR.r) i x.r := by unfold insA; simp
section
variable {col : Nat → Nat} {c p : Nat} {L : Lg} {A1 A2 : Option Addr} {c1 c2 : Nat} {ms mw : List MR}
theorem ins_call (w w4 : World) (h : LogIs T1 col c w p L A1 c1 A2 c2 ms mw) (hB : Below w.heap.size w w4) (m : MR) (Ac : Option Addr) (cc i : Nat) (hi : i ≤ mw.length) :
    Calls Try.prog 26 #[.slice A2 mw.length c2, .int .i64 i, .slice (some ⟨w4.heap.size, 0, none⟩) 1 1] (w4.alloc (.cells (cM m Ac cc) 32)) (InR 0 A2 c2 mw i { m with A := Ac, c := cc } (w4.alloc (.cells (cM m Ac cc) 32))) := by
  have h4 := (h.below hB).below (al0 w4 (.cells (cM m Ac cc) 32))
  have hlt := fun k e => GR.lt' (k := k) (h.below hB).o2 e
  exact ins_any 0 A2 c2 mw i { m with A := Ac, c := cc } w4.heap.size _ h4.o2 hi (heap_alloc_new w4 _) (fun e => by have := hlt _ e; omega) (by have := h.len; omega) (Nat.zero_le _)
theorem dec_end {w w4 w6 : World} {e : Ending} {m : MR} {Ac : Option Addr} {cc i : Nat} (h : LogIs T1 col c w p L A1 c1 A2 c2 ms mw) (hc : c ≠ 0) (hf : Fresh col w) (hB : Below w.heap.size w w4) (hG : GV w4 w.heap.size Ac cc m.vs) (hsz : m.vs.length * 64 ≤ 140737488355328) (hs : Sm m.vs) (hl : ms.length + mw.length < 200) (hi : i ≤ mw.length)
    (hI : InR 0 A2 c2 mw i { m with A := Ac, c := cc } (w4.alloc (.cells (cM m Ac cc) 32)) e w6) :
    ∃ A' c', e = .returned (.slice A' (mw.length + 1) c') ∧ w6.cell? ⟨p, 1, none⟩ = some (.slice A2 mw.length c2) ∧ w6.frozen? ⟨p, 1, none⟩ = false ∧ DecP T1 col c p ⟨L.st, insA L.wt i m.r, L.bd⟩ w (w6.setCell ⟨p, 1, none⟩ (.slice A' (mw.length + 1) c')) := by
  obtain ⟨A', c', rfl, hG6, hg, hat⟩ := hI
  have h5 := (h.below hB).below (al0 w4 (.cells (cM m Ac cc) 32))
  have hnp : (Value.slice A2 mw.length c2).ownBlock ≠ some p := row_apart h5.row h5.o2 h5.tne
  have hp6 : w6.heap[p]? = (w4.alloc (.cells (cM m Ac cc) 32)).heap[p]? := hg.block p h5.row.lt (fun e => hnp e.symm)
  have hil := ins_len (v := { m with A := Ac, c := cc }) hi
  obtain ⟨col', g1, g2, g3, g4⟩ := decided (m := m) h hc hf hB hG hsz hs hg hG6 (by rw [hil]; exact hat) (fun x hx => ins_mem.1 hx) (by rw [hil]; omega)
  rw [hil] at g2 g3 g4
  rw [map_ins, h.e2] at g4
  exact ⟨A', c', rfl, (World.cell?_of_block (a := ⟨p, 1, none⟩) hp6).trans h5.cells.2.1, (World.frozen?_of_block (a := ⟨p, 1, none⟩) hp6).trans h5.fz.2.1, col', g1, g2, g3, _, _, _, _, _, _, g4⟩
set_option maxHeartbeats 4000000 in
theorem decide_any (w : World) (h : LogIs T1 col c w p L A1 c1 A2 c2 ms mw) (hok : L.ok) (hc : c ≠ 0) (hf : Fresh col w) (m : MR) (hm : HV w m.A m.c m.vs) (hs : Sm m.vs) (hl : ms.length + mw.length < 200) :
    Calls Try.prog 9 #[.pointer (some ⟨p, 0, none⟩), rv m] w fun e w' => e = .returned (.int .i64 (dE L m.r)) ∧ DecP T1 col c p (dS L m.r) w w' := by
  obtain ⟨W, hW⟩ : ∃ W, w.alloc (.cells #[.int .u64 m.ts, .int .i64 m.dc, .int .i64 m.tx, .slice m.A m.vs.length m.c] 32) = W := ⟨_, rfl⟩
  have hP : P4 w.heap.size m W := by rw [← hW]; exact P4.new w m
  have hBW : Below w.heap.size w W := by rw [← hW]; exact al0 _ _
  have hLW := h.below hBW
  obtain ⟨b0, b1, b2, b3⟩ := P4.r4 hP
  obtain ⟨k0, k1, k2⟩ := hLW.cells
  have hn : Hid (∀ n, Below w.heap.size w (W.drewN n) ∧ P4 w.heap.size m (W.drewN n)) := Lib.hid fun n => ⟨bdrN n hBW, P4.below hP (bdrN n (Below.refl _ _))⟩
  replace hW := Lib.hid hW
  by_cases ht : m.ts ≤ L.bd
  · have hE : dE L m.r = 11 := by unfold dE; rw [if_pos (show m.r.1.1 ≤ L.bd from ht)]
    have hS : dS L m.r = L := by unfold dS; rw [if_pos (show m.r.1.1 ≤ L.bd from ht)]
    rw [hE, hS]
    have hfin := Lib.hid (fun n => decP_stay ⟨_, _, _, _, _, _, h⟩ hf (hn.out n).1)
    have hd : decide (m.ts ≤ L.bd) = true := decide_eq_true ht
    clear h hok hf hm hs hP hBW hLW hE hS ht
    generalize L.bd = bd at *
    go_enter Try.func9, Try.ntmps9
    go_upto_region 3 with (fail)
    rw [hW.out]
    go_quiet (fail)
    go_wp2
    go_ret
    exact ⟨rfl, hfin.out _⟩
  · have hd : decide (m.ts ≤ L.bd) = false := decide_eq_false ht
    have hbsf : Hid (∀ W', Below w.heap.size w W' → Calls Try.prog 24 #[.slice A2 mw.length c2, rv m, .func (.func 25) #[] #[]] W' fun e w' =>
      e = .returned (.tuple #[.int .i64 (pos L.wt m.r), .bool (there L.wt m.r)]) ∧ Below W'.heap.size W' w') := Lib.hid fun W' hB => by
        have := bsf_any A2 c2 mw m W' ((log_hw h).below hB) (by rw [h.e2]; exact hok.upW)
        rwa [h.e2] at this
    cases hth : there L.wt m.r with
    | true =>
      have hE : dE L m.r = 8 := by unfold dE; rw [if_neg (show ¬ m.r.1.1 ≤ L.bd from ht), if_pos hth]
      have hS : dS L m.r = L := by unfold dS; rw [if_neg (show ¬ m.r.1.1 ≤ L.bd from ht), if_pos hth]
      rw [hE, hS]
      rw [hth] at hbsf
      have hfin := Lib.hid (fun w' (hB : Below w.heap.size w w') => decP_stay ⟨_, _, _, _, _, _, h⟩ hf hB)
      have hcl := Lib.hid (fun w' (hB : Below w.heap.size w w') => (h.below hB).cells.2.1)
      clear h hok hf hm hs hP hBW hLW hE hS ht hth
      generalize L.bd = bd at *
      generalize pos L.wt m.r = i at *
      go_enter Try.func9, Try.ntmps9
      go_upto_region 3 with (fail)
      rw [hW.out]
      go_quiet (fail)
      have hB2 := (hn.out nq).1
      have hP2 := (hn.out nq).2
      clear b0 b1 b2 b3 k0 k1 k2
      generalize W.drewN nq = W2 at *
      have hSS : Hid ((R4 w.heap.size 0 m W2.drew ∧ W2.drew.cell? ⟨p, 1, none⟩ = some (.slice A2 mw.length c2)) ∧ Below w.heap.size w W2.drew) := Lib.hid ⟨⟨P4.r4 (P4.below hP2 (below_drew W2)), hcl.out _ hB2.drew⟩, hB2.drew⟩
      replace hP2 := Lib.hid hP2
      replace hB2 := Lib.hid hB2
      go_upto_region 5 with (fail)
      go_region_held3 (fun w' => (R4 w.heap.size 0 m w' ∧ w'.cell? ⟨p, 1, none⟩ = some (.slice A2 mw.length c2)) ∧ Below w.heap.size w w')
        (first | with_reducible exact hSS.out | with_reducible assumption | with_reducible exact hSt.out | fail)
        (first
          | (go_at_call 24; ((with_reducible refine (hbsf.out _ hSS.out.2).mono ?_); rintro e w3 ⟨rfl, hB9⟩; have hSt : Hid ((R4 w.heap.size 0 m w3 ∧ w3.cell? ⟨p, 1, none⟩ = some (.slice A2 mw.length c2)) ∧ Below w.heap.size w w3) := Lib.hid ⟨⟨R4.below hSS.out.1.1 hB9, keep_cell hB9 hSS.out.1.2⟩, trans0 hSS.out.2 hB9⟩)) | fail)
      all_goals
        rename_i hHeld
        have hBf := Lib.hid hHeld.2
        clear hHeld
        go_wp2
        go_ret
        exact ⟨rfl, hfin.out _ hBf.out⟩
    | false =>
      have hE : dE L m.r = 0 := by unfold dE; rw [if_neg (show ¬ m.r.1.1 ≤ L.bd from ht), if_neg (by rw [hth]; simp)]
      have hS : dS L m.r = ⟨L.st, insA L.wt (pos L.wt m.r) m.r, L.bd⟩ := by unfold dS; rw [if_neg (show ¬ m.r.1.1 ≤ L.bd from ht), if_neg (by rw [hth]; simp)]
      rw [hE, hS]
      rw [hth] at hbsf
      have hil : pos L.wt m.r ≤ mw.length := by have := pos_le L.wt m.r; rw [← h.e2, List.length_map] at this; rwa [← h.e2]
      have hins := Lib.hid (fun w4 Ac cc (hB : Below w.heap.size w w4) => ins_call w w4 h hB m Ac cc _ hil)
      have hend := Lib.hid (fun w4 w6 e Ac cc (hB : Below w.heap.size w w4) hG hI => dec_end (w4 := w4) (w6 := w6) (e := e) (m := m) (Ac := Ac) (cc := cc) h hc hf hB hG hm.sm hs hl hil hI)
      have hcopy := Lib.hid (fun w' (hB : Below w.heap.size w w') => copy_any m w' (hm.below hB) hs)
      have hcl := Lib.hid (fun w' (hB : Below w.heap.size w w') => (h.below hB).cells.2.1)
      have hfz := Lib.hid (fun w' (hB : Below w.heap.size w w') => (h.below hB).fz.2.1)
      clear h hok hf hm hs hP hBW hLW hE hS ht hth hil hl hc
      generalize L.bd = bd at *
      generalize pos L.wt m.r = i at *
      go_enter Try.func9, Try.ntmps9
      go_upto_region 3 with (fail)
      rw [hW.out]
      go_quiet (fail)
      have hB2 := (hn.out nq).1
      have hP2 := (hn.out nq).2
      clear b0 b1 b2 b3 k0 k1 k2
      generalize W.drewN nq = W2 at *
      have hSS : Hid ((R4 w.heap.size 0 m W2.drew ∧ W2.drew.cell? ⟨p, 1, none⟩ = some (.slice A2 mw.length c2)) ∧ Below w.heap.size w W2.drew) := Lib.hid ⟨⟨P4.r4 (P4.below hP2 (below_drew W2)), hcl.out _ hB2.drew⟩, hB2.drew⟩
      replace hP2 := Lib.hid hP2
      replace hB2 := Lib.hid hB2
      go_upto_region 5 with (fail)
      go_region_held3 (fun w' => (R4 w.heap.size 0 m w' ∧ w'.cell? ⟨p, 1, none⟩ = some (.slice A2 mw.length c2)) ∧ Below w.heap.size w w')
        (first | with_reducible exact hSS.out | with_reducible assumption | with_reducible exact hSt.out | fail)
        (first
          | (go_at_call 24; ((with_reducible refine (hbsf.out _ hSS.out.2).mono ?_); rintro e w3 ⟨rfl, hB9⟩; have hSt : Hid ((R4 w.heap.size 0 m w3 ∧ w3.cell? ⟨p, 1, none⟩ = some (.slice A2 mw.length c2)) ∧ Below w.heap.size w w3) := Lib.hid ⟨⟨R4.below hSS.out.1.1 hB9, keep_cell hB9 hSS.out.1.2⟩, trans0 hSS.out.2 hB9⟩)) | fail)
      all_goals
        rename_i hHeld
        clear hSS hSt hbsf hcl hn hP2 hB2 hB9
        obtain ⟨⟨hb8, k1⟩, hB8⟩ := hHeld
        have k2 := hfz.out _ hB8
        have hbx8 := Lib.hid hb8
        have hBd := Lib.hid hB8.drew
        have hpl := World.block_lt_of_cell? _ _ k1
        have hwl := World.block_lt_of_cell? _ _ hb8.1
        obtain ⟨b0, b1, b2, b3⟩ := hb8
        replace hB8 := Lib.hid hB8
        go_upto_region 8 with (fail)
        go_region_law (first
          | (go_simp; go_at_call 22; ((with_reducible refine (hcopy.out _ hBd.out).mono ?_); rintro e w4 ⟨Ac, cc, rfl, hG4, hB4⟩); have hB4w := Lib.hid (trans0 hBd.out hB4); have hG4w := Lib.hid (hG4.more hBd.out.size); have e1 := keep_cell hB4 (show w3.drew.cell? ⟨p, 1, none⟩ = _ from k1); have hp4 := World.block_lt_of_cell? _ _ e1; obtain ⟨d0, d1, d2, d3⟩ := R4.below (show R4 w.heap.size 0 m w3.drew from hbx8.out) hB4; have hi4 := Lib.hid (hins.out w4 Ac cc hB4w.out); clear hG4 hB4)
          | (go_simp; go_at_call 26; ((with_reducible refine (hi4.out).mono ?_); intro e w6 hI; obtain ⟨A', c', rfl, z1, z2, hD⟩ := hend.out _ _ _ _ _ hB4w.out hG4w.out hI; replace hD := Lib.hid hD; clear hI))
          | fail)
        all_goals
          go_wp2
          go_ret
          exact ⟨rfl, hD.out⟩
end
end Go.Proofs.Ytipnmgihbpbonaa.ordK
