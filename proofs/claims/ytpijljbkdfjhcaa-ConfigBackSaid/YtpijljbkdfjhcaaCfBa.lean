/- ConfigBack (on the way). -/
import Derived.Test.YtpijljbkdfjhcaaCfRu
set_option linter.unusedVariables false
set_option maxRecDepth 100000
namespace Go.Proofs.Ytpijljbkdfjhcaa.cfBa
open Go.ChangeShapes Go.WideShapes Go.ChangeAt Go.RowKit Go.Deep
open spnM spnA spnB spnD spnI spnJ spnK spnS cfA cfB cfC cfD cfE cfF cfG cfH cfI cfJ cfK cfR cfL cfM cfN cfO cfP cfQ cfS cfT cfU cfV cfW cfX cfZ cfRu spnC
attribute [local go_sem ↓ high] op_ldS op_ldR op_ldM ex_ldS ex_ldR ex_ldM op_stS op_stR ex_stS ex_stR
attribute [local go_sem high] stW_at

attribute [local go_sem high] stS_al
/-- what the last line loads -/
abbrev QB (b0 q1 q2 dn g o : Nat) (s : Cf) (a : Wh) (R2 : Cf) (a6 : Wh) (A1 : Option Addr) (c1 c2 : Nat) (w : World) : Prop :=
  RdT TS w (.pointer (some ⟨q2, 0, none⟩)) ∧ rdV TS w (.pointer (some ⟨q2, 0, none⟩)) = .agg (cS R2 a6) ∧ RdT TS w (.pointer (some ⟨b0, 0, none⟩)) ∧ rdV TS w (.pointer (some ⟨b0, 0, none⟩)) = .agg (cS s a) ∧
  w.cell? ⟨q1, 6 + dn * 2 + 1, none⟩ = some (.slice A1 0 c1) ∧ w.cell? ⟨q2, 6 + dn * 2 + 1, none⟩ = some (.slice (some ⟨g, o, none⟩) 1 c2) ∧ w.cell? ⟨g, o, none⟩ = some (.int .i64 0)
theorem qb_of {b0 q1 q2 dn g o : Nat} {s : Cf} {a : Wh} {R1 R2 : Cf} {a5 a6 : Wh} {w w1 : World} {c2 : Nat} (hd : dn < 4) (h0 : SB TS b0 s a w) (h1 : SB TS q1 R1 a5 w) (h2 : SB TS q2 R2 a6 w) (e1 : R1.ms dn = non) (e2 : R2.ms dn = whole) (e3 : (a6 dn).A2 = some ⟨g, o, none⟩) (hc : w.cell? ⟨g, o, none⟩ = some (.int .i64 0)) (hB : Below w.heap.size w w1) :
    QB b0 q1 q2 dn g o s a R2 a6 (a5 dn).A2 (a5 dn).c2 (a6 dn).c2 w1 := by
  have k1 := (h1.below hB).m2 hd
  have k2 := (h2.below hB).m2 hd
  rw [e1] at k1
  rw [e2, e3] at k2
  exact ⟨(rd_row (h2.below hB) (.inl rfl)).1, (rd_row (h2.below hB) (.inl rfl)).2, (rd_row (h0.below hB) (.inl rfl)).1, (rd_row (h0.below hB) (.inl rfl)).2, k1, k2, keep_cell hB hc⟩
set_option maxHeartbeats 16000000 in
theorem back_good (p n d : Int) (A : Option Addr) (len cap : Nat) (ls : List opC.Cmd) (w : World) (hb : stB p p n = true) (hd : 0 ≤ d ∧ d < p) (hl : opG.Rs w opC.QCmd 6 A len ls) :
    Calls Try.prog 7 #[.int .i64 p, .int .i64 n, .slice A len cap, .int .i64 d] w fun e w' => e = .returned (.bool true) ∧ Below w.heap.size w w' := by
  have hst := start_any p p n w
  have hiv := Lib.hid (inv_start hb)
  have hsz := Lib.hid (sz_st p p n)
  have e1 : stE p p n = 0 := by unfold stE; rw [if_pos hb]
  have e2 : cfJ.stM p p n = stC p p n := by unfold cfJ.stM; rw [if_pos hb]
  rw [e1, e2] at hst
  rw [e2] at hsz
  replace hst := Lib.hid hst
  have hlen : len ≤ 9223372036854775807 := hl.2.1
  replace hl := Lib.hid hl
  have hd0 : ¬ d < 0 := by omega
  have hd1 : decide (p ≤ d) = false := decide_eq_false (by omega)
  have hb' := hb
  clear e1 e2 hb
  go_enter Try.func7, Try.ntmps7
  go_upto_region 2 with (first
    | (go_at_call 9; ((with_reducible refine hst.out.mono ?_); rintro e w1 ⟨a, rfl, hG, hB⟩; have hn := Lib.hid (show SB TS w1.heap.size zC zA (w1.alloc (.cells #[.int .i64 0, .int .i64 0, .bool false, .bool false, .bool false, .bool false, .slice none 0 0, .slice none 0 0, .slice none 0 0, .slice none 0 0, .slice none 0 0, .slice none 0 0, .slice none 0 0, .slice none 0 0, .int .i64 0, .int .i64 0, .int .i64 0, .int .i64 0, .int .i64 0, .int .i64 0, .int .i64 0, .int .i64 0, .int .i64 0, .int .i64 0, .int .i64 0, .int .i64 0, .int .i64 0, .int .i64 0, .int .i64 0, .int .i64 0, .int .i64 0, .int .i64 0, .int .i64 0, .int .i64 0, .int .i64 0] TS)) from SB.new TS zC zA w1); have hg := Lib.hid hG; have hb := Lib.hid hB; clear hG hB))
    | (refine st_put rfl TS _ _ rfl w1.heap.size (stC p p n) a rfl rfl hn.out (.inl rfl) ?_; intro W hSW hBW hGW hzW; have hR : Hid (RI w1.heap.size w.heap.size p n (stC p p n) a w W) := Lib.hid ⟨hSW, hGW _ _ _ (hg.out.below (al0 w1 (.cells #[.int .i64 0, .int .i64 0, .bool false, .bool false, .bool false, .bool false, .slice none 0 0, .slice none 0 0, .slice none 0 0, .slice none 0 0, .slice none 0 0, .slice none 0 0, .slice none 0 0, .slice none 0 0, .int .i64 0, .int .i64 0, .int .i64 0, .int .i64 0, .int .i64 0, .int .i64 0, .int .i64 0, .int .i64 0, .int .i64 0, .int .i64 0, .int .i64 0, .int .i64 0, .int .i64 0, .int .i64 0, .int .i64 0, .int .i64 0, .int .i64 0, .int .i64 0, .int .i64 0, .int .i64 0, .int .i64 0] TS))), hsz.out, hiv.out, hb.out.trans (((al0 w1 (.cells #[.int .i64 0, .int .i64 0, .bool false, .bool false, .bool false, .bool false, .slice none 0 0, .slice none 0 0, .slice none 0 0, .slice none 0 0, .slice none 0 0, .slice none 0 0, .slice none 0 0, .slice none 0 0, .int .i64 0, .int .i64 0, .int .i64 0, .int .i64 0, .int .i64 0, .int .i64 0, .int .i64 0, .int .i64 0, .int .i64 0, .int .i64 0, .int .i64 0, .int .i64 0, .int .i64 0, .int .i64 0, .int .i64 0, .int .i64 0, .int .i64 0, .int .i64 0, .int .i64 0, .int .i64 0, .int .i64 0] TS)).trans (hBW w1.heap.size (Nat.le_refl _))).mono hb.out.size)⟩; have hle := Lib.hid hb.out.size; clear hSW hBW hGW hzW hn hg hb)
    | fail)
  generalize w1.heap.size = b0 at *
  clear hst hiv hsz
  generalize stC p p n = s0 at *
  go_wp2_with (fail)
  go_loopw [11] (fun i wr => ∃ (j : Nat) (s : Cf) (a : Wh), j ≤ len ∧ j ≤ 30 ∧ i = .int .i64 j ∧ Hid (RI b0 w.heap.size p n s a w wr)) (fun i _ => 30 - (intOf i).toNat)
  case atStart => exact ⟨0, _, _, by omega, by omega, rfl, hR⟩
  case round =>
    clear hR
    obtain ⟨j, s, a, hj, hj80, rfl, hR⟩ := hrel
    by_cases hlt : j < len ∧ j < 30
    · obtain ⟨hlt, hl8⟩ := hlt
      obtain ⟨b, off, rfl, hbl, ⟨f0, f1, f2, f3, f4, f5⟩, hk⟩ : ∃ b off, A = some ⟨b, off, none⟩ ∧ b < w.heap.size ∧ opC.QCmd w b (off + j * 6) (ls.getD j default) := by
        rcases hl.out.2.2 with h0 | ⟨b, off, e, h3, h4⟩
        · omega
        · exact ⟨b, off, e, h3, h4 j hlt⟩
      generalize ls.getD j default = C at *
      obtain ⟨c, hc⟩ : ∃ c : Cm, c = ⟨C.kind, C.dc, C.shard, C.node, C.mode, C.key⟩ := ⟨_, rfl⟩
      have hkc : Hid (KC c) := Lib.hid (by rw [hc]; exact ⟨hk.1, hk.2.1, hk.2.2.1, hk.2.2.2.1, hk.2.2.2.2.1⟩)
      have hL0 : L6o b (off + j * 6) c w := by rw [hc]; exact ⟨f0, f1, f2, f3, f4, f5⟩
      have ge : ∀ o, wr.cell? ⟨b, o, none⟩ = w.cell? ⟨b, o, none⟩ := fun o => hR.out.bel.cell (p := ⟨b, o, none⟩) hbl
      have hL : Hid (L6o b (off + j * 6) c wr) := Lib.hid (by unfold L6o; rw [ge, ge, ge, ge, ge, ge]; exact hL0)
      clear hc hk f0 f1 f2 f3 f4 f5 hL0 ge hbl
      have hjI : (j : Int) < (len : Int) := by omega
      have hj8I : (j : Int) < 30 := by omega
      have hj0 : (0 : Int) ≤ (j : Int) := by omega
      have hs4 := Lib.hid (q7_of (hR.out.sb.drew) (l6o_to hL.out (below_drew wr)))
      have hs5 := Lib.hid (fun o => q7_of (SB.drew (hR.out.sb.below (al0 wr o))) (l6o_to (l6o_to hL.out (al0 wr o)) (below_drew _)))
      have hq := Lib.hid (fun (w' : World) (hB : Below wr.heap.size wr w') => q7_of (hR.out.sb.below hB) (l6o_to hL.out hB))
      have hap := Lib.hid (fun (w' : World) (hB : Below wr.heap.size wr w') => apply_any s a c w' hkc.out ((hR.out.gs.below hB).hs hR.out.sz))
      have hin := Lib.hid (show apE s c = 0 → InvC p n (apM s c) from fun h0 => by unfold apM; rw [if_pos h0]; exact inv_step hR.out.inv h0)
      have hno := Lib.hid (show apE s c ≠ 0 → apM s c = zC from fun h0 => by unfold apM; rw [if_neg h0])
      have hszR := Lib.hid (sz_ap hR.out.sz c)
      generalize apE s c = E at *
      generalize apM s c = R at *
      go_upto_region 7 with (fail)
      go_cut [12, 13] from 48 to 56 (fun x y wx => ∃ q a2, x = .pointer (some ⟨q, 0, none⟩) ∧ y = .int .i64 (E : Int) ∧ Hid (N7 wr q R a2 wx))
      case first =>
        clear hin hno hszR hR hL
        go_region_held3 (Q7 b0 b (off + j * 6) s a c)
          (first | with_reducible exact hs4.out | with_reducible exact hs5.out _ | with_reducible exact s6.out | with_reducible exact s6a.out _ | with_reducible exact s6b.out | with_reducible exact s6c.out _ | (go_must (exact (0 : Nat))) | fail)
          (first
            | (go_at_call 16; ((with_reducible refine (hap.out _ (by first | with_reducible exact below_drew _ | with_reducible exact (al0 _ _).drew)).mono ?_); rintro e w6 ⟨a6, rfl, hG, hB6⟩; (first | (have x6 : Hid (Below wr.heap.size wr w6) := Lib.hid (by with_reducible exact undrewB hB6); have s6a := Lib.hid (fun o => hq.out _ (belowA x6.out o)); have s6c := Lib.hid (fun o => hq.out _ (below_setRow' (belowA x6.out o) x6.out.size (cS R a6))); have n6C := Lib.hid (fun (cs : Array Value) (e : cs = cS zC zA) => n7_of (V := wr) (p := w6.heap.size) (w6 := w6.alloc (.cells cs TS)) x6.out.size (Nat.le_refl _) (show SB TS _ zC zA _ from by subst e; exact SB.new TS zC zA w6) (GS.below hG (al0 w6 _)) (belowA x6.out _))) | (have x6 : Hid (Below wr.heap.size wr w6) := Lib.hid (by with_reducible exact undrewC hB6); have z6 : SB TS wr.heap.size zC zA w6 := undrewZ hB6 rfl; have st6 := st_of z6 (.inl rfl) R a6; have s6b := Lib.hid (hq.out _ (below_setRow' x6.out (Nat.le_refl _) (cS R a6))); have n6B := Lib.hid (n7_of (V := wr) (Nat.le_refl _) (szal hB6) z6 hG x6.out); clear z6) | fail); have s6 := Lib.hid (hq.out _ x6.out); clear hG hB6))
            | fail)
        all_goals
          go_wp2
          go_meet
          first | exact ⟨_, _, rfl, rfl, n6B⟩ | exact ⟨_, _, rfl, rfl, Lib.hid (n6C.out _ rfl)⟩ | (go_must (exact (0 : Nat)))
      case rest =>
        obtain ⟨q, a2, rfl, rfl, hn⟩ := hcut
        have hRc := Lib.hid (hR.out.to (Nat.le_refl _) hn.out.bel)
        have hx := Lib.hid hn.out.sb
        have hxg := Lib.hid (hn.out.gs.more hR.out.bel.size)
        have hqb := Lib.hid (show q ≠ b0 from by have := hn.out.le; have := hR.out.sb.lt; omega)
        clear hn hR hap hq hs4 hs5 hL hkc
        rename_i K1 aK1
        by_cases h0 : E = 0
        · have hI := Lib.hid (hin.out h0)
          subst h0
          clear hin hno
          have hS9 := Lib.hid hRc.out.sb
          go_wp2_with (first | (refine st_load rfl TS _ rfl q rfl hx.out (.inl rfl) ?_) | (refine st_put rfl TS _ _ rfl b0 R a2 rfl rfl hS9.out (.inl rfl) ?_; intro V hSV hBV hGV hzV; have hR2 : Hid (RI b0 w.heap.size p n R a2 w V) := Lib.hid ⟨hSV, hGV _ _ _ hxg.out, hszR.out, hI.out, hRc.out.bel.trans (hBV w.heap.size hle.out)⟩; clear hSV hBV hGV hzV) | fail)
          go_roundw
          case rel => exact ⟨j + 1, R, a2, by omega, by omega, by go_num, hR2⟩
          case measure => simp [intOf]; omega
        · have h0' : ((E : Int) == 0) = false := by rw [beq_eq_false_iff_ne]; omega
          clear hno hin h0 hqb hxg hszR hx
          go_wp2
          go_roundw
          case rel => exact ⟨j + 1, s, a, by omega, by omega, by go_num, hRc⟩
          case measure => simp [intOf]; omega
    · have hex : (¬ (j : Int) < (len : Int)) ∨ ((j : Int) < (len : Int) ∧ ¬ (j : Int) < 30) := by omega
      have hRj := hR
      obtain ⟨dn, hdn⟩ : ∃ dn, d.toNat = dn := ⟨_, rfl⟩
      have hdp := Lib.hid (show (dn : Int) = d ∧ d < s.pool from ⟨by omega, by rw [hR.out.inv.pool]; exact hd.2⟩)
      have hp4 := Lib.hid (show p ≤ 4 from (stB_iff.1 hb').1.2)
      clear hR hd hlt
      have hd4 : dn < 4 := by have := hdp.out; have := hp4.out; rw [hRj.out.inv.pool] at *; omega
      have g0 : (0 : Int) ≤ d := by have := hdp.out; omega
      have g1 : d < 4 := by have := hdp.out; omega
      have km := hRj.out.sb.me hd4
      rcases hex with hx1 | ⟨hx1, hx2⟩
      all_goals
        cases hm : s.me dn with
        | false =>
          rw [hm] at km
          have hb9 := Lib.hid hRj.out.bel
          go_wp2_with (first | (go_at_call 11; ((with_reducible refine (awake_any _).mono ?_); rintro e w9 ⟨rfl, hB9⟩; have hb10 := Lib.hid (trans0 hb9.out hB9); clear hB9)) | fail)
          go_ret
          exact ⟨rfl, hb10.out⟩
        | true =>
          rw [hm] at km
          have hdd := hdp.out
          have hkR : KC ⟨2, d, 0, 0, 0, emp⟩ := ⟨⟨by show (_ : Int) ≤ 2; omega, by show (2 : Int) ≤ _; omega⟩, ⟨by show (_ : Int) ≤ d; omega, by show d ≤ _; omega⟩, ⟨by show (_ : Int) ≤ 0; omega, by show (0 : Int) ≤ _; omega⟩, ⟨by show (_ : Int) ≤ 0; omega, by show (0 : Int) ≤ _; omega⟩, ⟨by show (_ : Int) ≤ 0; omega, by show (0 : Int) ≤ _; omega⟩⟩
          have hkA : KC ⟨1, d, 0, 0, 0, emp⟩ := ⟨⟨by show (_ : Int) ≤ 1; omega, by show (1 : Int) ≤ _; omega⟩, hkR.dc, hkR.shard, hkR.node, hkR.mode⟩
          have hE1 : apE s ⟨2, d, 0, 0, 0, emp⟩ = if cnt s = 1 then 13 else 0 := by
            unfold apE
            rw [if_neg (show ¬ ¬ (1 ≤ (2 : Int) ∧ (2 : Int) ≤ 6) by omega), if_neg (show ¬ ¬ (0 ≤ d ∧ d ≤ 3 ∧ d < s.pool) by omega), if_neg (show ¬ (2 : Int) = 1 by omega), if_neg (by show ¬ s.me d.toNat = false; rw [hdn, hm]; simp), if_pos rfl]
          have hC1 : chM s ⟨2, d, 0, 0, 0, emp⟩ = remM s dn := by
            unfold chM
            rw [if_neg (show ¬ (2 : Int) = 1 by omega), if_pos rfl]
            show remM s d.toNat = _
            rw [hdn]
          have hE2 : apE (remM s dn) ⟨1, d, 0, 0, 0, emp⟩ = 0 := by
            unfold apE
            rw [if_neg (show ¬ ¬ (1 ≤ (1 : Int) ∧ (1 : Int) ≤ 6) by omega), if_neg (show ¬ ¬ (0 ≤ d ∧ d ≤ 3 ∧ d < (remM s dn).pool) from fun q => q ⟨by omega, by omega, hdd.2⟩), if_pos rfl, if_neg (by show ¬ upd s.me dn false d.toNat = true; rw [hdn, upd_same]; simp)]
          have hC2 : apM (remM s dn) ⟨1, d, 0, 0, 0, emp⟩ = addM (remM s dn) dn := by
            unfold apM
            rw [if_pos hE2]
            unfold chM
            rw [if_pos rfl]
            show addM _ d.toNat = _
            rw [hdn]
          have hM1 : apM s ⟨2, d, 0, 0, 0, emp⟩ = if cnt s = 1 then zC else remM s dn := by
            unfold apM
            rw [hE1, hC1]
            by_cases h1 : cnt s = 1
            · rw [if_pos h1, if_pos h1, if_neg (by omega)]
            · rw [if_neg h1, if_neg h1, if_pos rfl]
          have hap1 := Lib.hid (fun w' (h : HS w' s a) => apply_any s a ⟨2, d, 0, 0, 0, emp⟩ w' hkR h)
          rw [hE1, hM1] at hap1
          have hap2 := Lib.hid (fun w' a' (h : HS w' (remM s dn) a') => apply_any (remM s dn) a' ⟨1, d, 0, 0, 0, emp⟩ w' hkA h)
          rw [hE2, hC2] at hap2
          have hsz1 := Lib.hid (show cnt s ≠ 1 → Sz (remM s dn) from fun h1 => by have := sz_ap hRj.out.sz ⟨2, d, 0, 0, 0, emp⟩; rw [hM1, if_neg h1] at this; exact this)
          clear hkR hkA hE1 hC1 hE2 hC2 hM1 hdd
          have hS0 := Lib.hid hRj.out.sb
          by_cases h1 : cnt s = 1
          · simp only [if_pos h1] at hap1
            have hct := Lib.hid (fun w => count_any s a w)
            rw [h1] at hct
            clear h1 hap2 hsz1
            go_wp2_with (first
              | (refine st_load rfl TS _ rfl b0 rfl hS0.out (.inl rfl) ?_)
              | (go_at_call 16; ((with_reducible refine (hap1.out _ (hRj.out.gs.hs hRj.out.sz)).mono ?_); rintro e w5 ⟨a5, rfl, hG5, hB5⟩; have hn5 := Lib.hid (show SB TS w5.heap.size zC zA (w5.alloc (.cells #[.int .i64 0, .int .i64 0, .bool false, .bool false, .bool false, .bool false, .slice none 0 0, .slice none 0 0, .slice none 0 0, .slice none 0 0, .slice none 0 0, .slice none 0 0, .slice none 0 0, .slice none 0 0, .int .i64 0, .int .i64 0, .int .i64 0, .int .i64 0, .int .i64 0, .int .i64 0, .int .i64 0, .int .i64 0, .int .i64 0, .int .i64 0, .int .i64 0, .int .i64 0, .int .i64 0, .int .i64 0, .int .i64 0, .int .i64 0, .int .i64 0, .int .i64 0, .int .i64 0, .int .i64 0, .int .i64 0] TS)) from SB.new TS zC zA w5); have hb5 := Lib.hid hB5; clear hG5 hB5))
              | (refine st_put rfl TS _ _ rfl w5.heap.size zC a5 rfl rfl hn5.out (.inl rfl) ?_; intro V hSV hBV hGV hzV; have hv := Lib.hid (hRj.out.to (Nat.le_refl _) (trans0 hb5.out ((al0 w5 (.cells #[.int .i64 0, .int .i64 0, .bool false, .bool false, .bool false, .bool false, .slice none 0 0, .slice none 0 0, .slice none 0 0, .slice none 0 0, .slice none 0 0, .slice none 0 0, .slice none 0 0, .slice none 0 0, .int .i64 0, .int .i64 0, .int .i64 0, .int .i64 0, .int .i64 0, .int .i64 0, .int .i64 0, .int .i64 0, .int .i64 0, .int .i64 0, .int .i64 0, .int .i64 0, .int .i64 0, .int .i64 0, .int .i64 0, .int .i64 0, .int .i64 0, .int .i64 0, .int .i64 0, .int .i64 0, .int .i64 0] TS)).trans (hBV w5.heap.size (Nat.le_refl _))))); clear hSV hBV hGV hzV)
              | (go_at_call 11; ((with_reducible refine (awake_any _).mono ?_); rintro e w9 ⟨rfl, hB9⟩; have hv9 := Lib.hid (hv.out.to (Nat.le_refl _) hB9); obtain ⟨r1, r2⟩ := rd_row hv9.out.sb (.inl rfl); clear hB9))
              | (go_at_call 13; ((with_reducible refine (hct.out _).mono ?_); rintro e w10 ⟨rfl, hB10⟩; have hv10 := Lib.hid (hv9.out.to (Nat.le_refl _) hB10); clear hB10))
              | fail)
            go_ret
            exact ⟨by simp, hv10.out.bel⟩
          · simp only [if_neg h1] at hap1
            have hz1 := Lib.hid (hsz1.out h1)
            have hcc : Hid (cnt (addM (remM s dn) dn) = cnt s) := Lib.hid (by
              rw [cnt_four, cnt_four]
              show (if upd (upd s.me dn false) dn true 0 = true then 1 else 0) + (if upd (upd s.me dn false) dn true 1 = true then 1 else 0) + (if upd (upd s.me dn false) dn true 2 = true then 1 else 0) + (if upd (upd s.me dn false) dn true 3 = true then 1 else 0) = _
              rcases four hd4 with rfl | rfl | rfl | rfl <;> simp [upd, hm])
            have hct := Lib.hid (fun w => count_any s a w)
            have hct2 := Lib.hid (fun a' w => count_any (addM (remM s dn) dn) a' w)
            rw [hcc.out] at hct2
            have hmo1 := Lib.hid (show ∀ k, k < 5 → (remM s dn).mo (1 + 5 * dn + k) = 2 from fun k hk => by show spkF _ dn 5 2 _ = 2; unfold spkF; rw [if_pos (by omega)])
            have hmo2 := Lib.hid (show ∀ k, k < 5 → (addM (remM s dn) dn).mo (1 + 5 * dn + k) = 2 from fun k hk => by show spkF _ dn 5 2 _ = 2; unfold spkF; rw [if_pos (by omega)])
            have hm1 := Lib.hid (show (remM s dn).ms dn = non from upd_same _ _ _)
            have hm2 := Lib.hid (show (addM (remM s dn) dn).ms dn = whole from upd_same _ _ _)
            have hpl := Lib.hid (fun (x : Int) (w : World) (q1 : -1 ≤ x) (q2 : x ≤ 4) => place_any d x w g0 (by omega) q1 q2)
            have hn14 := Lib.hid hRj.out.inv.n1
            clear h1 hsz1 hcc hm
            generalize addM (remM s dn) dn = R2 at *
            generalize remM s dn = R1 at *
            go_upto_region 16 with (first
              | (refine st_load rfl TS _ rfl b0 rfl hS0.out (.inl rfl) ?_)
              | (go_at_call 16; ((with_reducible refine (hap1.out _ (hRj.out.gs.hs hRj.out.sz)).mono ?_); rintro e w5 ⟨a5, rfl, hG5, hB5⟩; have hn5 := Lib.hid (show SB TS w5.heap.size zC zA (w5.alloc (.cells #[.int .i64 0, .int .i64 0, .bool false, .bool false, .bool false, .bool false, .slice none 0 0, .slice none 0 0, .slice none 0 0, .slice none 0 0, .slice none 0 0, .slice none 0 0, .slice none 0 0, .slice none 0 0, .int .i64 0, .int .i64 0, .int .i64 0, .int .i64 0, .int .i64 0, .int .i64 0, .int .i64 0, .int .i64 0, .int .i64 0, .int .i64 0, .int .i64 0, .int .i64 0, .int .i64 0, .int .i64 0, .int .i64 0, .int .i64 0, .int .i64 0, .int .i64 0, .int .i64 0, .int .i64 0, .int .i64 0] TS)) from SB.new TS zC zA w5); have hg5 := Lib.hid hG5; have hb5 := Lib.hid hB5; clear hG5 hB5))
              | (refine st_put rfl TS _ _ rfl w5.heap.size R1 a5 rfl rfl hn5.out (.inl rfl) ?_; intro V hSV hBV hGV hzV; have hx5 := Lib.hid hSV; have hgx := Lib.hid (hGV _ _ _ (hg5.out.below (al0 w5 (.cells #[.int .i64 0, .int .i64 0, .bool false, .bool false, .bool false, .bool false, .slice none 0 0, .slice none 0 0, .slice none 0 0, .slice none 0 0, .slice none 0 0, .slice none 0 0, .slice none 0 0, .slice none 0 0, .int .i64 0, .int .i64 0, .int .i64 0, .int .i64 0, .int .i64 0, .int .i64 0, .int .i64 0, .int .i64 0, .int .i64 0, .int .i64 0, .int .i64 0, .int .i64 0, .int .i64 0, .int .i64 0, .int .i64 0, .int .i64 0, .int .i64 0, .int .i64 0, .int .i64 0, .int .i64 0, .int .i64 0] TS)))); have hv := Lib.hid (hRj.out.to (Nat.le_refl _) (trans0 hb5.out ((al0 w5 (.cells #[.int .i64 0, .int .i64 0, .bool false, .bool false, .bool false, .bool false, .slice none 0 0, .slice none 0 0, .slice none 0 0, .slice none 0 0, .slice none 0 0, .slice none 0 0, .slice none 0 0, .slice none 0 0, .int .i64 0, .int .i64 0, .int .i64 0, .int .i64 0, .int .i64 0, .int .i64 0, .int .i64 0, .int .i64 0, .int .i64 0, .int .i64 0, .int .i64 0, .int .i64 0, .int .i64 0, .int .i64 0, .int .i64 0, .int .i64 0, .int .i64 0, .int .i64 0, .int .i64 0, .int .i64 0, .int .i64 0] TS)).trans (hBV w5.heap.size (Nat.le_refl _))))); clear hSV hBV hGV hzV hS0)
              | (refine st_load rfl TS _ rfl w5.heap.size rfl hx5.out (.inl rfl) ?_)
              | (go_at_call 16; ((with_reducible refine (hap2.out _ _ (hgx.out.hs hz1.out)).mono ?_); rintro e w6 ⟨a6, rfl, hG6, hB6⟩; have hn6 := Lib.hid (show SB TS w6.heap.size zC zA (w6.alloc (.cells #[.int .i64 0, .int .i64 0, .bool false, .bool false, .bool false, .bool false, .slice none 0 0, .slice none 0 0, .slice none 0 0, .slice none 0 0, .slice none 0 0, .slice none 0 0, .slice none 0 0, .slice none 0 0, .int .i64 0, .int .i64 0, .int .i64 0, .int .i64 0, .int .i64 0, .int .i64 0, .int .i64 0, .int .i64 0, .int .i64 0, .int .i64 0, .int .i64 0, .int .i64 0, .int .i64 0, .int .i64 0, .int .i64 0, .int .i64 0, .int .i64 0, .int .i64 0, .int .i64 0, .int .i64 0, .int .i64 0] TS)) from SB.new TS zC zA w6); have hg6 := Lib.hid hG6; have hb6 := Lib.hid hB6; clear hG6 hB6))
              | (refine st_put rfl TS _ _ rfl w6.heap.size R2 a6 rfl rfl hn6.out (.inl rfl) ?_; intro U hSU hBU hGU hzU; have hbU := Lib.hid (trans0 hb6.out ((al0 w6 (.cells #[.int .i64 0, .int .i64 0, .bool false, .bool false, .bool false, .bool false, .slice none 0 0, .slice none 0 0, .slice none 0 0, .slice none 0 0, .slice none 0 0, .slice none 0 0, .slice none 0 0, .slice none 0 0, .int .i64 0, .int .i64 0, .int .i64 0, .int .i64 0, .int .i64 0, .int .i64 0, .int .i64 0, .int .i64 0, .int .i64 0, .int .i64 0, .int .i64 0, .int .i64 0, .int .i64 0, .int .i64 0, .int .i64 0, .int .i64 0, .int .i64 0, .int .i64 0, .int .i64 0, .int .i64 0, .int .i64 0] TS)).trans (hBU w6.heap.size (Nat.le_refl _)))); have hy6 := Lib.hid hSU; have hgy := Lib.hid (hGU _ _ _ (hg6.out.below (al0 w6 (.cells #[.int .i64 0, .int .i64 0, .bool false, .bool false, .bool false, .bool false, .slice none 0 0, .slice none 0 0, .slice none 0 0, .slice none 0 0, .slice none 0 0, .slice none 0 0, .slice none 0 0, .slice none 0 0, .int .i64 0, .int .i64 0, .int .i64 0, .int .i64 0, .int .i64 0, .int .i64 0, .int .i64 0, .int .i64 0, .int .i64 0, .int .i64 0, .int .i64 0, .int .i64 0, .int .i64 0, .int .i64 0, .int .i64 0, .int .i64 0, .int .i64 0, .int .i64 0, .int .i64 0, .int .i64 0, .int .i64 0] TS)))); have hx6 := Lib.hid (hx5.out.below hbU.out); have hv6 := Lib.hid (hv.out.to (Nat.le_refl _) hbU.out); clear hSU hBU hGU hzU)
              | fail)
            clear hap1 hap2 hn5 hg5 hb5 hn6 hg6 hb6 hbU hx5 hgx hv hz1 hRj
            generalize w5.heap.size = q1 at *
            generalize w6.heap.size = q2 at *
            go_wp2_with (fail)
            go_loopw [18] (fun i wr => ∃ k : Nat, k ≤ n.toNat + 1 ∧ i = .int .i64 ((k : Int) - 1) ∧ U = wr) (fun i _ => (n + 1 : Int).toNat - (intOf i + 1).toNat)
            case atStart => exact ⟨0, by omega, rfl, rfl⟩
            case round =>
              obtain ⟨k, hk, rfl, rfl⟩ := hrel
              have hnn := hn14.out
              by_cases hlk : k < n.toNat + 1
              · have hl1 : (k : Int) - 1 < n := by omega
                have hp0 : (0 : Int) ≤ 1 + 5 * d + ((k : Int) - 1) + 1 := by omega
                have hp1 : 1 + 5 * d + ((k : Int) - 1) + 1 < 21 := by omega
                have hdd := hdp.out
                have hp2 : (1 + 5 * d + ((k : Int) - 1) + 1).toNat = 1 + 5 * dn + k := by omega
                have hx7 := hx6.out.mo (j := 1 + 5 * dn + k) (by omega)
                have hy7 := hy6.out.mo (j := 1 + 5 * dn + k) (by omega)
                rw [hmo1.out k (by omega)] at hx7
                rw [hmo2.out k (by omega)] at hy7
                have hpc := Lib.hid (fun w => hpl.out ((k : Int) - 1) w (by omega) (by omega))
                have g3 : IntKind.i64.wrap ((k : Int) - 1 + 1) = (((k + 1 : Nat) : Int)) - 1 := by rw [wrap_in _ (by omega) (by omega)]; omega
                clear hdd hnn
                go_wp2_with (first | (go_at_call 24; ((with_reducible refine (hpc.out _).mono ?_); rintro e w' ⟨rfl, rfl⟩)) | fail)
                go_roundw
                case rel => exact ⟨k + 1, by omega, by first | rfl | simp, by trivial⟩
                case measure => simp [intOf]; omega
              · obtain rfl : k = n.toNat + 1 := by omega
                have hl1 : ¬ (((n.toNat + 1 : Nat) : Int) - 1 < n) := by omega
                clear hnn
                obtain ⟨gb, go_, e3, -, hcz⟩ := (own_rl ((hgy.out dn hd4).ns)).at (i := 0) (by rw [hm2.out]; decide)
                have hcz0 := hcz 0 (by rw [hm2.out]; decide)
                rw [hm2.out, Nat.add_zero] at hcz0
                have hqb := Lib.hid (fun (w1 : World) (hB : Below U.heap.size U w1) => qb_of (c2 := 0) hd4 hv6.out.sb hx6.out hy6.out hm1.out hm2.out e3 hcz0 hB)
                have qz := Lib.hid (hqb.out _ (below_drew U))
                clear hcz hcz0 e3 hx6 hy6 hgy hm1 hm2 hmo1 hmo2
                go_wp2_with (fail)
                go_region_held3 (QB b0 q1 q2 dn gb go_ s a R2 a6 (a5 dn).A2 (a5 dn).c2 (a6 dn).c2)
                  (first | with_reducible exact qz.out | with_reducible exact qa.out | with_reducible exact qc.out | with_reducible exact qd.out | (go_must (exact (0 : Nat))))
                  (first
                    | (go_at_call 11; ((with_reducible refine (awake_any _).mono ?_); rintro e v1 ⟨rfl, hB⟩; have xa : Hid (Below U.heap.size U v1) := Lib.hid (undrewB hB); have qa := Lib.hid (hqb.out _ xa.out); clear hB))
                    | (go_at_call 13; ((with_reducible refine (hct2.out _ _).mono ?_); rintro e v2 ⟨rfl, hB⟩; have xc : Hid (Below U.heap.size U v2) := Lib.hid (trans0 xa.out hB); have qc := Lib.hid (hqb.out _ xc.out); clear hB))
                    | (go_at_call 13; ((with_reducible refine (hct.out _).mono ?_); rintro e v3 ⟨rfl, hB⟩; have xd : Hid (Below U.heap.size U v3) := Lib.hid (trans0 xc.out hB); have qd := Lib.hid (hqb.out _ xd.out); clear hB))
                    | fail)
                all_goals
                  go_wp2
                  go_ret
                  exact ⟨by simp, (hv6.out.to (Nat.le_refl _) xd.out).bel⟩
set_option maxHeartbeats 1000000 in
theorem back_bad (p n d : Int) (v : Value) (w : World) (hb : ¬ (stB p p n = true ∧ 0 ≤ d ∧ d < p)) :
    Calls Try.prog 7 #[.int .i64 p, .int .i64 n, v, .int .i64 d] w fun e w' => e = .returned (.bool true) ∧ Below w.heap.size w w' := by
  have hst := Lib.hid (start_any p p n w)
  have hw : stE p p n = 1 ∨ (stE p p n = 0 ∧ (d < 0 ∨ (¬ d < 0 ∧ decide (p ≤ d) = true))) := by
    by_cases h : stB p p n = true
    · refine .inr ⟨if_pos h, ?_⟩
      by_cases h0 : d < 0
      · exact .inl h0
      · exact .inr ⟨h0, decide_eq_true (by by_cases h2 : d < p; exact absurd ⟨h, by omega, h2⟩ hb; omega)⟩
    · exact .inl (if_neg h)
  generalize stE p p n = E at *
  generalize cfJ.stM p p n = R at *
  clear hb
  rcases hw with rfl | ⟨rfl, h0 | ⟨h0, h1⟩⟩
  all_goals
    go_enter Try.func7, Try.ntmps7
    go_wp2_with (first
      | (go_at_call 9; ((with_reducible refine hst.out.mono ?_); rintro e w1 ⟨a, rfl, hG, hB⟩; have hn := Lib.hid (show SB TS w1.heap.size zC zA (w1.alloc (.cells #[.int .i64 0, .int .i64 0, .bool false, .bool false, .bool false, .bool false, .slice none 0 0, .slice none 0 0, .slice none 0 0, .slice none 0 0, .slice none 0 0, .slice none 0 0, .slice none 0 0, .slice none 0 0, .int .i64 0, .int .i64 0, .int .i64 0, .int .i64 0, .int .i64 0, .int .i64 0, .int .i64 0, .int .i64 0, .int .i64 0, .int .i64 0, .int .i64 0, .int .i64 0, .int .i64 0, .int .i64 0, .int .i64 0, .int .i64 0, .int .i64 0, .int .i64 0, .int .i64 0, .int .i64 0, .int .i64 0] TS)) from SB.new TS zC zA w1); have hb := Lib.hid hB; clear hG hB))
      | (refine st_put rfl TS _ _ rfl w1.heap.size R a rfl rfl hn.out (.inl rfl) ?_; intro W hSW hBW hGW hzW; have hbW := Lib.hid (trans0 hb.out ((al0 w1 (.cells #[.int .i64 0, .int .i64 0, .bool false, .bool false, .bool false, .bool false, .slice none 0 0, .slice none 0 0, .slice none 0 0, .slice none 0 0, .slice none 0 0, .slice none 0 0, .slice none 0 0, .slice none 0 0, .int .i64 0, .int .i64 0, .int .i64 0, .int .i64 0, .int .i64 0, .int .i64 0, .int .i64 0, .int .i64 0, .int .i64 0, .int .i64 0, .int .i64 0, .int .i64 0, .int .i64 0, .int .i64 0, .int .i64 0, .int .i64 0, .int .i64 0, .int .i64 0, .int .i64 0, .int .i64 0, .int .i64 0] TS)).trans (hBW w1.heap.size (Nat.le_refl _)))); clear hSW hBW hGW hzW)
      | (go_at_call 11; ((with_reducible refine (awake_any _).mono ?_); rintro e w9 ⟨rfl, hB9⟩; have hb10 := Lib.hid (trans0 hbW.out hB9); clear hB9))
      | fail)
    go_ret
    exact ⟨rfl, hb10.out⟩
theorem back_any (p n d : Int) (A : Option Addr) (len cap : Nat) (ls : List opC.Cmd) (w : World) (hl : opG.Rs w opC.QCmd 6 A len ls) :
    Calls Try.prog 7 #[.int .i64 p, .int .i64 n, .slice A len cap, .int .i64 d] w fun e w' => e = .returned (.bool true) ∧ Below w.heap.size w w' := by
  by_cases hb : stB p p n = true ∧ 0 ≤ d ∧ d < p
  · exact back_good p n d A len cap ls w hb.1 hb.2 hl
  · exact back_bad p n d _ w hb
end Go.Proofs.Ytpijljbkdfjhcaa.cfBa
