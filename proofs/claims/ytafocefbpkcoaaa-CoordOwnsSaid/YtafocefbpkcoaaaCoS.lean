/- Shares, the program's and the document's. -/
import Derived.Test.YtafocefbpkcoaaaCoA
import Derived.Test.YtafocefbpkcoaaaCoD
import Derived.Test.YtafocefbpkcoaaaCoDs
set_option linter.unusedVariables false
set_option linter.unusedSimpArgs false
set_option maxRecDepth 100000
namespace Go.Proofs.Ytafocefbpkcoaaa.coS
open Go.ChangeShapes Go.WideShapes Go.ChangeAt Go.RowKit Go.Deep
open opG opV chnM gen chnA chnR chnE ordA ordC coG coO coM coP coL coN coB coK coV coE coF coW coT coA coD coDs

/-! ### Plainly -/
def owV (m : spnM.M) (n : Int) (ws : List Ver) : List Ver := ws.filter fun v => decide (spnM.own m v.key = n)
def shJ (m : spnM.M) (ws : List Ver) : Nat → List Sh
  | 0 => []
  | j + 1 => shJ m ws j ++ (if owV m j ws = [] then [] else [⟨j, owV m j ws⟩])
theorem owV_up {m : spnM.M} {n : Int} {ws : List Ver} {j : Nat} {v : Ver} (h : ws[j]? = some v) : owV m n (ws.take (j + 1)) = if spnM.own m v.key = n then owV m n (ws.take j) ++ [v] else owV m n (ws.take j) := by
  have hj := (List.getElem?_eq_some_iff.1 h).1
  unfold owV
  rw [List.take_succ_eq_append_getElem hj, (List.getElem?_eq_some_iff.1 h).2, List.filter_append]
  by_cases e : spnM.own m v.key = n
  · rw [if_pos e]; simp [e]
  · rw [if_neg e]; simp [e]
theorem owV_len (m : spnM.M) (n : Int) (ws : List Ver) : (owV m n ws).length ≤ ws.length := List.length_filter_le _ _
theorem shJ_len (m : spnM.M) (ws : List Ver) : ∀ j, (shJ m ws j).length ≤ j
  | 0 => Nat.le_refl _
  | j + 1 => by
    have := shJ_len m ws j
    unfold shJ
    rw [List.length_append]
    split <;> simp <;> omega
section
variable {w w1 w9 X X1 : World} {base : Nat} {A A9 : Option Addr} {c c9 : Nat} {rs : List SR} {r : SR} {S : Shape SR}
/-- a row of shares of new memory has grown -/
theorem rows_grow (hS : S.t ≠ 64) (ho1 : coG.Own S X1 base A c rs) (hgv : ∀ r ∈ rs, GV X1 base r.A r.c r.vs) (G : GV X1 base r.A r.c r.vs) (ho : w9.ownsRow base S.t S.k (.slice A9 (rs.length + 1) c9) (rs.length + 1) (S.fl rs ++ S.f r)) (hg : X1.grownBy w9 (Value.slice A rs.length c).ownBlock) :
    coG.Own S w9 base A9 c9 (rs ++ [r]) ∧ ∀ y ∈ rs ++ [r], GV w9 base y.A y.c y.vs := by
  refine ⟨coG.Own.of_app1 ho, fun y hy => ?_⟩
  have hk : ∀ y : SR, GV X1 base y.A y.c y.vs → GV w9 base y.A y.c y.vs := fun y hy => hy.block fun k e => by
    have tv : coG.Ty X1 k 64 := coL.Ty.of_gv hy e
    exact hg.block k tv.lt (fun e2 => tv.ne (ho1.lt e2.symm).2.2 (fun e3 => hS e3.symm) rfl)
  rcases List.mem_append.1 hy with hy | hy
  · exact hk y (hgv y hy)
  · rw [List.mem_singleton.1 hy]; exact hk r G
end
section
variable {A1 A2 Aw : Option Addr} {c1 c2 cw : Nat} {m : spnM.M} {ws : List Ver}
set_option maxHeartbeats 2000000 in
theorem owned_any (w : World) (hM : spnA.HM w A1 c1 A2 c2 m) (hW : HV w Aw cw ws) (hn : ws.length ≤ 60) (n : Int) :
    Calls Try.prog 39 #[.int .i64 n, .agg #[.slice A1 m.cs.length c1, .slice A2 m.ns.length c2], .slice Aw ws.length cw] w fun e w' => ∃ A c, e = .returned (.slice A (owV m n ws).length c) ∧ GV w' w.heap.size A c (owV m n ws) ∧ Below w.heap.size w w' := by
  obtain ⟨W0, hW0⟩ : ∃ W0, w.alloc (.cells #[.slice A1 m.cs.length c1, .slice A2 m.ns.length c2] 57) = W0 := ⟨_, rfl⟩
  obtain ⟨B0, hB0⟩ : ∃ b, w.heap.size = b := ⟨_, rfl⟩
  have hB : Below w.heap.size w W0 := by rw [← hW0]; exact al0 _ _
  obtain ⟨p1, p2⟩ := spnA.cells2 w (.slice A1 m.cs.length c1) (.slice A2 m.ns.length c2) 57
  rw [hW0, hB0] at p1 p2
  have hM0 := Lib.hid (hM.below hB)
  have hV0 := Lib.hid (hW.below hB)
  have hB0' := Lib.hid hB
  have hvc := hW.le
  have hvt := hW.top
  obtain ⟨iV, hiV, hzV0, hzV1, hzV2⟩ := info_parts infoV
  have hp := Lib.hid (fun V (hV : Below W0.heap.size W0 V) => And.intro (keep_cell hV p1) (keep_cell hV p2))
  clear hM hW hB
  replace hW0 := Lib.hid hW0
  go_enter Try.func39, Try.ntmps39
  go_upto_region 1 with (fail)
  rw [hW0.out]
  clear hW0
  go_wp2
  clear p1 p2
  go_loopw [12, 7] (fun i s wr => ∃ (j : Nat) (A : Option Addr) (c : Nat), j ≤ ws.length ∧ i = .int .i64 j ∧ s = .slice A (owV m n (ws.take j)).length c ∧ Hid (GV wr W0.heap.size A c (owV m n (ws.take j)) ∧ Below W0.heap.size W0 wr)) (fun i _ _ => ws.length - (intOf i).toNat)
  case atStart => exact ⟨0, none, 0, by omega, rfl, rfl, Lib.hid ⟨GV.nil_ _ _, Below.refl _ _⟩⟩
  case round =>
    obtain ⟨j, A3, c3, hj, rfl, rfl, hX⟩ := hrel
    by_cases hlt : j < ws.length
    · have hjI : (j : Int) < (ws.length : Int) := by omega
      obtain ⟨hG, hBr⟩ := hX.out
      obtain ⟨v, hv⟩ : ∃ v, ws[j]? = some v := ⟨_, List.getElem?_eq_getElem hlt⟩
      obtain ⟨pb, po, rfl, hpb, hc⟩ := (hV0.out.below hBr).at hlt
      have hnv : chnM.nt ws j = v := by rw [chnM.nt_at hlt]; exact (List.getElem?_eq_some_iff.1 hv).2
      rw [hnv] at hc
      obtain ⟨d0, d1, d2, d3, d4, d5⟩ := hc
      obtain ⟨W1, hW1⟩ : ∃ W1, wr.alloc (.cells #[.string v.key, .string v.val, .bool v.gone, .int .u64 v.ts, .int .i64 v.dc, .int .i64 v.tx] 64) = W1 := ⟨_, rfl⟩
      obtain ⟨Bv, hBv⟩ : ∃ b, wr.heap.size = b := ⟨_, rfl⟩
      have hP := R6.new wr v
      rw [hW1, hBv] at hP
      have hB1 : Below wr.heap.size wr W1 := by rw [← hW1]; exact al0 _ _
      have hBW1 := trans0 hBr hB1
      obtain ⟨p1, p2⟩ := hp.out _ hBW1
      have hoc := Lib.hid (spnB.owner_any A1 c1 A2 c2 m v.key W1 (hM0.out.below hBW1))
      obtain ⟨q0, q1, q2, q3, q4, q5⟩ := hP.v6
      have hG1 := hG.below hB1
      have hup := owV_up (m := m) (n := n) hv
      have hlen := owV_len m n (ws.take j)
      rw [List.length_take] at hlen
      obtain ⟨L0, hL0⟩ : ∃ L, owV m n (ws.take j) = L := ⟨_, rfl⟩
      rw [hL0] at hG1 hup hlen ⊢
      generalize spnM.own m v.key = O at *
      replace hP := Lib.hid hP
      replace hG1 := Lib.hid hG1
      replace hBW1 := Lib.hid hBW1
      replace hW1 := Lib.hid hW1
      have hBW : Hid (Below w.heap.size w W1) := Lib.hid (trans0 hB0'.out hBW1.out)
      clear hX hG hBr hL0 hv hnv hB1 hpb
      go_upto_region 5 with (fail)
      rw [hW1.out]
      clear hW1
      go_wp2_with (fail)
      with_reducible refine hoc.out.mono ?_
      rintro e w3 ⟨rfl, hB3⟩
      have hP3 := hP.out.below hB3
      have hG3 := hG1.out.below hB3
      have hBW3 := Lib.hid (trans0 hBW1.out hB3)
      have hBw3 := trans0 hBW.out hB3
      clear q0 q1 q2 q3 q4 q5
      obtain ⟨q0, q1, q2, q3, q4, q5⟩ := hP3.v6
      by_cases e : O = n
      · have hcc : (O == n) = true := by simpa using e
        rw [if_pos e] at hup
        have hal := al0 w3 (.cells (cL v).toArray 64)
        have hown := Lib.hid (show (w3.alloc (.cells #[.string v.key, .string v.val, .bool v.gone, .int .u64 v.ts, .int .i64 v.dc, .int .i64 v.tx] 64)).ownsRow W0.heap.size 64 6 (.slice A3 L0.length c3) L0.length (fl L0) from hG3.below hal)
        have hend := Lib.hid (fun A9 c9 w9 (ho : w9.ownsRow W0.heap.size 64 6 (.slice A9 (L0.length + 1) c9) (L0.length + 1) (fl L0 ++ cL v)) (hg : (w3.alloc (.cells #[.string v.key, .string v.val, .bool v.gone, .int .u64 v.ts, .int .i64 v.dc, .int .i64 v.tx] 64)).grownBy w9 (Value.slice A3 L0.length c3).ownBlock) => (by
          rw [hup]
          exact ⟨gv_app (m := [v]) rfl rfl (by rw [fl_one]; exact ho), grown_below (trans0 hBW3.out hal) hg (fun k e => (World.ownsRow.lt hG3 k e).1) (Nat.le_trans hBW3.out.size hal.size)⟩ : GV w9 W0.heap.size A9 c9 (owV m n (ws.take (j + 1))) ∧ Below W0.heap.size W0 w9))
        have hlt9 := Lib.hid (show L0.length + 1 ≤ maxLen ∧ (L0.length + 1) * 64 ≤ 140737488355328 ∧ W0.heap.size ≤ (w3.alloc (.cells #[.string v.key, .string v.val, .bool v.gone, .int .u64 v.ts, .int .i64 v.dc, .int .i64 v.tx] 64)).heap.size from ⟨by unfold maxLen; omega, by omega, Nat.le_trans hBW3.out.size hal.size⟩)
        have hnext : Hid ((owV m n (ws.take (j + 1))).length = L0.length + 1) := Lib.hid (by rw [hup, List.length_append]; rfl)
        clear hP hP3 hG1 hG3 hoc hup hlen hBw3 hBW hBW1 hBW3 hal
        go_wp2_with (at_builtin; refine wpList_gen rfl (.tmp 22) (.tmp 24) 47 rfl W0.heap.size 64 iV _ 6 64 Try.underlying47 hiV hzV0 hzV1 hzV2 rfl (by decide) (.slice A3 L0.length c3) L0.length (fl L0) (by rfl) hown.out (some ⟨w3.heap.size, 0, none⟩) 1 1 (cL v) (by rfl) rfl (stand_new _ _ _ _) (cL_one _) hlt9.out.1 hlt9.out.2.1 hlt9.out.2.2 ?_; intro A9 c9 w9 hr9 hg9 hat9; have hF := Lib.hid (hend.out A9 c9 w9 hr9 hg9); clear hr9 hg9 hat9)
        go_roundw
        case rel => exact ⟨j + 1, A9, c9, by omega, by go_num, by rw [hnext.out], hF⟩
        case measure => simp [intOf]; omega
      · have hcc : (O == n) = false := by simpa using e
        rw [if_neg e] at hup
        have hF : Hid (GV w3 W0.heap.size A3 c3 (owV m n (ws.take (j + 1))) ∧ Below W0.heap.size W0 w3) := Lib.hid (by rw [hup]; exact ⟨hG3, hBW3.out⟩)
        have hnext : Hid ((owV m n (ws.take (j + 1))).length = L0.length) := Lib.hid (by rw [hup])
        clear hP hP3 hG1 hG3 hoc hup hlen hBw3 hBW hBW1 hBW3
        go_wp2
        go_roundw
        case rel => exact ⟨j + 1, A3, c3, by omega, by go_num, by rw [hnext.out], hF⟩
        case measure => simp [intOf]; omega
    · obtain rfl : j = ws.length := by omega
      have hjI : ¬ (ws.length : Int) < (ws.length : Int) := by omega
      have hG := hX.out
      rw [List.take_length] at hG ⊢
      clear hX hp
      go_wp2
      go_ret
      exact ⟨_, _, rfl, (by rw [← hB0]; exact hG.1.more (by rw [hB0]; have := hB0'.out.size; omega)), (by rw [← hB0]; exact trans0 hB0'.out hG.2)⟩
set_option maxHeartbeats 2000000 in
theorem shares_any (w : World) (hM : spnA.HM w A1 c1 A2 c2 m) (hW : HV w Aw cw ws) (hn : ws.length ≤ 60) :
    Calls Try.prog 26 #[.agg #[.slice A1 m.cs.length c1, .slice A2 m.ns.length c2], .slice Aw ws.length cw] w fun e w' => ∃ A c rs, e = .returned (.slice A rs.length c) ∧ coG.Own shS w' w.heap.size A c rs ∧ (∀ r ∈ rs, GV w' w.heap.size r.A r.c r.vs) ∧ rs.map SR.s = shJ m ws 4 ∧ Below w.heap.size w w' := by
  obtain ⟨W0, hW0⟩ : ∃ W0, w.alloc (.cells #[.slice A1 m.cs.length c1, .slice A2 m.ns.length c2] 57) = W0 := ⟨_, rfl⟩
  obtain ⟨B0, hB0⟩ : ∃ b, w.heap.size = b := ⟨_, rfl⟩
  have hB : Below w.heap.size w W0 := by rw [← hW0]; exact al0 _ _
  obtain ⟨p1, p2⟩ := spnA.cells2 w (.slice A1 m.cs.length c1) (.slice A2 m.ns.length c2) 57
  rw [hW0, hB0] at p1 p2
  have hoc := Lib.hid (fun V (hV : Below W0.heap.size W0 V) n => owned_any (n := n) V ((hM.below hB).below hV) ((hW.below hB).below hV) hn)
  have hB0' := Lib.hid hB
  obtain ⟨iV, hiV, hzV0, hzV1, hzV2⟩ := info_parts infoS
  have hp := Lib.hid (fun V (hV : Below W0.heap.size W0 V) => And.intro (keep_cell hV p1) (keep_cell hV p2))
  clear hM hW hB
  replace hW0 := Lib.hid hW0
  go_enter Try.func26, Try.ntmps26
  go_upto_region 1 with (fail)
  rw [hW0.out]
  clear hW0
  go_wp2
  clear p1 p2
  go_loopw [8, 5] (fun i s wr => ∃ (j : Nat) (A : Option Addr) (c : Nat) (rs : List SR), j ≤ 4 ∧ i = .int .i64 j ∧ s = .slice A rs.length c ∧ Hid (coG.Own shS wr W0.heap.size A c rs ∧ (∀ r ∈ rs, GV wr W0.heap.size r.A r.c r.vs) ∧ rs.map SR.s = shJ m ws j ∧ Below W0.heap.size W0 wr)) (fun i _ _ => 4 - (intOf i).toNat)
  case atStart => exact ⟨0, none, 0, [], by omega, rfl, rfl, Lib.hid ⟨coG.Own.nil_ _ _ _, fun r hr => (by cases hr), rfl, Below.refl _ _⟩⟩
  case round =>
    obtain ⟨j, A3, c3, rs, hj, rfl, rfl, hX⟩ := hrel
    by_cases hlt : j < 4
    · have hjI : (j : Int) < 4 := by omega
      obtain ⟨hG, hgv, hes, hBr⟩ := hX.out
      obtain ⟨p1, p2⟩ := hp.out _ hBr
      have hcall := Lib.hid (hoc.out wr hBr (j : Int))
      have hln : rs.length ≤ 4 := by have h1 := congrArg List.length hes; have h2 := shJ_len m ws j; simp at h1; omega
      have hup : shJ m ws (j + 1) = shJ m ws j ++ (if owV m j ws = [] then [] else [⟨j, owV m j ws⟩]) := rfl
      generalize owV m j ws = OW at *
      replace hG := Lib.hid hG
      replace hgv := Lib.hid hgv
      replace hBr := Lib.hid hBr
      clear hX
      go_wp2_with (fail)
      with_reducible refine hcall.out.mono ?_
      rintro e w3 ⟨A5, c5, rfl, hG5, hB3⟩
      have hG3 := hG.out.below hB3
      have hgv3 := fun r hr => (hgv.out r hr).below hB3
      have hBW3 := trans0 hBr.out hB3
      by_cases e : OW = []
      · subst e
        rw [if_pos rfl, List.append_nil] at hup
        have hF := Lib.hid (show coG.Own shS w3 W0.heap.size A3 c3 rs ∧ (∀ r ∈ rs, GV w3 W0.heap.size r.A r.c r.vs) ∧ rs.map SR.s = shJ m ws (j + 1) ∧ Below W0.heap.size W0 w3 from ⟨hG3, hgv3, by rw [hup]; exact hes, hBW3⟩)
        clear hcall hG5 hB3 hG3 hgv3 hBW3 hup hes hG hgv hBr p1 p2
        simp only [List.length_nil]
        go_wp2
        go_roundw
        case rel => exact ⟨j + 1, A3, c3, rs, by omega, by go_num, rfl, hF⟩
        case measure => simp [intOf]; omega
      · have hpos := List.length_pos_iff.2 e
        have hgt : (0 : Int) < (OW.length : Int) := by omega
        rw [if_neg e] at hup
        have hal := al0 w3 (.cells #[.int .i64 (j : Int), .slice A5 OW.length c5] 61)
        have hown := Lib.hid (show (w3.alloc (.cells #[.int .i64 (j : Int), .slice A5 OW.length c5] 61)).ownsRow W0.heap.size 61 2 (.slice A3 rs.length c3) rs.length (shS.fl rs) from hG3.below hal)
        have hend := Lib.hid (fun A9 c9 w9 (ho : w9.ownsRow W0.heap.size 61 2 (.slice A9 (rs.length + 1) c9) (rs.length + 1) (shS.fl rs ++ cS ⟨j, OW, A5, c5⟩)) (hg : (w3.alloc (.cells #[.int .i64 (j : Int), .slice A5 OW.length c5] 61)).grownBy w9 (Value.slice A3 rs.length c3).ownBlock) => (by
          obtain ⟨h1, h2⟩ := rows_grow (S := shS) (r := ⟨j, OW, A5, c5⟩) (by decide) (hG3.below hal) (fun r hr => (hgv3 r hr).below hal) ((hG5.more (by have := hBr.out.size; omega)).below hal) ho hg
          exact ⟨h1, h2, by rw [hup, List.map_append, hes]; rfl, grown_below (trans0 hBW3 hal) hg (fun k e => (hG3.lt e).1) (Nat.le_trans hBW3.size hal.size)⟩ : coG.Own shS w9 W0.heap.size A9 c9 (rs ++ [⟨j, OW, A5, c5⟩]) ∧ (∀ r ∈ rs ++ [(⟨j, OW, A5, c5⟩ : SR)], GV w9 W0.heap.size r.A r.c r.vs) ∧ (rs ++ [(⟨j, OW, A5, c5⟩ : SR)]).map SR.s = shJ m ws (j + 1) ∧ Below W0.heap.size W0 w9))
        have hlt9 := Lib.hid (show rs.length + 1 ≤ maxLen ∧ (rs.length + 1) * 32 ≤ 140737488355328 ∧ W0.heap.size ≤ (w3.alloc (.cells #[.int .i64 (j : Int), .slice A5 OW.length c5] 61)).heap.size from ⟨by unfold maxLen; omega, by omega, Nat.le_trans hBW3.size hal.size⟩)
        clear hcall hG5 hB3 hG3 hgv3 hBW3 hup hes hG hgv hBr hal p1 p2 hln
        go_wp2_with (at_builtin; refine wpList_gen rfl (.tmp 18) (.tmp 22) 30 rfl W0.heap.size 61 iV _ 2 32 Try.underlying30 hiV hzV0 hzV1 hzV2 rfl (by decide) (.slice A3 rs.length c3) rs.length (shS.fl rs) (by rfl) hown.out (some ⟨w3.heap.size, 0, none⟩) 1 1 (cS ⟨j, OW, A5, c5⟩) (by rfl) rfl (stand_new _ _ _ _) (cS_one _) hlt9.out.1 hlt9.out.2.1 hlt9.out.2.2 ?_; intro A9 c9 w9 hr9 hg9 hat9; have hF := Lib.hid (hend.out A9 c9 w9 hr9 hg9); clear hr9 hg9 hat9)
        go_roundw
        case rel => exact ⟨j + 1, A9, c9, rs ++ [⟨j, OW, A5, c5⟩], by omega, by go_num, by simp, hF⟩
        case measure => simp [intOf]; omega
    · obtain rfl : j = 4 := by omega
      obtain ⟨h1, h2, h3, h4⟩ := hX.out
      have hfin := Lib.hid (show coG.Own shS wr w.heap.size A3 c3 rs ∧ (∀ r ∈ rs, GV wr w.heap.size r.A r.c r.vs) ∧ rs.map SR.s = shJ m ws 4 ∧ Below w.heap.size w wr from ⟨h1.more hB0'.out.size, fun r hr => (h2 r hr).more hB0'.out.size, h3, trans0 hB0'.out h4⟩)
      clear hX hp h1 h2 h3 h4 hoc
      go_wp2
      go_ret
      exact ⟨A3, c3, rs, rfl, hfin.out.1, hfin.out.2.1, hfin.out.2.2.1, hfin.out.2.2.2⟩
set_option maxHeartbeats 4000000 in
theorem rshares_any (w : World) (hM : spnA.HM w A1 c1 A2 c2 m) (hW : HV w Aw cw ws) (hn : ws.length ≤ 60) :
    Calls Try.prog 27 #[.agg #[.slice A1 m.cs.length c1, .slice A2 m.ns.length c2], .slice Aw ws.length cw] w fun e w' => ∃ A c rs, e = .returned (.slice A rs.length c) ∧ coG.Own coD.shD w' w.heap.size A c rs ∧ (∀ r ∈ rs, GV w' w.heap.size r.A r.c r.vs) ∧ rs.map SR.s = shJ m ws 4 ∧ Below w.heap.size w w' := by
  obtain ⟨W0, hW0⟩ : ∃ W0, w.alloc (.cells #[.slice A1 m.cs.length c1, .slice A2 m.ns.length c2] 57) = W0 := ⟨_, rfl⟩
  obtain ⟨B0, hB0⟩ : ∃ b, w.heap.size = b := ⟨_, rfl⟩
  have hB : Below w.heap.size w W0 := by rw [← hW0]; exact al0 _ _
  obtain ⟨p1, p2⟩ := spnA.cells2 w (.slice A1 m.cs.length c1) (.slice A2 m.ns.length c2) 57
  rw [hW0, hB0] at p1 p2
  have hoc := Lib.hid (fun V (hV : Below W0.heap.size W0 V) key => spnB.rowner_any A1 c1 A2 c2 m key V ((hM.below hB).below hV))
  have hV0 := Lib.hid (hW.below hB)
  have hvc := hW.le
  have hvt := hW.top
  have hB0' := Lib.hid hB
  obtain ⟨iV, hiV, hzV0, hzV1, hzV2⟩ := info_parts infoV
  obtain ⟨iX, hiX, hzX0, hzX1, hzX2⟩ := info_parts infoX
  have hp := Lib.hid (fun V (hV : Below W0.heap.size W0 V) => And.intro (keep_cell hV p1) (keep_cell hV p2))
  clear hM hW hB
  replace hW0 := Lib.hid hW0
  go_enter Try.func27, Try.ntmps27
  go_upto_region 1 with (fail)
  rw [hW0.out]
  clear hW0
  go_wp2
  clear p1 p2
  go_loopw [6, 5] (fun i s wr => ∃ (j : Nat) (A : Option Addr) (c : Nat) (rs : List SR), j ≤ 4 ∧ i = .int .i64 j ∧ s = .slice A rs.length c ∧ Hid (coG.Own coD.shD wr W0.heap.size A c rs ∧ (∀ r ∈ rs, GV wr W0.heap.size r.A r.c r.vs) ∧ rs.map SR.s = shJ m ws j ∧ Below W0.heap.size W0 wr)) (fun i _ _ => 4 - (intOf i).toNat)
  case atStart => exact ⟨0, none, 0, [], by omega, rfl, rfl, Lib.hid ⟨coG.Own.nil_ _ _ _, fun r hr => (by cases hr), rfl, Below.refl _ _⟩⟩
  case round =>
    obtain ⟨j, A3, c3, rs, hj, rfl, rfl, hX⟩ := hrel
    by_cases hlt : j < 4
    · have hjI : (j : Int) < 4 := by omega
      go_wp2
      generalize wr = wo at *
      go_loopw [8, 7] (fun i s wx => ∃ (k : Nat) (A : Option Addr) (c : Nat), k ≤ ws.length ∧ i = .int .i64 k ∧ s = .slice A (owV m j (ws.take k)).length c ∧ Hid (GV wx wo.heap.size A c (owV m j (ws.take k)) ∧ Below wo.heap.size wo wx)) (fun i _ _ => ws.length - (intOf i).toNat)
      case atStart => exact ⟨0, none, 0, by omega, rfl, rfl, Lib.hid ⟨GV.nil_ _ _, Below.refl _ _⟩⟩
      case round =>
        obtain ⟨k, A5, c5, hk, rfl, rfl, hY⟩ := hrel
        by_cases hlk : k < ws.length
        · have hkI : (k : Int) < (ws.length : Int) := by omega
          obtain ⟨hG, hBr⟩ := hY.out
          have hBW := trans0 hX.out.2.2.2 hBr
          obtain ⟨v, hv⟩ : ∃ v, ws[k]? = some v := ⟨_, List.getElem?_eq_getElem hlk⟩
          have hvv := hV0.out.below hBW
          obtain ⟨pb, po, rfl, hpb, hc⟩ := hvv.at hlk
          have hnv : chnM.nt ws k = v := by rw [chnM.nt_at hlk]; exact (List.getElem?_eq_some_iff.1 hv).2
          rw [hnv] at hc
          obtain ⟨d0, -⟩ := hc
          obtain ⟨p1, p2⟩ := hp.out _ hBW
          have hs0 := Lib.hid (And.intro p1 (And.intro p2 d0))
          have hsd : Hid (wr.drew.cell? ⟨B0, 0, none⟩ = some (.slice A1 m.cs.length c1) ∧ wr.drew.cell? ⟨B0, 1, none⟩ = some (.slice A2 m.ns.length c2) ∧ wr.drew.cell? ⟨pb, po + k * 6, none⟩ = some (.string v.key)) := hs0
          have hcall := Lib.hid (hoc.out wr.drew hBW.drew v.key)
          have hup := owV_up (m := m) (n := (j : Int)) hv
          have hlen := owV_len m (j : Int) (ws.take k)
          rw [List.length_take] at hlen
          obtain ⟨L0, hL0⟩ : ∃ L, owV m (j : Int) (ws.take k) = L := ⟨_, rfl⟩
          rw [hL0] at hG hup hlen ⊢
          generalize spnM.own m v.key = O at *
          replace hG := Lib.hid hG
          replace hBr := Lib.hid hBr
          replace hvv := Lib.hid hvv
          replace hnv := Lib.hid hnv
          clear hY hBW hL0 hv hpb
          go_upto_region 9 with (fail)
          go_region_held3 (fun w' => w'.cell? ⟨B0, 0, none⟩ = some (.slice A1 m.cs.length c1) ∧ w'.cell? ⟨B0, 1, none⟩ = some (.slice A2 m.ns.length c2) ∧ w'.cell? ⟨pb, po + k * 6, none⟩ = some (.string v.key))
            (first | with_reducible exact hsd.out | with_reducible exact hs0.out | with_reducible exact hs1.out | fail)
            (first
              | (go_at_call 40; ((with_reducible refine (hcall.out).mono ?_); rintro e w3 ⟨rfl, hB3⟩; have hs1 := Lib.hid (And.intro (keep_cell hB3 hsd.out.1) (And.intro (keep_cell hB3 hsd.out.2.1) (keep_cell hB3 hsd.out.2.2))); replace hB3 := Lib.hid hB3))
              | fail)
          all_goals
            have hB3' : Below wr.heap.size wr w3 := undrew hB3.out
            have hG3 := hG.out.below hB3'
            have hBr3 := trans0 hBr.out hB3'
            obtain ⟨b, off, e9, -, hc⟩ := (hvv.out.below hB3').at hlk
            cases e9
            rw [hnv.out] at hc
            obtain ⟨d0', d1, d2, d3, d4, d5⟩ := hc
            clear hs0 hs1 hsd hcall p1 p2 d0
            by_cases e : O = (j : Int)
            · have hcc : (O == (j : Int)) = true := by simpa using e
              rw [if_pos e] at hup
              have hal := al0 w3 (.cells #[.string v.key, .string v.val, .bool v.gone, .int .u64 v.ts, .int .i64 v.dc, .int .i64 v.tx] 64)
              have hown := Lib.hid (show (w3.alloc (.cells #[.string v.key, .string v.val, .bool v.gone, .int .u64 v.ts, .int .i64 v.dc, .int .i64 v.tx] 64)).ownsRow wo.heap.size 64 6 (.slice A5 L0.length c5) L0.length (fl L0) from hG3.below hal)
              have hend := Lib.hid (fun A9 c9 w9 (ho : w9.ownsRow wo.heap.size 64 6 (.slice A9 (L0.length + 1) c9) (L0.length + 1) (fl L0 ++ cL v)) (hg : (w3.alloc (.cells #[.string v.key, .string v.val, .bool v.gone, .int .u64 v.ts, .int .i64 v.dc, .int .i64 v.tx] 64)).grownBy w9 (Value.slice A5 L0.length c5).ownBlock) => (by
                rw [hup]
                exact ⟨gv_app (m := [v]) rfl rfl (by rw [fl_one]; exact ho), grown_below (trans0 hBr3 hal) hg (fun k e => (World.ownsRow.lt hG3 k e).1) (Nat.le_trans hBr3.size hal.size)⟩ : GV w9 wo.heap.size A9 c9 (owV m (j : Int) (ws.take (k + 1))) ∧ Below wo.heap.size wo w9))
              have hlt9 := Lib.hid (show L0.length + 1 ≤ maxLen ∧ (L0.length + 1) * 64 ≤ 140737488355328 ∧ wo.heap.size ≤ (w3.alloc (.cells #[.string v.key, .string v.val, .bool v.gone, .int .u64 v.ts, .int .i64 v.dc, .int .i64 v.tx] 64)).heap.size from ⟨by unfold maxLen; omega, by omega, Nat.le_trans hBr3.size hal.size⟩)
              have hnext : Hid ((owV m (j : Int) (ws.take (k + 1))).length = L0.length + 1) := Lib.hid (by rw [hup, List.length_append]; rfl)
              clear hG hG3 hup hlen hal hBr3 hB3' hBr
              go_wp2_with (at_builtin; refine wpList_gen rfl (.tmp 28) (.tmp 33) 47 rfl wo.heap.size 64 iV _ 6 64 Try.underlying47 hiV hzV0 hzV1 hzV2 rfl (by decide) (.slice A5 L0.length c5) L0.length (fl L0) (by rfl) hown.out (some ⟨w3.heap.size, 0, none⟩) 1 1 (cL v) (by rfl) rfl (stand_new _ _ _ _) (cL_one _) hlt9.out.1 hlt9.out.2.1 hlt9.out.2.2 ?_; intro A9 c9 w9 hr9 hg9 hat9; have hF := Lib.hid (hend.out A9 c9 w9 hr9 hg9); clear hr9 hg9 hat9)
              go_roundw
              case rel => exact ⟨k + 1, A9, c9, by omega, by go_num, by rw [hnext.out], hF⟩
              case measure => simp [intOf]; omega
            · have hcc : (O == (j : Int)) = false := by simpa using e
              rw [if_neg e] at hup
              have hF := Lib.hid (show GV w3 wo.heap.size A5 c5 (owV m (j : Int) (ws.take (k + 1))) ∧ Below wo.heap.size wo w3 from by rw [hup]; exact ⟨hG3, hBr3⟩)
              have hnext : Hid ((owV m (j : Int) (ws.take (k + 1))).length = L0.length) := Lib.hid (by rw [hup])
              clear hG hG3 hup hlen hBr3 hB3' hBr
              go_wp2
              go_roundw
              case rel => exact ⟨k + 1, A5, c5, by omega, by go_num, by rw [hnext.out], hF⟩
              case measure => simp [intOf]; omega
        · obtain rfl : k = ws.length := by omega
          have hkI : ¬ (ws.length : Int) < (ws.length : Int) := by omega
          have hY2 := hY.out
          rw [List.take_length] at hY2 ⊢
          obtain ⟨hG5, hBr⟩ := hY2
          obtain ⟨hG, hgv, hes, hB9⟩ := hX.out
          have hG3 := hG.below hBr
          have hgv3 := fun r hr => (hgv r hr).below hBr
          have hBW3 := trans0 hB9 hBr
          have hln : rs.length ≤ 4 := by have h1 := congrArg List.length hes; have h2 := shJ_len m ws j; simp at h1; omega
          have hup : shJ m ws (j + 1) = shJ m ws j ++ (if owV m j ws = [] then [] else [⟨j, owV m j ws⟩]) := rfl
          generalize owV m j ws = OW at *
          by_cases e : OW = []
          · subst e
            rw [if_pos rfl, List.append_nil] at hup
            have hF := Lib.hid (show coG.Own coD.shD wr W0.heap.size A3 c3 rs ∧ (∀ r ∈ rs, GV wr W0.heap.size r.A r.c r.vs) ∧ rs.map SR.s = shJ m ws (j + 1) ∧ Below W0.heap.size W0 wr from ⟨hG3, hgv3, by rw [hup]; exact hes, hBW3⟩)
            clear hG5 hB9 hG3 hgv3 hBW3 hup hes hG hgv hBr hX hY
            simp only [List.length_nil]
            go_wp2
            go_roundw
            case rel => exact ⟨j + 1, A3, c3, rs, by omega, by go_num, rfl, hF⟩
            case measure => simp [intOf]; omega
          · have hpos := List.length_pos_iff.2 e
            have hgt : (0 : Int) < (OW.length : Int) := by omega
            rw [if_neg e] at hup
            have hal := al0 wr (.cells #[.int .i64 (j : Int), .slice A5 OW.length c5] 62)
            have hown := Lib.hid (show (wr.alloc (.cells #[.int .i64 (j : Int), .slice A5 OW.length c5] 62)).ownsRow W0.heap.size 62 2 (.slice A3 rs.length c3) rs.length (coD.shD.fl rs) from hG3.below hal)
            have hend := Lib.hid (fun A9 c9 w9 (ho : w9.ownsRow W0.heap.size 62 2 (.slice A9 (rs.length + 1) c9) (rs.length + 1) (coD.shD.fl rs ++ cS ⟨j, OW, A5, c5⟩)) (hg : (wr.alloc (.cells #[.int .i64 (j : Int), .slice A5 OW.length c5] 62)).grownBy w9 (Value.slice A3 rs.length c3).ownBlock) => (by
              obtain ⟨h1, h2⟩ := rows_grow (S := coD.shD) (r := ⟨j, OW, A5, c5⟩) (by decide) (hG3.below hal) (fun r hr => (hgv3 r hr).below hal) ((hG5.more (by have := hB9.size; omega)).below hal) ho hg
              exact ⟨h1, h2, by rw [hup, List.map_append, hes]; rfl, grown_below (trans0 hBW3 hal) hg (fun k e => (hG3.lt e).1) (Nat.le_trans hBW3.size hal.size)⟩ : coG.Own coD.shD w9 W0.heap.size A9 c9 (rs ++ [⟨j, OW, A5, c5⟩]) ∧ (∀ r ∈ rs ++ [(⟨j, OW, A5, c5⟩ : SR)], GV w9 W0.heap.size r.A r.c r.vs) ∧ (rs ++ [(⟨j, OW, A5, c5⟩ : SR)]).map SR.s = shJ m ws (j + 1) ∧ Below W0.heap.size W0 w9))
            have hlt9 := Lib.hid (show rs.length + 1 ≤ maxLen ∧ (rs.length + 1) * 32 ≤ 140737488355328 ∧ W0.heap.size ≤ (wr.alloc (.cells #[.int .i64 (j : Int), .slice A5 OW.length c5] 62)).heap.size from ⟨by unfold maxLen; omega, by omega, Nat.le_trans hBW3.size hal.size⟩)
            clear hG5 hB9 hG3 hgv3 hBW3 hup hes hG hgv hBr hal hln hX hY
            go_wp2_with (at_builtin; refine wpList_gen rfl (.tmp 38) (.tmp 42) 37 rfl W0.heap.size 62 iX _ 2 32 Try.underlying37 hiX hzX0 hzX1 hzX2 rfl (by decide) (.slice A3 rs.length c3) rs.length (coD.shD.fl rs) (by rfl) hown.out (some ⟨wr.heap.size, 0, none⟩) 1 1 (cS ⟨j, OW, A5, c5⟩) (by rfl) rfl (stand_new _ _ _ _) (cS_one _) hlt9.out.1 hlt9.out.2.1 hlt9.out.2.2 ?_; intro A9 c9 w9 hr9 hg9 hat9; have hF := Lib.hid (hend.out A9 c9 w9 hr9 hg9); clear hr9 hg9 hat9)
            go_roundw
            case rel => exact ⟨j + 1, A9, c9, rs ++ [⟨j, OW, A5, c5⟩], by omega, by go_num, by simp, hF⟩
            case measure => simp [intOf]; omega
    · obtain rfl : j = 4 := by omega
      obtain ⟨h1, h2, h3, h4⟩ := hX.out
      have hfin := Lib.hid (show coG.Own coD.shD wr w.heap.size A3 c3 rs ∧ (∀ r ∈ rs, GV wr w.heap.size r.A r.c r.vs) ∧ rs.map SR.s = shJ m ws 4 ∧ Below w.heap.size w wr from ⟨h1.more hB0'.out.size, fun r hr => (h2 r hr).more hB0'.out.size, h3, trans0 hB0'.out h4⟩)
      clear hX hp h1 h2 h3 h4 hoc hV0
      go_wp2
      go_ret
      exact ⟨A3, c3, rs, rfl, hfin.out.1, hfin.out.2.1, hfin.out.2.2.1, hfin.out.2.2.2⟩
end
end Go.Proofs.Ytafocefbpkcoaaa.coS
