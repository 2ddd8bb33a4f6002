/- The program's Writes, Nodes, Touches. -/
import Derived.Test.YtafocefbpkcoaaaCoN
import Derived.Test.YtafocefbpkcoaaaCoK
import Derived.Test.YtafocefbpkcoaaaSpnB
set_option linter.unusedVariables false
set_option linter.unusedSimpArgs false
set_option maxRecDepth 100000
namespace Go.Proofs.Ytafocefbpkcoaaa.coW
open Go.ChangeShapes Go.WideShapes Go.ChangeAt Go.RowKit Go.Deep
open opG opV chnM gen chnA chnR chnE ordA ordC coG coO coM coP coL coN coK

/-! ### Rows of numbers -/
def cI (n : Int) : List Value := [.int .i64 n]
theorem cI_one (n : Int) : ∀ u ∈ cI n, u.oneCell' = true := by
  intro u hu
  simp only [cI, List.mem_cons, List.not_mem_nil, or_false] at hu
  subst hu; rfl
abbrev shI : Shape Int := ⟨3, 1, cI, fun _ => rfl, by decide, cI_one⟩
theorem infoI : (Try.prog.info? 3).map (fun i => (i.zero, i.size, i.bytes)) = some (some (.int .i64 0), 1, 8) := by kernel_rfl
section
variable {w w1 w9 : World} {base : Nat} {A A9 : Option Addr} {c c9 : Nat}
/-- what is appended onto a row of new memory -/
theorem grown_below {B : Nat} {w0 : World} {v : Value} (h : Below B w0 w) (hg : w.grownBy w9 v.ownBlock) (hv : ∀ k, v.ownBlock = some k → B ≤ k) (hs : B ≤ w.heap.size) : Below B w0 w9 :=
  ⟨hg.os.trans h.os, hg.tape.trans h.tape, hg.output.trans h.output, Nat.le_trans h.size hg.size, fun k hk => (hg.block k (by omega) (fun e => by have := hv k e.symm; omega)).trans (h.block k hk)⟩
theorem gv_app {l m : List Ver} {n k : Nat} (hn : l.length = n) (hm : m.length = k) (h : w9.ownsRow base 64 6 (.slice A9 (n + k) c9) (n + k) (fl l ++ fl m)) : GV w9 base A9 c9 (l ++ m) := by
  unfold GV
  rw [List.length_append, hn, hm, fl_app]
  exact h
end
section
variable {col : Nat → Nat} {c t mb : Nat} {D : DM} {l : List Tx} {os : Ens}
theorem vsl_len {rs : List SR} (h : ∀ r ∈ rs, r.vs.length ≤ 8) : ((rs.map (·.vs)).flatten).length ≤ rs.length * 8 := by
  induction rs with
  | nil => simp
  | cons r rs ih =>
    have h1 := h r (List.mem_cons_self ..)
    have h2 := ih fun q hq => h q (List.mem_cons_of_mem _ hq)
    simp only [List.map_cons, List.flatten_cons, List.length_append, List.length_cons]
    omega
theorem sv_rs {x : Tx} (h : okX x.e) : ∀ r ∈ x.rs, r.vs.length ≤ 8 := fun r hr => h.sv r.s (List.mem_map.2 ⟨r, hr, rfl⟩)
theorem wrs_e {tx : Int} {x : Tx} (h : fnE os tx = some x.e) : wrs os tx = (x.rs.map (·.vs)).flatten := by
  unfold wrs; rw [h]
  show ((x.rs.map SR.s).map (·.vs)).flatten = _
  rw [List.map_map]; rfl
theorem nos_e {tx : Int} {x : Tx} (h : fnE os tx = some x.e) : nos os tx = x.ns := by unfold nos; rw [h]; exact Tx.nds_e x
set_option maxHeartbeats 2000000 in
theorem writes_at (w : World) (h : TabAt col c w t os) (hok : ok os) {tx : Int} (x0 : 0 ≤ tx) (x1 : tx < 18446744073709551616) :
    Calls Try.prog 21 #[.pointer (some ⟨t, 0, none⟩), .int .u64 tx] w fun e w' => ∃ A c, e = .returned (.slice A (wrs os tx).length c) ∧ GV w' w.heap.size A c (wrs os tx) ∧ Below w.heap.size w w' := by
  obtain ⟨mb, D, l, hT, rfl⟩ := h
  cases hfe : fnE (l.map Tx.e) tx with
  | none =>
    have e1 : wrs (l.map Tx.e) tx = [] := by unfold wrs; rw [hfe]
    rw [e1]
    have hsd := Lib.hid (sides_none w hT x0 x1 hfe)
    clear hT hok hfe e1
    go_enter Try.func21, Try.ntmps21
    go_wp2_with (fail)
    with_reducible refine hsd.out.mono ?_
    rintro e w' ⟨rfl, rfl⟩
    go_wp2
    go_loopw [12, 5] (fun i s wr => i = .int .i64 0 ∧ s = .slice none 0 0 ∧ wr = w) (fun _ _ _ => 0)
    case atStart => exact ⟨rfl, rfl, rfl⟩
    case round =>
      obtain ⟨rfl, rfl, rfl⟩ := hrel
      go_wp2
      go_ret
      exact ⟨none, 0, rfl, GV.nil_ _ _, Below.refl _ _⟩
  | some x' =>
    obtain ⟨a, x, b, rfl, rfl, rfl⟩ := fnE_split hfe
    have hx := (ok_mem hok hfe).1
    rw [wrs_e hfe]
    have hsd := Lib.hid (sides_some w hT hok.df x0 x1)
    have hm := Lib.hid (hT.xs x (by simp))
    have hl6 : x.rs.length ≤ 6 := by have := hx.sz; simpa [Tx.e] using this
    have hsv := Lib.hid (sv_rs hx)
    obtain ⟨iV, hiV, hzV0, hzV1, hzV2⟩ := info_parts infoV
    clear hT hok hfe hx
    go_enter Try.func21, Try.ntmps21
    go_wp2_with (fail)
    with_reducible refine hsd.out.mono ?_
    rintro e w' ⟨rfl, rfl⟩
    clear hsd
    go_wp2
    go_loopw [12, 5] (fun i s wr => ∃ (j : Nat) (A : Option Addr) (c : Nat), j ≤ x.rs.length ∧ i = .int .i64 j ∧ s = .slice A (((x.rs.take j).map (·.vs)).flatten).length c ∧ Hid (GV wr w.heap.size A c ((x.rs.take j).map (·.vs)).flatten ∧ Below w.heap.size w wr)) (fun i _ _ => x.rs.length - (intOf i).toNat)
    case atStart => exact ⟨0, none, 0, by omega, rfl, rfl, Lib.hid ⟨GV.nil_ _ _, Below.refl _ _⟩⟩
    case round =>
      obtain ⟨j, A1, c1, hj, rfl, rfl, hX⟩ := hrel
      by_cases hlt : j < x.rs.length
      · have hjI : (j : Int) < (x.rs.length : Int) := by omega
        obtain ⟨r, hr⟩ : ∃ r, x.rs[j]? = some r := ⟨_, List.getElem?_eq_getElem hlt⟩
        obtain ⟨hG, hB⟩ := hX.out
        have hmw := hm.out.below hB
        obtain ⟨k0, k1, k2, k3, -⟩ := hmw.side hr
        generalize hasV x.vt r.node = hv at *
        generalize endV x.vt r.node = he at *
        have hdv := (hmw.dv r (List.mem_of_getElem? hr)).hv
        obtain ⟨L0, hL0⟩ : ∃ L, ((x.rs.take j).map (·.vs)).flatten = L := ⟨_, rfl⟩
        have hL1 : ((x.rs.take (j + 1)).map (·.vs)).flatten = L0 ++ r.vs := by
          rw [← hL0, List.take_succ_eq_append_getElem hlt, (List.getElem?_eq_some_iff.1 hr).2]
          simp
        have hlen : L0.length + r.vs.length ≤ 48 := by
          have := vsl_len (rs := x.rs.take (j + 1)) fun q hq => hsv.out q (List.mem_of_mem_take hq)
          rw [hL1, List.length_append, List.length_take] at this
          omega
        rw [hL0] at hG
        have hal := al0 wr (.cells #[.int .i64 r.node, .slice r.A r.vs.length r.c, .bool hv, .bool he] TD)
        have hown := Lib.hid (show (wr.alloc (.cells #[.int .i64 r.node, .slice r.A r.vs.length r.c, .bool hv, .bool he] TD)).ownsRow w.heap.size 64 6 (.slice A1 L0.length c1) L0.length (fl L0) from hG.below hal)
        have hst := Lib.hid (hdv.below hal).stand
        have hend := Lib.hid (fun A9 c9 w9 (ho : w9.ownsRow w.heap.size 64 6 (.slice A9 (L0.length + r.vs.length) c9) (L0.length + r.vs.length) (fl L0 ++ fl r.vs)) (hg : (wr.alloc (.cells #[.int .i64 r.node, .slice r.A r.vs.length r.c, .bool hv, .bool he] TD)).grownBy w9 (Value.slice A1 L0.length c1).ownBlock) => (by
          rw [hL1]
          refine ⟨gv_app rfl rfl ho, grown_below (trans0 hB (al0 wr _)) hg (fun k e => ?_) (Nat.le_trans hB.size hal.size)⟩
          exact (World.ownsRow.lt hG k e).1 : GV w9 w.heap.size A9 c9 ((x.rs.take (j + 1)).map (·.vs)).flatten ∧ Below w.heap.size w w9))
        have hlt9 := Lib.hid (show L0.length + r.vs.length ≤ maxLen ∧ (L0.length + r.vs.length) * 64 ≤ 140737488355328 ∧ w.heap.size ≤ (wr.alloc (.cells #[.int .i64 r.node, .slice r.A r.vs.length r.c, .bool hv, .bool he] TD)).heap.size from ⟨by unfold maxLen; omega, by omega, Nat.le_trans hB.size hal.size⟩)
        have hnext : Hid ((((x.rs.take (j + 1)).map (·.vs)).flatten).length = L0.length + r.vs.length) := Lib.hid (by rw [hL1, List.length_append])
        have hfl : Hid ((fl r.vs).length = r.vs.length * 6) := Lib.hid (fl_len _)
        have hfa := Lib.hid (fl_all r.vs)
        rw [hL0]
        clear hX hG hB hmw hdv hL0 hL1 hlen hal hr
        go_wp2_with (at_builtin; refine wpList_gen rfl (.tmp 16) (.tmp 19) 47 rfl w.heap.size 64 iV _ 6 64 Try.underlying47 hiV hzV0 hzV1 hzV2 rfl (by decide) (.slice A1 L0.length c1) L0.length (fl L0) (by rfl) hown.out r.A r.vs.length r.c (fl r.vs) (by rfl) hfl.out hst.out hfa.out hlt9.out.1 hlt9.out.2.1 hlt9.out.2.2 ?_; intro A9 c9 w9 hr9 hg9 hat9; have hF := Lib.hid (hend.out A9 c9 w9 hr9 hg9); clear hr9 hg9 hat9)
        go_roundw
        case rel => exact ⟨j + 1, A9, c9, by omega, by go_num, by rw [hnext.out], hF⟩
        case measure => simp [intOf]; omega
      · obtain rfl : j = x.rs.length := by omega
        have hjI : ¬ (x.rs.length : Int) < (x.rs.length : Int) := by omega
        rw [List.take_length] at hX ⊢
        clear hm hsv
        go_wp2
        go_ret
        exact ⟨_, _, rfl, hX.out.1, hX.out.2⟩
set_option maxHeartbeats 2000000 in
theorem nodes_at (w : World) (h : TabAt col c w t os) (hok : ok os) {tx : Int} (x0 : 0 ≤ tx) (x1 : tx < 18446744073709551616) :
    Calls Try.prog 17 #[.pointer (some ⟨t, 0, none⟩), .int .u64 tx] w fun e w' => ∃ A c, e = .returned (.slice A (nos os tx).length c) ∧ coG.Own shI w' w.heap.size A c (nos os tx) ∧ Below w.heap.size w w' := by
  obtain ⟨mb, D, l, hT, rfl⟩ := h
  cases hfe : fnE (l.map Tx.e) tx with
  | none =>
    have e1 : nos (l.map Tx.e) tx = [] := by unfold nos; rw [hfe]
    rw [e1]
    have hsd := Lib.hid (sides_none w hT x0 x1 hfe)
    clear hT hok hfe e1
    go_enter Try.func17, Try.ntmps17
    go_wp2_with (fail)
    with_reducible refine hsd.out.mono ?_
    rintro e w' ⟨rfl, rfl⟩
    go_wp2
    go_loopw [12, 5] (fun i s wr => i = .int .i64 0 ∧ s = .slice none 0 0 ∧ wr = w) (fun _ _ _ => 0)
    case atStart => exact ⟨rfl, rfl, rfl⟩
    case round =>
      obtain ⟨rfl, rfl, rfl⟩ := hrel
      go_wp2
      go_ret
      exact ⟨none, 0, rfl, coG.Own.nil_ _ _ _, Below.refl _ _⟩
  | some x' =>
    obtain ⟨a, x, b, rfl, rfl, rfl⟩ := fnE_split hfe
    have hx := (ok_mem hok hfe).1
    rw [nos_e hfe]
    have hsd := Lib.hid (sides_some w hT hok.df x0 x1)
    have hm := Lib.hid (hT.xs x (by simp))
    have hl6 : x.rs.length ≤ 6 := by have := hx.sz; simpa [Tx.e] using this
    obtain ⟨iV, hiV, hzV0, hzV1, hzV2⟩ := info_parts infoI
    have hnl : x.ns.length = x.rs.length := by simp [Tx.ns]
    clear hT hok hfe hx
    go_enter Try.func17, Try.ntmps17
    go_wp2_with (fail)
    with_reducible refine hsd.out.mono ?_
    rintro e w' ⟨rfl, rfl⟩
    clear hsd
    go_wp2
    go_loopw [12, 5] (fun i s wr => ∃ (j : Nat) (A : Option Addr) (c : Nat), j ≤ x.rs.length ∧ i = .int .i64 j ∧ s = .slice A (x.ns.take j).length c ∧ Hid (coG.Own shI wr w.heap.size A c (x.ns.take j) ∧ Below w.heap.size w wr)) (fun i _ _ => x.rs.length - (intOf i).toNat)
    case atStart => exact ⟨0, none, 0, by omega, rfl, rfl, Lib.hid ⟨coG.Own.nil_ _ _ _, Below.refl _ _⟩⟩
    case round =>
      obtain ⟨j, A1, c1, hj, rfl, rfl, hX⟩ := hrel
      by_cases hlt : j < x.rs.length
      · have hjI : (j : Int) < (x.rs.length : Int) := by omega
        obtain ⟨r, hr⟩ : ∃ r, x.rs[j]? = some r := ⟨_, List.getElem?_eq_getElem hlt⟩
        obtain ⟨hG, hB⟩ := hX.out
        have hmw := hm.out.below hB
        obtain ⟨k0, k1, k2, k3, -⟩ := hmw.side hr
        generalize hasV x.vt r.node = hv at *
        generalize endV x.vt r.node = he at *
        have hns : x.ns[j]? = some r.node := by unfold Tx.ns; rw [List.getElem?_map, hr]; rfl
        have hL1 : x.ns.take (j + 1) = x.ns.take j ++ [r.node] := by
          rw [List.take_succ_eq_append_getElem (by omega), (List.getElem?_eq_some_iff.1 hns).2]
        have hlj : (x.ns.take j).length = j := by rw [List.length_take]; omega
        obtain ⟨L0, hL0⟩ : ∃ L, x.ns.take j = L := ⟨_, rfl⟩
        rw [hL0] at hG hL1 hlj ⊢
        obtain ⟨W1, hW1⟩ : ∃ W1, wr.alloc (.cells #[.int .i64 r.node, .slice r.A r.vs.length r.c, .bool hv, .bool he] TD) = W1 := ⟨_, rfl⟩
        have hB1 : Below wr.heap.size wr W1 := by rw [← hW1]; exact al0 _ _
        have hal := al0 W1 (.cells #[.int .i64 r.node] 3)
        have hown := Lib.hid (show (W1.alloc (.cells #[.int .i64 r.node] 3)).ownsRow w.heap.size 3 1 (.slice A1 L0.length c1) L0.length (shI.fl L0) from (hG.below hB1).below hal)
        have hend := Lib.hid (fun A9 c9 w9 (ho : w9.ownsRow w.heap.size 3 1 (.slice A9 (L0.length + 1) c9) (L0.length + 1) (shI.fl L0 ++ cI r.node)) (hg : (W1.alloc (.cells #[.int .i64 r.node] 3)).grownBy w9 (Value.slice A1 L0.length c1).ownBlock) => (by
          rw [hL1]
          refine ⟨coG.Own.of_app1 ho, grown_below (trans0 (trans0 hB hB1) hal) hg (fun k e => (hG.lt e).1) (Nat.le_trans hB.size (Nat.le_trans hB1.size hal.size))⟩ : coG.Own shI w9 w.heap.size A9 c9 (x.ns.take (j + 1)) ∧ Below w.heap.size w w9))
        have hlt9 := Lib.hid (show L0.length + 1 ≤ maxLen ∧ (L0.length + 1) * 8 ≤ 140737488355328 ∧ w.heap.size ≤ (W1.alloc (.cells #[.int .i64 r.node] 3)).heap.size from ⟨by unfold maxLen; omega, by omega, Nat.le_trans hB.size (Nat.le_trans hB1.size hal.size)⟩)
        have hnext : Hid ((x.ns.take (j + 1)).length = L0.length + 1) := Lib.hid (by rw [hL1, List.length_append]; rfl)
        have hbx : W1.cell? ⟨wr.heap.size, 0, none⟩ = some (.int .i64 r.node) := by
          rw [← hW1]
          exact (cell_of_row _ _ 0 _ TD (0, 0) (heap_alloc_new wr (.cells #[.int .i64 r.node, .slice r.A r.vs.length r.c, .bool hv, .bool he] TD))).trans rfl
        replace hW1 := Lib.hid hW1
        clear hX hG hB hmw hL0 hL1 hal hr hns hlj hB1
        go_upto_region 5 with (fail)
        rw [hW1.out]
        clear hW1
        go_wp2_with (at_builtin; refine wpList_gen rfl (.tmp 16) (.tmp 20) 43 rfl w.heap.size 3 iV _ 1 8 Try.underlying43 hiV hzV0 hzV1 hzV2 rfl (by decide) (.slice A1 L0.length c1) L0.length (shI.fl L0) (by rfl) hown.out (some ⟨W1.heap.size, 0, none⟩) 1 1 (cI r.node) (by rfl) rfl (stand_new _ _ _ _) (cI_one _) hlt9.out.1 hlt9.out.2.1 hlt9.out.2.2 ?_; intro A9 c9 w9 hr9 hg9 hat9; have hF := Lib.hid (hend.out A9 c9 w9 hr9 hg9); clear hr9 hg9 hat9)
        go_roundw
        case rel => exact ⟨j + 1, A9, c9, by omega, by go_num, by rw [hnext.out], hF⟩
        case measure => simp [intOf]; omega
      · obtain rfl : j = x.rs.length := by omega
        have hjI : ¬ (x.rs.length : Int) < (x.rs.length : Int) := by omega
        rw [List.take_of_length_le (by omega)] at hX ⊢
        clear hm
        go_wp2
        go_ret
        exact ⟨_, _, rfl, hX.out.1, hX.out.2⟩
theorem writes_nil (w : World) (tx : Int) : Calls Try.prog 21 #[.pointer none, .int .u64 tx] w fun e w' => e = .returned (.slice none 0 0) ∧ w = w' := by
  have hsd := Lib.hid (sides_nil w tx)
  go_enter Try.func21, Try.ntmps21
  go_wp2_with (fail)
  with_reducible refine hsd.out.mono ?_
  rintro e w' ⟨rfl, rfl⟩
  go_wp2
  go_loopw [12, 5] (fun i s wr => i = .int .i64 0 ∧ s = .slice none 0 0 ∧ wr = w) (fun _ _ _ => 0)
  case atStart => exact ⟨rfl, rfl, rfl⟩
  case round =>
    obtain ⟨rfl, rfl, rfl⟩ := hrel
    go_wp2
    go_ret
    exact ⟨rfl, rfl⟩
theorem nodes_nil (w : World) (tx : Int) : Calls Try.prog 17 #[.pointer none, .int .u64 tx] w fun e w' => e = .returned (.slice none 0 0) ∧ w = w' := by
  have hsd := Lib.hid (sides_nil w tx)
  go_enter Try.func17, Try.ntmps17
  go_wp2_with (fail)
  with_reducible refine hsd.out.mono ?_
  rintro e w' ⟨rfl, rfl⟩
  go_wp2
  go_loopw [12, 5] (fun i s wr => i = .int .i64 0 ∧ s = .slice none 0 0 ∧ wr = w) (fun _ _ _ => 0)
  case atStart => exact ⟨rfl, rfl, rfl⟩
  case round =>
    obtain ⟨rfl, rfl, rfl⟩ := hrel
    go_wp2
    go_ret
    exact ⟨rfl, rfl⟩
end
end Go.Proofs.Ytafocefbpkcoaaa.coW
