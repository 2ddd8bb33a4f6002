/- The program's Write. -/
import Derived.Test.YtnicomhodnfggaaSeV
set_option linter.unusedVariables false
set_option linter.unusedSimpArgs false
set_option maxRecDepth 100000
namespace Go.Proofs.Ytnicomhodnfggaa.seW
open Go.ChangeShapes Go.WideShapes Go.ChangeAt Go.RowKit Go.Deep
open opV chnM gen chnA chnR chnE seM seI ordC seL seN seB seK seV

theorem bin_slt (t : TypeId) (a b : ByteArray) : binOp .lss t (.string a) (.string b) = pure (.bool (slt a b)) := by simp [binOp, Op.stringOp, slt]
theorem bin_sle (t : TypeId) (a b : ByteArray) : binOp .leq t (.string a) (.string b) = pure (.bool (sle a b)) := by simp [binOp, Op.stringOp, slt, sle, seq]
theorem bin_sge (t : TypeId) (a b : ByteArray) : binOp .geq t (.string a) (.string b) = pure (.bool (!slt a b)) := by simp [binOp, Op.stringOp, slt]
theorem bin_sgt (t : TypeId) (a b : ByteArray) : binOp .gtr t (.string a) (.string b) = pure (.bool (!sle a b)) := by simp [binOp, Op.stringOp, slt, sle, seq]
theorem bin_seq (t : TypeId) (a b : ByteArray) : binOp .eql t (.string a) (.string b) = pure (.bool (seq a b)) := by simp [binOp, Op.stringOp, seq]
theorem bin_sne (t : TypeId) (a b : ByteArray) : binOp .neq t (.string a) (.string b) = pure (.bool (!seq a b)) := by simp [binOp, Op.stringOp, seq]
attribute [local go_sem high] bin_slt bin_sle bin_sge bin_sgt bin_seq bin_sne

section
variable {col : Nat → Nat} {c p : Nat} {S : Ss}
theorem lv_drew {w w1 : World} (h : Lv col c p S w w1) : Lv col c p S w w1.drew := by
  obtain ⟨col', hC, h'⟩ := h
  exact ⟨col', ⟨hC.1, hC.2.1, hC.2.2.drew⟩, h'.below (below_drew _)⟩
theorem wrS_not {key val : ByteArray} {gone : Bool} (h : wrE S key val gone ≠ 0) : wrS S key val gone = S := if_neg h
set_option maxHeartbeats 2000000 in
theorem wr_shut (w : World) (h : SesAt col c w p S) (hok : S.ok) (hc : c ≠ 0) (hf : Fresh col w) (key val : ByteArray) (gone : Bool) (h1 : S.op = false) : Calls Try.prog 11 #[.pointer (some ⟨p, 0, none⟩), .string key, .string val, .bool gone] w fun e w' =>
    e = .returned (.int .i64 17) ∧ Lv col c p S w w' := by
  have hfin := Lib.hid (lv_stay h hf (Below.refl _ _))
  obtain ⟨A, cw, mb, n, D, h, hr⟩ := h
  obtain ⟨k0, k1, k2, k3, k4⟩ := h.cells
  rw [h1] at k2
  clear h hr
  go_enter Try.func11, Try.ntmps11
  go_wp2
  go_ret
  exact ⟨rfl, hfin.out⟩
set_option maxHeartbeats 2000000 in
theorem wr_long (w : World) (h : SesAt col c w p S) (hok : S.ok) (hc : c ≠ 0) (hf : Fresh col w) (key val : ByteArray) (gone : Bool) (h1 : S.op = true) (h2 : isLong key val) : Calls Try.prog 11 #[.pointer (some ⟨p, 0, none⟩), .string key, .string val, .bool gone] w fun e w' =>
    e = .returned (.int .i64 6) ∧ Lv col c p S w w' := by
  have hfin := Lib.hid (lv_stay h hf (Below.refl _ _))
  obtain ⟨A, cw, mb, n, D, h, hr⟩ := h
  obtain ⟨k0, k1, k2, k3, k4⟩ := h.cells
  rw [h1] at k2
  clear h hr
  have h3 : (16 : Int) < (key.size : Int) ∨ (¬ (16 : Int) < (key.size : Int) ∧ (64 : Int) < (val.size : Int)) := by unfold isLong at h2; omega
  clear h2
  rcases h3 with h3 | ⟨h3, h4⟩
  all_goals
    go_enter Try.func11, Try.ntmps11
    go_wp2
    go_ret
    exact ⟨rfl, hfin.out⟩
set_option maxHeartbeats 2000000 in
theorem wr_arg (w : World) (h : SesAt col c w p S) (hok : S.ok) (hc : c ≠ 0) (hf : Fresh col w) (key val : ByteArray) (gone : Bool) (h1 : S.op = true) (h2 : ¬ isLong key val) (h3 : isArg key val gone = true) : Calls Try.prog 11 #[.pointer (some ⟨p, 0, none⟩), .string key, .string val, .bool gone] w fun e w' =>
    e = .returned (.int .i64 1) ∧ Lv col c p S w w' := by
  have hfin := Lib.hid (lv_stay h hf (Below.refl _ _))
  obtain ⟨A, cw, mb, n, D, h, hr⟩ := h
  obtain ⟨k0, k1, k2, k3, k4⟩ := h.cells
  rw [h1] at k2
  clear h hr
  have h4 : ¬ (16 : Int) < (key.size : Int) := by unfold isLong at h2; omega
  have h5 : ¬ (64 : Int) < (val.size : Int) := by unfold isLong at h2; omega
  have h6 : seq key emp = true ∨ (seq key emp = false ∧ gone = true ∧ seq val emp = false) := by
    unfold isArg at h3
    cases h7 : seq key emp <;> cases gone <;> cases h8 : seq val emp <;> simp [h7, h8] at h3 ⊢
  clear h2 h3
  rcases h6 with h6 | ⟨h6, rfl, h7⟩
  all_goals
    go_enter Try.func11, Try.ntmps11
    go_wp2
    go_ret
    exact ⟨rfl, hfin.out⟩
set_option maxHeartbeats 2000000 in
theorem wr_full (w : World) (h : SesAt col c w p S) (hok : S.ok) (hc : c ≠ 0) (hf : Fresh col w) (key val : ByteArray) (gone : Bool) (h1 : S.op = true) (h2 : ¬ isLong key val) (h3 : isArg key val gone = false) (h8 : is S.ws key = false) (h9 : 8 ≤ S.ws.length) : Calls Try.prog 11 #[.pointer (some ⟨p, 0, none⟩), .string key, .string val, .bool gone] w fun e w' =>
    e = .returned (.int .i64 9) ∧ Lv col c p S w w' := by
  have hBy := Lib.hid (fun w' (hB : Below w.heap.size w w') => h.below hB)
  have hca := Lib.hid (fun w => clone_any key w (by unfold isLong at h2; omega))
  have hcb := Lib.hid (fun w => clone_any val w (by unfold isLong at h2; omega))
  have hF := Lib.hid (fun w' (hB : Below w.heap.size w w') => find_at w' (h.below hB) hok key)
  have h4 : ¬ (16 : Int) < (key.size : Int) := by unfold isLong at h2; omega
  have h5 : ¬ (64 : Int) < (val.size : Int) := by unfold isLong at h2; omega
  have h6 : seq key emp = false ∧ (gone = false ∨ (gone = true ∧ seq val emp = true)) := by
    unfold isArg at h3
    cases h7 : seq key emp <;> cases gone <;> cases h8 : seq val emp <;> simp [h7, h8] at h3 ⊢
  obtain ⟨h6, h7⟩ := h6
  have hB0 := Below.refl w.heap.size w
  have hfin := Lib.hid (fun w' hB => lv_stay (w1 := w') h hf hB)
  obtain ⟨A, cw, mb, n, D, h, hr⟩ := h
  have hcl := Lib.hid (fun w' (hB : Below w.heap.size w w') => (h.below hB).cells)
  obtain ⟨k0, k1, k2, k3, k4⟩ := h.cells
  rw [h1] at k2
  have h9I : (8 : Int) ≤ (S.ws.length : Int) := by omega
  rw [h8] at hF
  clear h hr hok hBy
  clear h2 h3
  rcases h7 with rfl | ⟨rfl, h7⟩
  · go_enter Try.func11, Try.ntmps11
    go_wp2_with (fail)
    with_reducible refine (hca.out _).mono ?_
    rintro e w1 ⟨rfl, hB1⟩
    have k2' := keep_cell hB1 k2
    go_wp2_with (fail)
    with_reducible refine (hcb.out _).mono ?_
    rintro e w2 ⟨rfl, hB2⟩
    have hB2' := trans0 hB1 hB2
    obtain ⟨W3, hW3⟩ : ∃ W3, w2.alloc (.cells #[.string key, .string val, .bool false, .int .u64 0, .int .i64 0, .int .i64 0] 41) = W3 := ⟨_, rfl⟩
    have hB3 : Below w2.heap.size w2 W3 := by rw [← hW3]; exact al0 w2 _
    have hP3 : R6 w2.heap.size (wv key val false) W3 := by rw [← hW3]; exact R6.new w2 (wv key val false)
    replace hW3 := Lib.hid hW3
    have hBB := trans0 hB2' hB3
    clear k0 k1 k2 k2' k3 k4 hB0 hB1 hB2 hB2' hB3 hca hcb h4 h5 h6
    go_upto_region 10 with (fail)
    rw [hW3.out]
    go_wp2_with (fail)
    with_reducible refine (hF.out _ hBB).mono ?_
    rintro e w4 ⟨rfl, hB4⟩
    have hB5 := trans0 hBB hB4
    have hP4 := R6.below hP3 hB4
    have hl4 := hP4.lt
    generalize w2.heap.size = vb at *
    clear hP3 hBB hB4 hF hW3
    obtain ⟨k0, k1, k2, k3, k4⟩ := hcl.out _ hB5
    have hfi := Lib.hid (hfin.out _ hB5)
    clear hfin hB5 hcl
    go_wp2
    go_ret
    exact ⟨rfl, hfi.out⟩
  · go_enter Try.func11, Try.ntmps11
    go_wp2_with (fail)
    with_reducible refine (hca.out _).mono ?_
    rintro e w1 ⟨rfl, hB1⟩
    have k2' := keep_cell hB1 k2
    go_wp2_with (fail)
    with_reducible refine (hcb.out _).mono ?_
    rintro e w2 ⟨rfl, hB2⟩
    have hB2' := trans0 hB1 hB2
    obtain ⟨W3, hW3⟩ : ∃ W3, w2.alloc (.cells #[.string key, .string val, .bool true, .int .u64 0, .int .i64 0, .int .i64 0] 41) = W3 := ⟨_, rfl⟩
    have hB3 : Below w2.heap.size w2 W3 := by rw [← hW3]; exact al0 w2 _
    have hP3 : R6 w2.heap.size (wv key val true) W3 := by rw [← hW3]; exact R6.new w2 (wv key val true)
    replace hW3 := Lib.hid hW3
    have hBB := trans0 hB2' hB3
    clear k0 k1 k2 k2' k3 k4 hB0 hB1 hB2 hB2' hB3 hca hcb h4 h5 h6
    go_upto_region 10 with (fail)
    rw [hW3.out]
    go_wp2_with (fail)
    with_reducible refine (hF.out _ hBB).mono ?_
    rintro e w4 ⟨rfl, hB4⟩
    have hB5 := trans0 hBB hB4
    have hP4 := R6.below hP3 hB4
    have hl4 := hP4.lt
    generalize w2.heap.size = vb at *
    clear hP3 hBB hB4 hF hW3
    obtain ⟨k0, k1, k2, k3, k4⟩ := hcl.out _ hB5
    have hfi := Lib.hid (hfin.out _ hB5)
    clear hfin hB5 hcl
    go_wp2
    go_ret
    exact ⟨rfl, hfi.out⟩
set_option maxHeartbeats 2000000 in
theorem wr_there (w : World) (h : SesAt col c w p S) (hok : S.ok) (hc : c ≠ 0) (hf : Fresh col w) (key val : ByteArray) (gone : Bool) (h1 : S.op = true) (h2 : ¬ isLong key val) (h3 : isArg key val gone = false) (h8 : is S.ws key = true) : Calls Try.prog 11 #[.pointer (some ⟨p, 0, none⟩), .string key, .string val, .bool gone] w fun e w' =>
    e = .returned (.int .i64 0) ∧ Lv col c p { S with ws := pK S.ws (wv key val gone) } w w' := by
  have hBy := Lib.hid (fun w' (hB : Below w.heap.size w w') => h.below hB)
  have hca := Lib.hid (fun w => clone_any key w (by unfold isLong at h2; omega))
  have hcb := Lib.hid (fun w => clone_any val w (by unfold isLong at h2; omega))
  have hF := Lib.hid (fun w' (hB : Below w.heap.size w w') => find_at w' (h.below hB) hok key)
  have h4 : ¬ (16 : Int) < (key.size : Int) := by unfold isLong at h2; omega
  have h5 : ¬ (64 : Int) < (val.size : Int) := by unfold isLong at h2; omega
  have h6 : seq key emp = false ∧ (gone = false ∨ (gone = true ∧ seq val emp = true)) := by
    unfold isArg at h3
    cases h7 : seq key emp <;> cases gone <;> cases h8 : seq val emp <;> simp [h7, h8] at h3 ⊢
  obtain ⟨h6, h7⟩ := h6
  have hB0 := Below.refl w.heap.size w
  obtain ⟨A, cw, mb, n, D, h, hr, hn⟩ := h
  have hcl := Lib.hid (fun w' (hB : Below w.heap.size w w') => (h.below hB).cells)
  obtain ⟨k0, k1, k2, k3, k4⟩ := h.cells
  rw [h1] at k2
  obtain ⟨hp1, hp2⟩ := hok.up.is_at.1 h8
  obtain ⟨g, rfl⟩ := at_own h.ro (by omega)
  have hset := hok.up.pK_there (v := wv key val gone) h8
  have hqI : ((pos S.ws key : Nat) : Int) < (S.ws.length : Int) := by omega
  have hl9 : S.ws.length ≤ 8 := hok.le
  have hslot := Lib.hid (fun w' (hB : Below w.heap.size w w') (j : Nat) (hj : j < 6) => (by
    have hh := (h.below hB).ro
    have h1 := World.ownsRow.cellAt hh (pos S.ws key * 6 + j) (by omega)
    rw [List.getElem?_eq_getElem (by rw [fl_len]; omega)] at h1
    exact ⟨⟨_, h1⟩, World.ownsRow.frozenAt hh _⟩ : (∃ u, w'.cell? ⟨g, pos S.ws key * 6 + j, none⟩ = some u) ∧ w'.frozen? ⟨g, pos S.ws key * 6 + j, none⟩ = false))
  have hend := Lib.hid (fun w' (hB : Below w.heap.size w w') => (by
    obtain ⟨z1, z2⟩ := (h.below hB).stW hc hp1 (wv key val gone)
    have e : pK S.ws (wv key val gone) = S.ws.set (pos S.ws key) (wv key val gone) := hset
    exact ⟨col, ⟨Ext.refl _ _, hf.up (by have := hB.size; have := z1.size; omega), (Chg.of_below _ _ hB).tran z1⟩, some ⟨g, 0, none⟩, cw, mb, n, D, by rw [e]; exact z2, hr, hn⟩ : Lv col c p { S with ws := pK S.ws (wv key val gone) } w (putAt w' g (pos S.ws key * 6) (wv key val gone))))
  rw [h8] at hF
  clear h hr hok hn hBy hset hp2 hp1
  generalize pos S.ws key = q at *
  generalize S.ws.length = nl at *
  clear h2 h3
  rcases h7 with rfl | ⟨rfl, h7⟩
  · go_enter Try.func11, Try.ntmps11
    go_wp2_with (fail)
    with_reducible refine (hca.out _).mono ?_
    rintro e w1 ⟨rfl, hB1⟩
    have k2' := keep_cell hB1 k2
    go_wp2_with (fail)
    with_reducible refine (hcb.out _).mono ?_
    rintro e w2 ⟨rfl, hB2⟩
    have hB2' := trans0 hB1 hB2
    obtain ⟨W3, hW3⟩ : ∃ W3, w2.alloc (.cells #[.string key, .string val, .bool false, .int .u64 0, .int .i64 0, .int .i64 0] 41) = W3 := ⟨_, rfl⟩
    have hB3 : Below w2.heap.size w2 W3 := by rw [← hW3]; exact al0 w2 _
    have hP3 : R6 w2.heap.size (wv key val false) W3 := by rw [← hW3]; exact R6.new w2 (wv key val false)
    replace hW3 := Lib.hid hW3
    have hBB := trans0 hB2' hB3
    clear k0 k1 k2 k2' k3 k4 hB0 hB1 hB2 hB2' hB3 hca hcb h4 h5 h6
    go_upto_region 10 with (fail)
    rw [hW3.out]
    go_wp2_with (fail)
    with_reducible refine (hF.out _ hBB).mono ?_
    rintro e w4 ⟨rfl, hB4⟩
    have hB5 := trans0 hBB hB4
    have hP4 := R6.below hP3 hB4
    have hl4 := hP4.lt
    generalize w2.heap.size = vb at *
    clear hP3 hBB hB4 hF hW3
    obtain ⟨k0, k1, k2, k3, k4⟩ := hcl.out _ hB5
    obtain ⟨⟨u0, o0⟩, z0⟩ := hslot.out _ hB5 0 (by omega)
    rw [Nat.add_zero] at o0 z0
    obtain ⟨⟨u1, o1⟩, z1⟩ := hslot.out _ hB5 1 (by omega)
    obtain ⟨⟨u2, o2⟩, z2⟩ := hslot.out _ hB5 2 (by omega)
    obtain ⟨⟨u3, o3⟩, z3⟩ := hslot.out _ hB5 3 (by omega)
    obtain ⟨⟨u4, o4⟩, z4⟩ := hslot.out _ hB5 4 (by omega)
    obtain ⟨⟨u5, o5⟩, z5⟩ := hslot.out _ hB5 5 (by omega)
    obtain ⟨d0, d1, d2, d3, d4, d5⟩ := hP4.v6
    have hfi := Lib.hid (lv_drew (hend.out _ hB5))
    unfold putAt at hfi
    clear hend hB5 hcl hslot hP4
    go_upto_region 13 with (fail)
    go_region
    all_goals
      go_wp2
      go_ret
      refine ⟨rfl, ?_⟩
      with_reducible exact hfi.out
  · go_enter Try.func11, Try.ntmps11
    go_wp2_with (fail)
    with_reducible refine (hca.out _).mono ?_
    rintro e w1 ⟨rfl, hB1⟩
    have k2' := keep_cell hB1 k2
    go_wp2_with (fail)
    with_reducible refine (hcb.out _).mono ?_
    rintro e w2 ⟨rfl, hB2⟩
    have hB2' := trans0 hB1 hB2
    obtain ⟨W3, hW3⟩ : ∃ W3, w2.alloc (.cells #[.string key, .string val, .bool true, .int .u64 0, .int .i64 0, .int .i64 0] 41) = W3 := ⟨_, rfl⟩
    have hB3 : Below w2.heap.size w2 W3 := by rw [← hW3]; exact al0 w2 _
    have hP3 : R6 w2.heap.size (wv key val true) W3 := by rw [← hW3]; exact R6.new w2 (wv key val true)
    replace hW3 := Lib.hid hW3
    have hBB := trans0 hB2' hB3
    clear k0 k1 k2 k2' k3 k4 hB0 hB1 hB2 hB2' hB3 hca hcb h4 h5 h6
    go_upto_region 10 with (fail)
    rw [hW3.out]
    go_wp2_with (fail)
    with_reducible refine (hF.out _ hBB).mono ?_
    rintro e w4 ⟨rfl, hB4⟩
    have hB5 := trans0 hBB hB4
    have hP4 := R6.below hP3 hB4
    have hl4 := hP4.lt
    generalize w2.heap.size = vb at *
    clear hP3 hBB hB4 hF hW3
    obtain ⟨k0, k1, k2, k3, k4⟩ := hcl.out _ hB5
    obtain ⟨⟨u0, o0⟩, z0⟩ := hslot.out _ hB5 0 (by omega)
    rw [Nat.add_zero] at o0 z0
    obtain ⟨⟨u1, o1⟩, z1⟩ := hslot.out _ hB5 1 (by omega)
    obtain ⟨⟨u2, o2⟩, z2⟩ := hslot.out _ hB5 2 (by omega)
    obtain ⟨⟨u3, o3⟩, z3⟩ := hslot.out _ hB5 3 (by omega)
    obtain ⟨⟨u4, o4⟩, z4⟩ := hslot.out _ hB5 4 (by omega)
    obtain ⟨⟨u5, o5⟩, z5⟩ := hslot.out _ hB5 5 (by omega)
    obtain ⟨d0, d1, d2, d3, d4, d5⟩ := hP4.v6
    have hfi := Lib.hid (lv_drew (hend.out _ hB5))
    unfold putAt at hfi
    clear hend hB5 hcl hslot hP4
    go_upto_region 13 with (fail)
    go_region
    all_goals
      go_wp2
      go_ret
      refine ⟨rfl, ?_⟩
      with_reducible exact hfi.out
set_option maxHeartbeats 2000000 in
theorem wr_ins (w : World) (h : SesAt col c w p S) (hok : S.ok) (hc : c ≠ 0) (hf : Fresh col w) (key val : ByteArray) (gone : Bool) (h1 : S.op = true) (h2 : ¬ isLong key val) (h3 : isArg key val gone = false) (h8 : is S.ws key = false) (h9 : S.ws.length < 8) : Calls Try.prog 11 #[.pointer (some ⟨p, 0, none⟩), .string key, .string val, .bool gone] w fun e w' =>
    e = .returned (.int .i64 0) ∧ Lv col c p { S with ws := pK S.ws (wv key val gone) } w w' := by
  have hBy := Lib.hid (fun w' (hB : Below w.heap.size w w') => h.below hB)
  have hca := Lib.hid (fun w => clone_any key w (by unfold isLong at h2; omega))
  have hcb := Lib.hid (fun w => clone_any val w (by unfold isLong at h2; omega))
  have hF := Lib.hid (fun w' (hB : Below w.heap.size w w') => find_at w' (h.below hB) hok key)
  have h4 : ¬ (16 : Int) < (key.size : Int) := by unfold isLong at h2; omega
  have h5 : ¬ (64 : Int) < (val.size : Int) := by unfold isLong at h2; omega
  have h6 : seq key emp = false ∧ (gone = false ∨ (gone = true ∧ seq val emp = true)) := by
    unfold isArg at h3
    cases h7 : seq key emp <;> cases gone <;> cases h8 : seq val emp <;> simp [h7, h8] at h3 ⊢
  obtain ⟨h6, h7⟩ := h6
  have hB0 := Below.refl w.heap.size w
  obtain ⟨A, cw, mb, n, D, h, hr, hn⟩ := h
  have hcl := Lib.hid (fun w' (hB : Below w.heap.size w w') => (h.below hB).cells)
  have hfz := Lib.hid (fun w' (hB : Below w.heap.size w w') => (h.below hB).fz 3)
  obtain ⟨k0, k1, k2, k3, k4⟩ := h.cells
  rw [h1] at k2
  have hset := hok.up.pK_not (v := wv key val gone) h8
  have hle := pos_le S.ws key
  have h9I : ¬ (8 : Int) ≤ (S.ws.length : Int) := by omega
  have hins := Lib.hid (fun w5 (hB : Below w.heap.size w w5) => ins_any 0 A cw S.ws (pos S.ws key) (wv key val gone) w5.heap.size (w5.alloc (.cells #[.string (wv key val gone).key, .string (wv key val gone).val, .bool (wv key val gone).gone, .int .u64 (wv key val gone).ts, .int .i64 (wv key val gone).dc, .int .i64 (wv key val gone).tx] 41)).drew ((h.below (hB.alloc hB.size _)).ro) hle (heap_alloc_new w5 _) (fun e => (Nat.lt_irrefl _ ((h.below hB).ro.lt _ e).2)) (by omega) (Nat.zero_le _))
  have hend := Lib.hid (fun w5 w6 A9 c9 (hB : Below w.heap.size w w5) (hG : GV w6 0 A9 c9 (insA S.ws (pos S.ws key) (wv key val gone))) (hg : w5.grownBy w6 (Value.slice A S.ws.length cw).ownBlock) (hat : (Value.slice A9 (S.ws.length + 1) c9).ownBlock = (Value.slice A S.ws.length cw).ownBlock ∨ (Value.slice A9 (S.ws.length + 1) c9).ownBlock = some w5.heap.size) => (by
    have hl := ins_len (v := wv key val gone) hle
    rw [← hl] at hat ⊢
    obtain ⟨z1, z2, col', hC, hS⟩ := (h.below hB).grW hc (hf.up hB.size) hg hG hat
    have e : pK S.ws (wv key val gone) = insA S.ws (pos S.ws key) (wv key val gone) := hset
    exact ⟨z1, z2, col', (Cn.below hf hB).trans hC, A9, c9, mb, n, D, by rw [e]; exact hS, hr, hn⟩ : w6.cell? ⟨p, 3, none⟩ = some (.slice A S.ws.length cw) ∧ w6.frozen? ⟨p, 3, none⟩ = false ∧ Lv col c p { S with ws := pK S.ws (wv key val gone) } w (w6.setCell ⟨p, 3, none⟩ (.slice A9 (S.ws.length + 1) c9))))
  rw [h8] at hF
  clear h hr hok hn hBy hset hle
  generalize pos S.ws key = q at *
  clear h2 h3
  rcases h7 with rfl | ⟨rfl, h7⟩
  · go_enter Try.func11, Try.ntmps11
    go_wp2_with (fail)
    with_reducible refine (hca.out _).mono ?_
    rintro e w1 ⟨rfl, hB1⟩
    have k2' := keep_cell hB1 k2
    go_wp2_with (fail)
    with_reducible refine (hcb.out _).mono ?_
    rintro e w2 ⟨rfl, hB2⟩
    have hB2' := trans0 hB1 hB2
    obtain ⟨W3, hW3⟩ : ∃ W3, w2.alloc (.cells #[.string key, .string val, .bool false, .int .u64 0, .int .i64 0, .int .i64 0] 41) = W3 := ⟨_, rfl⟩
    have hB3 : Below w2.heap.size w2 W3 := by rw [← hW3]; exact al0 w2 _
    have hP3 : R6 w2.heap.size (wv key val false) W3 := by rw [← hW3]; exact R6.new w2 (wv key val false)
    replace hW3 := Lib.hid hW3
    have hBB := trans0 hB2' hB3
    clear k0 k1 k2 k2' k3 k4 hB0 hB1 hB2 hB2' hB3 hca hcb h4 h5 h6
    go_upto_region 10 with (fail)
    rw [hW3.out]
    go_wp2_with (fail)
    with_reducible refine (hF.out _ hBB).mono ?_
    rintro e w4 ⟨rfl, hB4⟩
    have hB5 := trans0 hBB hB4
    have hP4 := R6.below hP3 hB4
    have hl4 := hP4.lt
    generalize w2.heap.size = vb at *
    clear hP3 hBB hB4 hF hW3
    obtain ⟨k0, k1, k2, k3, k4⟩ := hcl.out _ hB5
    have f3 := hfz.out _ hB5
    have hpl := World.block_lt_of_cell? _ _ k3
    obtain ⟨d0, d1, d2, d3, d4, d5⟩ := hP4.v6
    have hin := Lib.hid (hins.out _ hB5)
    have hen := Lib.hid (fun w6 A9 c9 => hend.out (w4.alloc (.cells #[.string (wv key val false).key, .string (wv key val false).val, .bool (wv key val false).gone, .int .u64 (wv key val false).ts, .int .i64 (wv key val false).dc, .int .i64 (wv key val false).tx] 41)).drew w6 A9 c9 (hB5.alloc hB5.size _).drew)
    clear hend hins hB5 hcl hfz hP4
    go_upto_region 11 with (fail)
    go_region_law (first
      | (go_simp; go_at_call 29; ((with_reducible refine (hin.out).mono ?_); rintro e w6 ⟨A9, c9, rfl, hG6, hg6, hat6⟩); obtain ⟨z1, z2, hD⟩ := hen.out w6 A9 c9 hG6 hg6 hat6; replace hD := Lib.hid hD; clear hG6 hg6 hat6)
      | fail)
    all_goals
      go_wp2
      go_ret
      refine ⟨rfl, ?_⟩
      with_reducible exact hD.out
  · go_enter Try.func11, Try.ntmps11
    go_wp2_with (fail)
    with_reducible refine (hca.out _).mono ?_
    rintro e w1 ⟨rfl, hB1⟩
    have k2' := keep_cell hB1 k2
    go_wp2_with (fail)
    with_reducible refine (hcb.out _).mono ?_
    rintro e w2 ⟨rfl, hB2⟩
    have hB2' := trans0 hB1 hB2
    obtain ⟨W3, hW3⟩ : ∃ W3, w2.alloc (.cells #[.string key, .string val, .bool true, .int .u64 0, .int .i64 0, .int .i64 0] 41) = W3 := ⟨_, rfl⟩
    have hB3 : Below w2.heap.size w2 W3 := by rw [← hW3]; exact al0 w2 _
    have hP3 : R6 w2.heap.size (wv key val true) W3 := by rw [← hW3]; exact R6.new w2 (wv key val true)
    replace hW3 := Lib.hid hW3
    have hBB := trans0 hB2' hB3
    clear k0 k1 k2 k2' k3 k4 hB0 hB1 hB2 hB2' hB3 hca hcb h4 h5 h6
    go_upto_region 10 with (fail)
    rw [hW3.out]
    go_wp2_with (fail)
    with_reducible refine (hF.out _ hBB).mono ?_
    rintro e w4 ⟨rfl, hB4⟩
    have hB5 := trans0 hBB hB4
    have hP4 := R6.below hP3 hB4
    have hl4 := hP4.lt
    generalize w2.heap.size = vb at *
    clear hP3 hBB hB4 hF hW3
    obtain ⟨k0, k1, k2, k3, k4⟩ := hcl.out _ hB5
    have f3 := hfz.out _ hB5
    have hpl := World.block_lt_of_cell? _ _ k3
    obtain ⟨d0, d1, d2, d3, d4, d5⟩ := hP4.v6
    have hin := Lib.hid (hins.out _ hB5)
    have hen := Lib.hid (fun w6 A9 c9 => hend.out (w4.alloc (.cells #[.string (wv key val true).key, .string (wv key val true).val, .bool (wv key val true).gone, .int .u64 (wv key val true).ts, .int .i64 (wv key val true).dc, .int .i64 (wv key val true).tx] 41)).drew w6 A9 c9 (hB5.alloc hB5.size _).drew)
    clear hend hins hB5 hcl hfz hP4
    go_upto_region 11 with (fail)
    go_region_law (first
      | (go_simp; go_at_call 29; ((with_reducible refine (hin.out).mono ?_); rintro e w6 ⟨A9, c9, rfl, hG6, hg6, hat6⟩); obtain ⟨z1, z2, hD⟩ := hen.out w6 A9 c9 hG6 hg6 hat6; replace hD := Lib.hid hD; clear hG6 hg6 hat6)
      | fail)
    all_goals
      go_wp2
      go_ret
      refine ⟨rfl, ?_⟩
      with_reducible exact hD.out
theorem write_at (w : World) (h : SesAt col c w p S) (hok : S.ok) (hc : c ≠ 0) (hf : Fresh col w) (key val : ByteArray) (gone : Bool) : Calls Try.prog 11 #[.pointer (some ⟨p, 0, none⟩), .string key, .string val, .bool gone] w fun e w' =>
    e = .returned (.int .i64 (wrE S key val gone)) ∧ Lv col c p (wrS S key val gone) w w' := by
  have hwz : wrE S key val gone = 0 → wrS S key val gone = { S with ws := pK S.ws (wv key val gone) } := fun h => if_pos h
  cases h1 : S.op with
  | false =>
    have hE : wrE S key val gone = 17 := if_pos h1
    rw [wrS_not (by rw [hE]; decide), hE]
    exact wr_shut w h hok hc hf key val gone h1
  | true =>
    have hn1 : ¬ S.op = false := by rw [h1]; simp
    by_cases h2 : isLong key val
    · have hE : wrE S key val gone = 6 := by unfold wrE; rw [if_neg hn1, if_pos h2]
      rw [wrS_not (by rw [hE]; decide), hE]
      exact wr_long w h hok hc hf key val gone h1 h2
    · cases h3 : isArg key val gone with
      | true =>
        have hE : wrE S key val gone = 1 := by unfold wrE; rw [if_neg hn1, if_neg h2, h3]; rfl
        rw [wrS_not (by rw [hE]; decide), hE]
        exact wr_arg w h hok hc hf key val gone h1 h2 h3
      | false =>
        cases h8 : is S.ws key with
        | true =>
          have hE : wrE S key val gone = 0 := by unfold wrE; rw [if_neg hn1, if_neg h2, if_neg (by rw [h3]; simp), if_neg (by rw [h8]; simp)]
          rw [hwz hE, hE]
          exact wr_there w h hok hc hf key val gone h1 h2 h3 h8
        | false =>
          by_cases h9 : 8 ≤ S.ws.length
          · have hE : wrE S key val gone = 9 := by unfold wrE; rw [if_neg hn1, if_neg h2, if_neg (by rw [h3]; simp), if_pos ⟨h8, h9⟩]
            rw [wrS_not (by rw [hE]; decide), hE]
            exact wr_full w h hok hc hf key val gone h1 h2 h3 h8 h9
          · have hE : wrE S key val gone = 0 := by unfold wrE; rw [if_neg hn1, if_neg h2, if_neg (by rw [h3]; simp), if_neg (fun h => h9 h.2)]
            rw [hwz hE, hE]
            exact wr_ins w h hok hc hf key val gone h1 h2 h3 h8 (by omega)
end
end Go.Proofs.Ytnicomhodnfggaa.seW
