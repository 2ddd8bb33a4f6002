/- The document's Write, Begin, Commit. -/
import Derived.Test.YtnicomhodnfggaaSeR
set_option linter.unusedVariables false
set_option linter.unusedSimpArgs false
set_option maxRecDepth 100000
namespace Go.Proofs.Ytnicomhodnfggaa.seU
open Go.ChangeShapes Go.WideShapes Go.ChangeAt Go.RowKit Go.Deep
open opV chnM gen chnA chnR chnE seM seI ordC seL seN seB seK seV seW seG seC seQ seR
attribute [local go_sem high] bin_slt bin_sle bin_sge bin_sgt bin_seq bin_sne

section
variable {col : Nat → Nat} {c q : Nat} {S : Ss}
set_option maxHeartbeats 2000000 in
theorem dwr_shut (w : World) (h : DocAt col c w q S) (hok : S.ok) (hc : c ≠ 0) (hf : Fresh col w) (key val : ByteArray) (gone : Bool) (h1 : S.op = false) : Calls Try.prog 12 #[.pointer (some ⟨q, 0, none⟩), .string key, .string val, .bool gone] w fun e w' =>
    e = .returned (.int .i64 17) ∧ DLv col c q S w w' := by
  have hfin := Lib.hid (dlv_stay h hf (Below.refl _ _))
  obtain ⟨Aw, cw, Ac, cc, h⟩ := h
  obtain ⟨k0, k1, k2, k3, k4⟩ := h.cells
  rw [h1] at k2
  clear h
  go_enter Try.func12, Try.ntmps12
  go_wp2
  go_ret
  exact ⟨rfl, hfin.out⟩
set_option maxHeartbeats 2000000 in
theorem dwr_long (w : World) (h : DocAt col c w q S) (hok : S.ok) (hc : c ≠ 0) (hf : Fresh col w) (key val : ByteArray) (gone : Bool) (h1 : S.op = true) (h2 : isLong key val) : Calls Try.prog 12 #[.pointer (some ⟨q, 0, none⟩), .string key, .string val, .bool gone] w fun e w' =>
    e = .returned (.int .i64 6) ∧ DLv col c q S w w' := by
  have hfin := Lib.hid (dlv_stay h hf (Below.refl _ _))
  obtain ⟨Aw, cw, Ac, cc, h⟩ := h
  obtain ⟨k0, k1, k2, k3, k4⟩ := h.cells
  rw [h1] at k2
  clear h
  have h3 : (16 : Int) < (key.size : Int) ∨ (¬ (16 : Int) < (key.size : Int) ∧ (64 : Int) < (val.size : Int)) := by unfold isLong at h2; omega
  clear h2
  rcases h3 with h3 | ⟨h3, h4⟩
  all_goals
    go_enter Try.func12, Try.ntmps12
    go_wp2
    go_ret
    exact ⟨rfl, hfin.out⟩
set_option maxHeartbeats 2000000 in
theorem dwr_arg (w : World) (h : DocAt col c w q S) (hok : S.ok) (hc : c ≠ 0) (hf : Fresh col w) (key val : ByteArray) (gone : Bool) (h1 : S.op = true) (h2 : ¬ isLong key val) (h3 : isArg key val gone = true) : Calls Try.prog 12 #[.pointer (some ⟨q, 0, none⟩), .string key, .string val, .bool gone] w fun e w' =>
    e = .returned (.int .i64 1) ∧ DLv col c q S w w' := by
  have hfin := Lib.hid (dlv_stay h hf (Below.refl _ _))
  obtain ⟨Aw, cw, Ac, cc, h⟩ := h
  obtain ⟨k0, k1, k2, k3, k4⟩ := h.cells
  rw [h1] at k2
  clear h
  have h4 : ¬ (16 : Int) < (key.size : Int) := by unfold isLong at h2; omega
  have h5 : ¬ (64 : Int) < (val.size : Int) := by unfold isLong at h2; omega
  have h6 : seq key emp = true ∨ (seq key emp = false ∧ gone = true ∧ seq val emp = false) := by
    unfold isArg at h3
    cases h7 : seq key emp <;> cases gone <;> cases h8 : seq val emp <;> simp [h7, h8] at h3 ⊢
  clear h2 h3
  rcases h6 with h6 | ⟨h6, rfl, h7⟩
  all_goals
    go_enter Try.func12, Try.ntmps12
    go_wp2
    go_ret
    exact ⟨rfl, hfin.out⟩
set_option maxHeartbeats 2000000 in
theorem dwr_full (w : World) (h : DocAt col c w q S) (hok : S.ok) (hc : c ≠ 0) (hf : Fresh col w) (key val : ByteArray) (gone : Bool) (h1 : S.op = true) (h2 : ¬ isLong key val) (h3 : isArg key val gone = false) (h8 : is S.ws key = false) (h9 : S.ws.length = 8) : Calls Try.prog 12 #[.pointer (some ⟨q, 0, none⟩), .string key, .string val, .bool gone] w fun e w' =>
    e = .returned (.int .i64 9) ∧ DLv col c q S w w' := by
  have h4 : ¬ (16 : Int) < (key.size : Int) := by unfold isLong at h2; omega
  have h5 : ¬ (64 : Int) < (val.size : Int) := by unfold isLong at h2; omega
  have h6 : seq key emp = false ∧ (gone = false ∨ (gone = true ∧ seq val emp = true)) := by
    unfold isArg at h3
    cases h7 : seq key emp <;> cases gone <;> cases h8 : seq val emp <;> simp [h7, h8] at h3 ⊢
  obtain ⟨h6, h7⟩ := h6
  have hfin := Lib.hid (fun w' hB => dlv_stay (w1 := w') h hf hB)
  obtain ⟨Aw, cw, Ac, cc, h⟩ := h
  have hcl := Lib.hid (fun w' (hB : Below w.heap.size w w') => (h.below hB).cells)
  obtain ⟨k0, k1, k2, k3, k4⟩ := h.cells
  rw [h1] at k2
  have hh := Lib.hid (has_any Aw cw S.ws key w h.wd.hv)
  obtain ⟨u, hu⟩ : ∃ u, (fnd S.ws key).getD default = u := ⟨_, rfl⟩
  rw [hu] at hh
  have hal := Lib.hid (fun (w2 : World) o (hB : Below w.heap.size w w2) => trans0 hB (al0 w2 o))
  rw [h8] at hh
  have h9I : ((S.ws.length : Nat) : Int) = 8 := by omega
  rw [h9] at hcl k3 hh
  clear h hok hu h9 h9I
  clear h2 h3
  rcases h7 with rfl | ⟨rfl, h7⟩
  all_goals
    go_enter Try.func12, Try.ntmps12
    go_wp2_with (fail)
    with_reducible refine (hh.out).mono ?_
    rintro e w2 ⟨rfl, hB2⟩
    have hB4 := hal.out w2 (.cells #[.string u.key, .string u.val, .bool u.gone, .int .u64 u.ts, .int .i64 u.dc, .int .i64 u.tx] 41) hB2
    obtain ⟨W4, hW4⟩ : ∃ W4, w2.alloc (.cells #[.string u.key, .string u.val, .bool u.gone, .int .u64 u.ts, .int .i64 u.dc, .int .i64 u.tx] 41) = W4 := ⟨_, rfl⟩
    rw [hW4] at hB4
    replace hW4 := Lib.hid hW4
    clear k0 k1 k2 k3 k4 hB2 hh hal h4 h5 h6
    obtain ⟨k0, k1, k2, k3, k4⟩ := hcl.out _ hB4
    go_upto_region 8 with (fail)
    rw [hW4.out]
    clear hW4
    generalize w2.heap.size = m2 at *
    have hfi := Lib.hid (hfin.out _ hB4)
    clear hfin hB4 hcl
    go_wp2
    go_ret
    exact ⟨rfl, hfi.out⟩
set_option maxHeartbeats 2000000 in
theorem dwr_put (w : World) (h : DocAt col c w q S) (hok : S.ok) (hc : c ≠ 0) (hf : Fresh col w) (key val : ByteArray) (gone : Bool) (h1 : S.op = true) (h2 : ¬ isLong key val) (h3 : isArg key val gone = false) (h8 : is S.ws key = true ∨ (is S.ws key = false ∧ S.ws.length < 8)) : Calls Try.prog 12 #[.pointer (some ⟨q, 0, none⟩), .string key, .string val, .bool gone] w fun e w' =>
    e = .returned (.int .i64 0) ∧ DLv col c q { S with ws := pK S.ws (wv key val gone) } w w' := by
  have h4 : ¬ (16 : Int) < (key.size : Int) := by unfold isLong at h2; omega
  have h5 : ¬ (64 : Int) < (val.size : Int) := by unfold isLong at h2; omega
  have h6 : seq key emp = false ∧ (gone = false ∨ (gone = true ∧ seq val emp = true)) := by
    unfold isArg at h3
    cases h7 : seq key emp <;> cases gone <;> cases h8 : seq val emp <;> simp [h7, h8] at h3 ⊢
  obtain ⟨h6, h7⟩ := h6
  obtain ⟨Aw, cw, Ac, cc, h⟩ := h
  have hcl := Lib.hid (fun w' (hB : Below w.heap.size w w') => (h.below hB).cells)
  obtain ⟨k0, k1, k2, k3, k4⟩ := h.cells
  rw [h1] at k2
  have hh := Lib.hid (has_any Aw cw S.ws key w h.wd.hv)
  obtain ⟨u, hu⟩ : ∃ u, (fnd S.ws key).getD default = u := ⟨_, rfl⟩
  rw [hu] at hh
  have hal := Lib.hid (fun (w2 : World) o (hB : Below w.heap.size w w2) => trans0 hB (al0 w2 o))
  have hl8 := hok.le
  have hpu := Lib.hid (fun w' (hB : Below w.heap.size w w') => put_any Aw cw S.ws (wv key val gone) w' ((h.below hB).wd.hv) (by omega))
  have hfz := Lib.hid (fun w' (hB : Below w.heap.size w w') => (h.below hB).fz 3)
  have hend := Lib.hid (fun w4 w5 A9 c9 (hB : Below w.heap.size w w4) (hG : GV w5 w4.heap.size A9 c9 (pK S.ws (wv key val gone))) (hB5 : Below w4.heap.size w4 w5) => (by
    have hB2 := trans0 hB hB5
    have hln := pK_len S.ws (wv key val gone)
    obtain ⟨g1, d1⟩ := (h.below hB2).setW hc (DV.of_gv hG (by omega) (hf.up hB.size))
    exact ⟨col, (Cn.below hf hB2).trans ⟨Ext.refl _ _, (hf.up hB2.size).up g1.size, g1⟩, A9, c9, Ac, cc, d1⟩ : DLv col c q { S with ws := pK S.ws (wv key val gone) } w (w5.setCell ⟨q, 3, none⟩ (.slice A9 (pK S.ws (wv key val gone)).length c9))))
  have hks := Lib.hid (fun w4 w5 (hB : Below w.heap.size w w4) (hB5 : Below w4.heap.size w4 w5) => And.intro (hcl.out _ (trans0 hB hB5)).2.2.2.1 (hfz.out _ (trans0 hB hB5)))
  obtain ⟨R, hR⟩ : ∃ R, pK S.ws (wv key val gone) = R := ⟨_, rfl⟩
  rw [hR] at hend hpu ⊢
  have h9 : (is S.ws key = true) ∨ (is S.ws key = false ∧ ¬ (S.ws.length : Int) = 8) := h8.imp id fun h => ⟨h.1, by omega⟩
  clear h hok hu hR hfz h8 hl8
  rcases h9 with h9 | ⟨h9, h10⟩
  all_goals
    rw [h9] at hh
    clear h9
    clear h2 h3
    rcases h7 with rfl | ⟨rfl, h7⟩
    all_goals
      go_enter Try.func12, Try.ntmps12
      go_wp2_with (fail)
      with_reducible refine (hh.out).mono ?_
      rintro e w2 ⟨rfl, hB2⟩
      have hB4 := hal.out w2 (.cells #[.string u.key, .string u.val, .bool u.gone, .int .u64 u.ts, .int .i64 u.dc, .int .i64 u.tx] 41) hB2
      obtain ⟨W4, hW4⟩ : ∃ W4, w2.alloc (.cells #[.string u.key, .string u.val, .bool u.gone, .int .u64 u.ts, .int .i64 u.dc, .int .i64 u.tx] 41) = W4 := ⟨_, rfl⟩
      rw [hW4] at hB4
      replace hW4 := Lib.hid hW4
      clear k0 k1 k2 k3 k4 hB2 hh hal h4 h5 h6
      obtain ⟨k0, k1, k2, k3, k4⟩ := hcl.out _ hB4
      go_upto_region 8 with (fail)
      rw [hW4.out]
      clear hW4
      generalize w2.heap.size = m2 at *
      unfold wv at hpu
      have hpu4 := Lib.hid (hpu.out _ hB4)
      go_wp2_with (fail)
      with_reducible refine (hpu4.out).mono ?_
      rintro e w5 ⟨A9, c9, rfl, hG5, hB5⟩
      obtain ⟨kk, fk⟩ := hks.out _ _ hB4 hB5
      have hfi := Lib.hid (hend.out _ _ _ _ hB4 hG5 hB5)
      clear hB4 hB5 hG5 hend hpu hpu4 hcl hks k0 k1 k2 k3 k4
      go_wp2
      go_ret
      exact ⟨rfl, hfi.out⟩
theorem dwrite_at (w : World) (h : DocAt col c w q S) (hok : S.ok) (hc : c ≠ 0) (hf : Fresh col w) (key val : ByteArray) (gone : Bool) : Calls Try.prog 12 #[.pointer (some ⟨q, 0, none⟩), .string key, .string val, .bool gone] w fun e w' =>
    e = .returned (.int .i64 (wrE S key val gone)) ∧ DLv col c q (wrS S key val gone) w w' := by
  have hwz : wrE S key val gone = 0 → wrS S key val gone = { S with ws := pK S.ws (wv key val gone) } := fun h => if_pos h
  cases h1 : S.op with
  | false =>
    have hE : wrE S key val gone = 17 := if_pos h1
    rw [wrS_not (by rw [hE]; decide), hE]
    exact dwr_shut w h hok hc hf key val gone h1
  | true =>
    have hn1 : ¬ S.op = false := by rw [h1]; simp
    by_cases h2 : isLong key val
    · have hE : wrE S key val gone = 6 := by unfold wrE; rw [if_neg hn1, if_pos h2]
      rw [wrS_not (by rw [hE]; decide), hE]
      exact dwr_long w h hok hc hf key val gone h1 h2
    · cases h3 : isArg key val gone with
      | true =>
        have hE : wrE S key val gone = 1 := by unfold wrE; rw [if_neg hn1, if_neg h2, h3]; rfl
        rw [wrS_not (by rw [hE]; decide), hE]
        exact dwr_arg w h hok hc hf key val gone h1 h2 h3
      | false =>
        cases h8 : is S.ws key with
        | true =>
          have hE : wrE S key val gone = 0 := by unfold wrE; rw [if_neg hn1, if_neg h2, if_neg (by rw [h3]; simp), if_neg (by rw [h8]; simp)]
          rw [hwz hE, hE]
          exact dwr_put w h hok hc hf key val gone h1 h2 h3 (.inl h8)
        | false =>
          have hle := hok.le
          by_cases h9 : 8 ≤ S.ws.length
          · have hE : wrE S key val gone = 9 := by unfold wrE; rw [if_neg hn1, if_neg h2, if_neg (by rw [h3]; simp), if_pos ⟨h8, h9⟩]
            rw [wrS_not (by rw [hE]; decide), hE]
            exact dwr_full w h hok hc hf key val gone h1 h2 h3 h8 (by omega)
          · have hE : wrE S key val gone = 0 := by unfold wrE; rw [if_neg hn1, if_neg h2, if_neg (by rw [h3]; simp), if_neg (fun h => h9 h.2)]
            rw [hwz hE, hE]
            exact dwr_put w h hok hc hf key val gone h1 h2 h3 (.inr ⟨h8, by omega⟩)
end
end Go.Proofs.Ytnicomhodnfggaa.seU
