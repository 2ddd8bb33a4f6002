/- StoreNone. -/
import Derived.Test.YtlojmojmijklmaaStoW
import Derived.Test.YtlojmojmijklmaaStoD
set_option linter.unusedVariables false
set_option maxRecDepth 100000
namespace Go.Proofs.Ytlojmojmijklmaa.stoN
open Go.ChangeShapes Go.WideShapes Go.ChangeAt Go.RowKit Go.Deep
open opV chnM gen chnA chnB chnR chnE chnF chnT stoM stoA stoL stoB stoC stoP stoPr stoG stoW stoJ stoD

theorem eql_zero (w : World) : (binOp .eql 35 (.agg #[.string { data := #[] }, .string { data := #[] }, .bool false, .int .u64 0, .int .i64 0, .int .i64 0]) (.agg #[.string { data := #[] }, .string { data := #[] }, .bool false, .int .u64 0, .int .i64 0, .int .i64 0])).run Try.prog w = .ok (.bool true) w := by
  have := eql_ver default default w
  rw [decide_eq_true rfl] at this
  exact this
set_option maxHeartbeats 4000000 in
theorem none_any (v : Ver) (k : ByteArray) (t : Int) (w : World) :
    Calls Try.prog 8 #[.agg #[.string v.key, .string v.val, .bool v.gone, .int .u64 v.ts, .int .i64 v.dc, .int .i64 v.tx], .string k, .int .u64 t] w fun e w' => e = .returned (.bool true) ∧ Below w.heap.size w w' := by
  have hg : Hid (Calls Try.prog 17 #[.pointer none, .string k, .int .u64 t] (w.alloc (.cells #[.string v.key, .string v.val, .bool v.gone, .int .u64 v.ts, .int .i64 v.dc, .int .i64 v.tx] 35)) fun e w' => e = .returned (.tuple #[.agg #[.string { data := #[] }, .string { data := #[] }, .bool false, .int .u64 0, .int .i64 0, .int .i64 0], .bool false, .int .i64 1]) ∧ Below (w.alloc (.cells #[.string v.key, .string v.val, .bool v.gone, .int .u64 v.ts, .int .i64 v.dc, .int .i64 v.tx] 35)).heap.size (w.alloc (.cells #[.string v.key, .string v.val, .bool v.gone, .int .u64 v.ts, .int .i64 v.dc, .int .i64 v.tx] 35)) w') := Lib.hid (get_nil k t _)
  have hB1 := Lib.hid (al0 w (.cells #[.string v.key, .string v.val, .bool v.gone, .int .u64 v.ts, .int .i64 v.dc, .int .i64 v.tx] 35))
  have hv1 := Lib.hid (V6.new w v 35)
  have hq := eql_zero
  go_enter Try.func8, Try.ntmps8
  go_wp2_with (fail)
  with_reducible refine hg.out.mono ?_
  rintro e w2 ⟨rfl, hB2⟩
  have hv2 := Lib.hid (hv1.out.below hB2)
  have hBw2 := Lib.hid (trans0 hB1.out hB2)
  obtain ⟨w3, hw3⟩ : ∃ w3, w2.alloc (.cells #[.string { data := #[] }, .string { data := #[] }, .bool false, .int .u64 0, .int .i64 0, .int .i64 0] 35) = w3 := ⟨_, rfl⟩
  have hx3 : V6 w2.heap.size 0 default w3 := by rw [← hw3]; exact V6.new w2 default _
  have hv3 : V6 w.heap.size 0 v w3 := by rw [← hw3]; exact hv2.out.below (al0 _ _)
  have hB3 : Below w.heap.size w w3 := by rw [← hw3]; exact trans0 hBw2.out (al0 _ _)
  replace hw3 := Lib.hid hw3
  replace hx3 := Lib.hid hx3
  replace hv3 := Lib.hid hv3
  replace hB3 := Lib.hid hB3
  clear hv1 hv2 hB1 hB2 hBw2 hg
  go_wp2_with (fail)
  rw [hw3.out]
  with_reducible refine (awake_any w3).mono ?_
  rintro e w4 ⟨rfl, hB4⟩
  have hx4 := Lib.hid (hx3.out.below hB4)
  have hv4 := Lib.hid (hv3.out.below hB4)
  have hBw4 := Lib.hid (trans0 hB3.out hB4)
  clear hx3 hv3 hB3 hB4 hw3
  obtain ⟨a0, a1, a2, a3, a4, a5⟩ := hv4.out
  go_wp2_with (fail)
  with_reducible refine (put_nil v w4).mono ?_
  rintro e w5 ⟨rfl, hB5⟩
  have hx5 := Lib.hid (hx4.out.below hB5)
  have hv5 := Lib.hid (hv4.out.below hB5)
  have hBw5 := Lib.hid (trans0 hBw4.out hB5)
  clear hx4 hv4 hBw4 hB5 a0 a1 a2 a3 a4 a5
  obtain ⟨a0, a1, a2, a3, a4, a5⟩ := hv5.out
  have hld : Hid (Calls Try.prog 15 #[.pointer none, .slice (some ⟨w5.heap.size, 0, none⟩) 1 1] (w5.alloc (.cells #[.string v.key, .string v.val, .bool v.gone, .int .u64 v.ts, .int .i64 v.dc, .int .i64 v.tx] 35)) fun e w' => e = .returned (.int .i64 0) ∧ Below (w5.alloc (.cells #[.string v.key, .string v.val, .bool v.gone, .int .u64 v.ts, .int .i64 v.dc, .int .i64 v.tx] 35)).heap.size (w5.alloc (.cells #[.string v.key, .string v.val, .bool v.gone, .int .u64 v.ts, .int .i64 v.dc, .int .i64 v.tx] 35)) w') := Lib.hid (load_nil (some ⟨w5.heap.size, 0, none⟩) 1 [v] (w5.alloc (.cells #[.string v.key, .string v.val, .bool v.gone, .int .u64 v.ts, .int .i64 v.dc, .int .i64 v.tx] 35)) (HV.one w5 v _))
  have hal := Lib.hid (al0 w5 (.cells #[.string v.key, .string v.val, .bool v.gone, .int .u64 v.ts, .int .i64 v.dc, .int .i64 v.tx] 35))
  go_wp2_with (fail)
  with_reducible refine hld.out.mono ?_
  rintro e w6 ⟨rfl, hB6⟩
  have hx6 := (hx5.out.below (trans0 hal.out hB6))
  have hBw6 := Lib.hid (trans0 hBw5.out (trans0 hal.out hB6))
  clear hx5 hv5 hBw5 hB6 hal hld a0 a1 a2 a3 a4 a5
  have hx6' : V6 w2.heap.size 0 ⟨{ data := #[] }, { data := #[] }, false, 0, 0, 0⟩ w6 := hx6
  obtain ⟨a0, a1, a2, a3, a4, a5⟩ := hx6'
  clear hx6
  go_wp2_with (fail)
  with_reducible refine (all_nil _ _ w6).mono ?_
  rintro e w7 ⟨A7, c7, rfl, hG7, hB7⟩
  have hBw7 := Lib.hid (trans0 hBw6.out hB7)
  clear hBw6 hB7 hG7 a0 a1 a2 a3 a4 a5 hq
  go_wp2_with (fail)
  with_reducible refine (drop_nil _ _ w7).mono ?_
  rintro e w8 ⟨rfl, hB8⟩
  have hBw8 := Lib.hid (trans0 hBw7.out hB8)
  clear hBw7 hB8
  go_wp2_with (first
    | (go_at_call 21; (with_reducible refine (trim_nil _ _).mono ?_); rintro e w' ⟨rfl, rfl⟩)
    | (go_at_call 26; (with_reducible refine (floor_nil _).mono ?_); rintro e w' ⟨rfl, rfl⟩)
    | (go_at_call 27; (with_reducible refine (len_nil _).mono ?_); rintro e w' ⟨rfl, rfl⟩))
  go_ret
  exact ⟨rfl, hBw8.out⟩
end Go.Proofs.Ytlojmojmijklmaa.stoN
