/- VecMerges. -/
import Derived.Test.YtoeafdpknjeojaaVecP
import Derived.Test.YtoeafdpknjeojaaVecO
set_option linter.unusedVariables false
set_option linter.unusedSimpArgs false
namespace Go.Proofs.Ytoeafdpknjeojaa.vecQ
open Go.ChangeShapes Go.WideShapes Go.ChangeAt Go.RowKit Go.Deep
open vecA vecB vecC vecD vecE vecF vecG vecH vecI vecJ vecK vecP

/-- what is held of three boxes -/
abbrev SM (w0 : World) (b : Nat) (v u m : V) (w : World) : Prop :=
  (V9 w0.heap.size v w ∧ V9 (w0.heap.size + 1) u w ∧ V9 b m w) ∧ (R9 26 w0.heap.size v w ∧ R9 26 (w0.heap.size + 1) u w ∧ R9 26 b m w) ∧ Below w0.heap.size w0 w
theorem SM.mk {w0 w : World} {b : Nat} {v u m : V} (h : R9 26 w0.heap.size v w ∧ R9 26 (w0.heap.size + 1) u w ∧ R9 26 b m w) (hB : Below w0.heap.size w0 w) : SM w0 b v u m w := ⟨⟨R9.v9 h.1, R9.v9 h.2.1, R9.v9 h.2.2⟩, h, hB⟩
theorem SM.fo {w0 w w1 : World} {b : Nat} {v u m : V} (hB : Below w.heap.size w w1) (h : SM w0 b v u m w) : SM w0 b v u m w1 := SM.mk ⟨R9.below h.2.1.1 hB, R9.below h.2.1.2.1 hB, R9.below h.2.1.2.2 hB⟩ (trans0 h.2.2 hB)
set_option maxRecDepth 100000 in
set_option maxHeartbeats 4000000 in
theorem merges_any (v u : V) (w : World) : Calls Try.prog 4 #[vV v, vV u] w fun r w' => r = .returned (.bool true) ∧ Below w.heap.size w w' := by
  obtain ⟨m, hm⟩ : ∃ m, mgV v u = m := ⟨_, rfl⟩
  obtain ⟨q, hq⟩ : ∃ q, plain v = q := ⟨_, rfl⟩
  obtain ⟨y, hy⟩ : ∃ y, lq v u 4 = y := ⟨_, rfl⟩
  have kM := Lib.hid (fun wx => hm ▸ merge_any v u wx)
  have kS := Lib.hid (fun wx => hm ▸ mg_comm v u ▸ merge_any u v wx)
  have kD := Lib.hid (fun wx => hq ▸ mg_self v ▸ merge_any v v wx)
  have kR := Lib.hid (fun wx => hm ▸ rmerge_any v u wx)
  have kP := Lib.hid (fun wx => hq ▸ plain_any v wx)
  have kL := Lib.hid (fun wx => hy ▸ leq_any v u wx)
  have kQ := Lib.hid (fun wx => hy ▸ rleq_any v u wx)
  have e1 : ∀ wx, (binOp .eql 30 (vV m) (vV m)).run Try.prog wx = .ok (.bool true) wx := fun wx => by rw [eql_r]; simp
  have e2 : ∀ wx, (binOp .eql 26 (vV m) (vV m)).run Try.prog wx = .ok (.bool true) wx := fun wx => by rw [eql_p]; simp
  have e3 : ∀ wx, (binOp .eql 26 (vV q) (vV q)).run Try.prog wx = .ok (.bool true) wx := fun wx => by rw [eql_p]; simp
  clear hm hq hy
  have hR := Lib.hid ((R9.new w v 26).alloc (.cells (aV u) 26))
  have hO := Lib.hid (R9.new (w.alloc (.cells (aV v) 26)) u 26)
  have hB := Lib.hid (bal2 w (.cells (aV v) 26) (.cells (aV u) 26))
  go_enter Try.func4, Try.ntmps4
  go_wp2_with (fail)
  refine (kM.out _).mono ?_
  rintro e w1 ⟨rfl, hB1⟩
  have hR1 := Lib.hid (R9.below hR.out hB1)
  have hO1 : Hid (R9 26 (w.heap.size + 1) u w1) := Lib.hid (by have h := R9.below hO.out hB1; simp at h; exact h)
  have hBx := Lib.hid (trans0 hB.out hB1)
  clear hB1 hR hO hB
  have hS : Hid (SM w w1.heap.size v u m (w1.alloc (.cells #[.int .i64 m.e, .bool m.h0, .bool m.h1, .bool m.h2, .bool m.h3, .int .u64 m.t0, .int .u64 m.t1, .int .u64 m.t2, .int .u64 m.t3] 26)).drew) := Lib.hid (SM.mk ⟨hR1.out.alloc _, hO1.out.alloc _, R9.new w1 m _⟩ (bdr (bal hBx.out _)))
  clear hR1 hO1 hBx
  go_wp2_with (fail)
  obtain ⟨b, hb⟩ : ∃ b, w1.heap.size = b := ⟨_, rfl⟩
  rw [hb] at hS
  rw [hb]
  clear hb
  go_region_held3 (SM w b v u m)
    (first | with_reducible exact hS.out | with_reducible assumption | with_reducible exact SM.fo (by assumption) (by assumption) | (go_must (exact (0 : Nat))) | fail)
    (first
      | (go_at_call 13; ((with_reducible refine (awake_any _).mono ?_); rintro e w' ⟨rfl, hB9⟩))
      | (go_at_call 9; ((with_reducible refine (told_any _ _).mono ?_); rintro e w' ⟨rfl, hB9⟩))
      | (go_at_call 18; ((with_reducible refine (kS.out _).mono ?_); rintro e w' ⟨rfl, hB9⟩))
      | (go_at_call 18; ((with_reducible refine (kD.out _).mono ?_); rintro e w' ⟨rfl, hB9⟩))
      | (go_at_call 19; ((with_reducible refine (kR.out _).mono ?_); rintro e w' ⟨rfl, hB9⟩))
      | (go_at_call 14; ((with_reducible refine (kP.out _).mono ?_); rintro e w' ⟨rfl, hB9⟩))
      | (go_at_call 20; ((with_reducible refine (kL.out _).mono ?_); rintro e w' ⟨rfl, hB9⟩))
      | (go_at_call 21; ((with_reducible refine (kQ.out _).mono ?_); rintro e w' ⟨rfl, hB9⟩))
      | fail)
  rename_i hH
  have hE := Lib.hid hH.2.2
  clear hH hB9
  go_wp2
  go_ret
  exact ⟨rfl, hE.out⟩
end Go.Proofs.Ytoeafdpknjeojaa.vecQ
