/- The contracts of Plain, in the program and in the document's own answer, of New and told. -/
import Derived.Test.YtmhflemmkoiffaaStVA
set_option linter.unusedVariables false
set_option linter.unusedSimpArgs false
namespace Go.Proofs.Ytmhflemmkoiffaa.stVB
open Go.ChangeShapes Go.WideShapes Go.ChangeAt Go.RowKit Go.Deep
open stVA

/-- a vector whose first j times have been made plain -/
def plS (v : V) (j : Nat) : V := ⟨v.e, v.h0, v.h1, v.h2, v.h3, if 0 < j then tm v.h0 v.t0 else v.t0, if 1 < j then tm v.h1 v.t1 else v.t1, if 2 < j then tm v.h2 v.t2 else v.t2, if 3 < j then tm v.h3 v.t3 else v.t3⟩
theorem plS_0 (v : V) : plS v 0 = v := rfl
theorem plS_4 (v : V) : plS v 4 = plain v := rfl
/-- what stands at i of an array of members -/
def hb (v : V) (j : Nat) : Bool := match j with | 0 => v.h0 | 1 => v.h1 | 2 => v.h2 | _ => v.h3
def tt (v : V) (j : Nat) : Int := match j with | 0 => v.t0 | 1 => v.t1 | 2 => v.t2 | _ => v.t3
theorem four {j : Nat} (h : j < 4) : j = 0 ∨ j = 1 ∨ j = 2 ∨ j = 3 := by omega
theorem ix (v : V) {j : Nat} (h : j < 4) (w : World) : (Instr.index 22 (.agg #[.bool v.h0, .bool v.h1, .bool v.h2, .bool v.h3]) (.int .i64 (j : Int))).run Try.prog w = .ok (.bool (hb v j)) w := by
  rcases four h with rfl | rfl | rfl | rfl <;> kernel_rfl
section
variable {T : TypeId} {b B : Nat} {v u : V} {w w0 w1 : World}
theorem R9.hcell (h : R9 T b v w) {j : Nat} (hj : j < 4) : w.cell? ⟨b, 1 + j, none⟩ = some (.bool (hb v j)) := by
  rcases four hj with rfl | rfl | rfl | rfl
  · exact h.cell (i := 1) (by omega)
  · exact h.cell (i := 2) (by omega)
  · exact h.cell (i := 3) (by omega)
  · exact h.cell (i := 4) (by omega)
theorem R9.tcell (h : R9 T b v w) {j : Nat} (hj : j < 4) : w.cell? ⟨b, 5 + j, none⟩ = some (.int .u64 (tt v j)) := by
  rcases four hj with rfl | rfl | rfl | rfl
  · exact h.cell (i := 5) (by omega)
  · exact h.cell (i := 6) (by omega)
  · exact h.cell (i := 7) (by omega)
  · exact h.cell (i := 8) (by omega)
/-- a time put at j -/
def putT (v : V) (j : Nat) (x : Int) : V := ⟨v.e, v.h0, v.h1, v.h2, v.h3, if j = 0 then x else v.t0, if j = 1 then x else v.t1, if j = 2 then x else v.t2, if j = 3 then x else v.t3⟩
/-- a member put at j -/
def putH (v : V) (j : Nat) (x : Bool) : V := ⟨v.e, if j = 0 then x else v.h0, if j = 1 then x else v.h1, if j = 2 then x else v.h2, if j = 3 then x else v.h3, v.t0, v.t1, v.t2, v.t3⟩
theorem R9.putT (h : R9 T b u w) {j : Nat} (hj : j < 4) (x : Int) : R9 T b (putT u j x) (w.setCell ⟨b, 5 + j, none⟩ (.int .u64 x)) := by
  refine (h.set (5 + j) _).congr fun i hi => ?_
  rcases four hj with rfl | rfl | rfl | rfl <;> rcases nine hi with rfl | rfl | rfl | rfl | rfl | rfl | rfl | rfl | rfl <;> rfl
theorem R9.putH (h : R9 T b u w) {j : Nat} (hj : j < 4) (x : Bool) : R9 T b (putH u j x) (w.setCell ⟨b, 1 + j, none⟩ (.bool x)) := by
  refine (h.set (1 + j) _).congr fun i hi => ?_
  rcases four hj with rfl | rfl | rfl | rfl <;> rcases nine hi with rfl | rfl | rfl | rfl | rfl | rfl | rfl | rfl | rfl <;> rfl
end
theorem plS_no {v : V} {j : Nat} (hj : j < 4) (h : hb v j = false) : putT (plS v j) j 0 = plS v (j + 1) := by
  rcases four hj with rfl | rfl | rfl | rfl <;> simp only [hb] at h <;> simp [putT, plS, tm, h]
theorem plS_yes {v : V} {j : Nat} (hj : j < 4) (h : hb v j = true) : plS v j = plS v (j + 1) := by
  rcases four hj with rfl | rfl | rfl | rfl <;> simp only [hb] at h <;> simp [plS, tm, h]


abbrev put9 (w : World) (b : Nat) (v : V) : World := ((((((((w.setCell ⟨b, 0, none⟩ (.int .i64 v.e)).setCell ⟨b, 1, none⟩ (.bool v.h0)).setCell ⟨b, 2, none⟩ (.bool v.h1)).setCell ⟨b, 3, none⟩ (.bool v.h2)).setCell ⟨b, 4, none⟩ (.bool v.h3)).setCell ⟨b, 5, none⟩ (.int .u64 v.t0)).setCell ⟨b, 6, none⟩ (.int .u64 v.t1)).setCell ⟨b, 7, none⟩ (.int .u64 v.t2)).setCell ⟨b, 8, none⟩ (.int .u64 v.t3)
section
variable {T : TypeId} {b B : Nat} {u : V} {w w0 : World}
theorem R9.put9 (h : R9 T b u w) (v : V) : R9 T b v (put9 w b v) :=
  (((((((((h.set 0 _).set 1 _).set 2 _).set 3 _).set 4 _).set 5 _).set 6 _).set 7 _).set 8 _).congr fun i hi => by rcases nine hi with rfl | rfl | rfl | rfl | rfl | rfl | rfl | rfl | rfl <;> rfl
theorem put9_below (h : Below B w0 w) (hb : B ≤ b) (v : V) : Below B w0 (put9 w b v) :=
  ((((((((h.setCell (p := ⟨b, 0, none⟩) hb _).setCell (p := ⟨b, 1, none⟩) hb _).setCell (p := ⟨b, 2, none⟩) hb _).setCell (p := ⟨b, 3, none⟩) hb _).setCell (p := ⟨b, 4, none⟩) hb _).setCell (p := ⟨b, 5, none⟩) hb _).setCell (p := ⟨b, 6, none⟩) hb _).setCell (p := ⟨b, 7, none⟩) hb _).setCell (p := ⟨b, 8, none⟩) hb _
end
/-- nothing of it is frozen -/
abbrev F9 (b : Nat) (w : World) : Prop := w.frozen? ⟨b, 0, none⟩ = false ∧ w.frozen? ⟨b, 1, none⟩ = false ∧ w.frozen? ⟨b, 2, none⟩ = false ∧ w.frozen? ⟨b, 3, none⟩ = false ∧ w.frozen? ⟨b, 4, none⟩ = false ∧ w.frozen? ⟨b, 5, none⟩ = false ∧ w.frozen? ⟨b, 6, none⟩ = false ∧ w.frozen? ⟨b, 7, none⟩ = false ∧ w.frozen? ⟨b, 8, none⟩ = false
theorem R9.f9 {T : TypeId} {b : Nat} {v : V} {w : World} (h : R9 T b v w) : F9 b w := ⟨h.frozen 0, h.frozen 1, h.frozen 2, h.frozen 3, h.frozen 4, h.frozen 5, h.frozen 6, h.frozen 7, h.frozen 8⟩
abbrev z9 : V := ⟨0, false, false, false, false, 0, 0, 0, 0⟩
set_option maxRecDepth 100000 in
theorem plain_any (v : V) (w : World) : Calls Try.prog 27 #[vV v] w fun e w' => e = .returned (vV (plain v)) ∧ Below w.heap.size w w' := by
  have hi := Lib.hid (fun (j : Nat) (h : j < 4) (wx : World) => ix v h wx)
  have hR := Lib.hid ((R9.new w v 42).alloc (.cells #[.int .i64 0, .bool false, .bool false, .bool false, .bool false, .int .u64 0, .int .u64 0, .int .u64 0, .int .u64 0] 42))
  have hZ := Lib.hid (R9.new (w.alloc (.cells #[.int .i64 v.e, .bool v.h0, .bool v.h1, .bool v.h2, .bool v.h3, .int .u64 v.t0, .int .u64 v.t1, .int .u64 v.t2, .int .u64 v.t3] 42)) z9 42)
  have hB := Lib.hid (bal (al0 w (.cells #[.int .i64 v.e, .bool v.h0, .bool v.h1, .bool v.h2, .bool v.h3, .int .u64 v.t0, .int .u64 v.t1, .int .u64 v.t2, .int .u64 v.t3] 42)) (.cells #[.int .i64 0, .bool false, .bool false, .bool false, .bool false, .int .u64 0, .int .u64 0, .int .u64 0, .int .u64 0] 42))
  go_enter Try.func27, Try.ntmps27
  go_wp2
  go_loopw [7] (fun i wr => ∃ j : Nat, j ≤ 4 ∧ i = .int .i64 j ∧ Hid (R9 42 w.heap.size (plS v j) wr) ∧ Hid (R9 42 (w.heap.size + 1) z9 wr) ∧ Hid (Below w.heap.size w wr)) (fun i _ => 4 - (intOf i).toNat)
  case atStart => exact ⟨0, by omega, rfl, hR, Lib.hid (by have h := hZ.out; simp at h; exact h), hB⟩
  case round =>
    clear hR hZ hB
    obtain ⟨j, hj, rfl, hR, hZ, hB⟩ := hrel
    by_cases hlt : j < 4
    · have hx := hi.out j hlt
      have hf : wr.frozen? ⟨w.heap.size, 5 + j, none⟩ = false := hR.out.fz _
      have hc : wr.cell? ⟨w.heap.size, 5 + j, none⟩ = some (.int .u64 (tt (plS v j) j)) := R9.tcell hR.out hlt
      generalize hh : hb v j = h at *
      cases h
      · have e := Lib.hid (plS_no hlt hh)
        have hB' := Lib.hid (hB.out.setCell (p := ⟨w.heap.size, 5 + j, none⟩) (Nat.le_refl _) (.int .u64 0))
        have hR' := Lib.hid (R9.putT hR.out hlt 0)
        have hZ' := Lib.hid (hZ.out.setOther (a := ⟨w.heap.size, 5 + j, none⟩) (by simp) (.int .u64 0))
        clear hh hB hZ
        go_wp2
        go_roundw
        case rel => exact ⟨j + 1, by omega, by go_num, Lib.hid (by rw [← e.out]; exact hR'.out), hZ', hB'⟩
        case measure => simp [intOf]; omega
      · have e := Lib.hid (plS_yes hlt hh)
        clear hh
        go_wp2
        go_roundw
        case rel => exact ⟨j + 1, by omega, by go_num, Lib.hid (by rw [← e.out]; exact hR.out), hZ, hB⟩
        case measure => simp [intOf]; omega
    · obtain rfl : j = 4 := by omega
      obtain ⟨c0, c1, c2, c3, c4, c5, c6, c7, c8⟩ := hR.out.v9
      obtain ⟨d0, d1, d2, d3, d4, d5, d6, d7, d8⟩ := hZ.out.v9
      obtain ⟨f0, f1, f2, f3, f4, f5, f6, f7, f8⟩ := R9.f9 hZ.out
      rw [plS_4] at c0 c1 c2 c3 c4 c5 c6 c7 c8
      clear hi
      go_wp2
      exact bodyPost_ret (v := vV (plain v)) (by simp [results, Try.results27, go_sem, d0, d1, d2, d3, d4, d5, d6, d7, d8]) rfl ⟨rfl, put9_below hB.out (by omega) (plain v)⟩
end Go.Proofs.Ytmhflemmkoiffaa.stVB
