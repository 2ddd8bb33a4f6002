/- The contracts of Raise and of Least, in the program and in the document's own answer. -/
import Derived.Test.YtmhflemmkoiffaaStVC
set_option linter.unusedVariables false
set_option linter.unusedSimpArgs false
namespace Go.Proofs.Ytmhflemmkoiffaa.stVD
open Go.ChangeShapes Go.WideShapes Go.ChangeAt Go.RowKit Go.Deep
open stVA stVB stVC

def mx (a b : Int) : Int := if a < b then b else a
def rsV (v : V) (dc t : Int) : V := if isM v dc = true then putT (plain v) dc.toNat (mx (tt (plain v) dc.toNat) t) else plain v
theorem isM_plain (v : V) (dc : Int) : isM (plain v) dc = isM v dc := rfl
theorem isM_at {v : V} {dc : Int} (h : isM v dc = true) : ∃ j : Nat, dc = j ∧ j < 4 ∧ hb v j = true := by
  unfold isM at h
  split at h
  · rename_i h2; exact ⟨dc.toNat, by omega, by omega, h⟩
  · cases h
set_option maxRecDepth 100000 in
theorem raise_any (v : V) (dc t : Int) (w : World) : Calls Try.prog 24 #[vV v, .int .i64 dc, .int .u64 t] w fun r w' => r = .returned (vV (rsV v dc t)) ∧ Below w.heap.size w w' := by
  have hR := Lib.hid ((R9.new w v 42).alloc (.cells (aV z9) 42))
  have hZ := Lib.hid (R9.new (w.alloc (.cells (aV v) 42)) z9 42)
  have hB := Lib.hid (bal2 w (.cells (aV v) 42) (.cells (aV z9) 42))
  obtain ⟨r, hr⟩ : ∃ r, rsV v dc t = r := ⟨_, rfl⟩
  rw [hr]
  replace hr := Lib.hid hr
  go_enter Try.func24, Try.ntmps24
  go_wp2_with (fail)
  refine (plain_any v _).mono ?_
  rintro e w1 ⟨rfl, hB1⟩
  have hR1 := Lib.hid (R9.below hR.out hB1)
  have hZ1 : Hid (R9 42 (w.heap.size + 1) z9 w1) := Lib.hid (by have h := R9.below hZ.out hB1; simp at h; exact h)
  have hBx := Lib.hid (trans0 hB.out hB1)
  obtain ⟨c0, c1, c2, c3, c4, c5, c6, c7, c8⟩ := hR1.out.v9
  obtain ⟨f0, f1, f2, f3, f4, f5, f6, f7, f8⟩ := R9.f9 hR1.out
  clear hB1 hR hZ hB
  have hR2 := Lib.hid (R9.put9 hR1.out (plain v))
  have hZ2 := Lib.hid (((((((((hZ1.out.setOther (a := ⟨w.heap.size, 0, none⟩) (by simp) (.int .i64 (plain v).e)).setOther (a := ⟨w.heap.size, 1, none⟩) (by simp) (.bool (plain v).h0)).setOther (a := ⟨w.heap.size, 2, none⟩) (by simp) (.bool (plain v).h1)).setOther (a := ⟨w.heap.size, 3, none⟩) (by simp) (.bool (plain v).h2)).setOther (a := ⟨w.heap.size, 4, none⟩) (by simp) (.bool (plain v).h3)).setOther (a := ⟨w.heap.size, 5, none⟩) (by simp) (.int .u64 (plain v).t0)).setOther (a := ⟨w.heap.size, 6, none⟩) (by simp) (.int .u64 (plain v).t1)).setOther (a := ⟨w.heap.size, 7, none⟩) (by simp) (.int .u64 (plain v).t2)).setOther (a := ⟨w.heap.size, 8, none⟩) (by simp) (.int .u64 (plain v).t3))
  have hB2 := Lib.hid (put9_below hBx.out (Nat.le_refl _) (plain v))
  go_wp2_with (fail)
  refine (ism_any (plain v) dc _).mono ?_
  rintro e w3 ⟨rfl, hB3⟩
  have hR3 := Lib.hid (R9.below hR2.out hB3)
  have hZ3 := Lib.hid (R9.below hZ2.out hB3)
  have hBy := Lib.hid (trans0 hB2.out hB3)
  clear hB3 c0 c1 c2 c3 c4 c5 c6 c7 c8 f0 f1 f2 f3 f4 f5 f6 f7 f8 hR1 hZ1 hBx hR2 hZ2 hB2
  rw [isM_plain]
  by_cases hm : isM v dc = true
  · obtain ⟨j, rfl, hj, -⟩ := isM_at hm
    have he : Hid (putT (plain v) j (mx (tt (plain v) j) t) = r) := Lib.hid (by have h := hr.out; unfold rsV at h; rw [if_pos hm] at h; exact h)
    rw [hm]
    clear hr hm
    have ht := R9.tcell hR3.out hj
    have hft : w3.frozen? ⟨w.heap.size, 5 + j, none⟩ = false := hR3.out.fz _
    obtain ⟨d0, d1, d2, d3, d4, d5, d6, d7, d8⟩ := hZ3.out.v9
    obtain ⟨f0, f1, f2, f3, f4, f5, f6, f7, f8⟩ := R9.f9 hZ3.out
    generalize hx : tt (plain v) j = x at *
    by_cases hxt : x < t
    · have hR4 := R9.putT hR3.out hj t
      rw [show putT (plain v) j t = r from by have h := he.out; unfold mx at h; rw [if_pos hxt] at h; exact h] at hR4
      have hB4 := Lib.hid (hBy.out.setCell (p := ⟨w.heap.size, 5 + j, none⟩) (Nat.le_refl _) (.int .u64 t))
      obtain ⟨c0, c1, c2, c3, c4, c5, c6, c7, c8⟩ := hR4.v9
      clear he hx hR4
      go_wp2
      exact bodyPost_ret (v := vV r) (by simp [results, Try.results24, go_sem, d0, d1, d2, d3, d4, d5, d6, d7, d8]) rfl ⟨rfl, put9_below hB4.out (by omega) r⟩
    · have hR4 := R9.putT hR3.out hj x
      rw [show putT (plain v) j x = r from by have h := he.out; unfold mx at h; rw [if_neg hxt] at h; exact h] at hR4
      have hB4 := Lib.hid (hBy.out.setCell (p := ⟨w.heap.size, 5 + j, none⟩) (Nat.le_refl _) (.int .u64 x))
      obtain ⟨c0, c1, c2, c3, c4, c5, c6, c7, c8⟩ := hR4.v9
      clear he hx hR4
      go_wp2
      exact bodyPost_ret (v := vV r) (by simp [results, Try.results24, go_sem, d0, d1, d2, d3, d4, d5, d6, d7, d8]) rfl ⟨rfl, put9_below hB4.out (by omega) r⟩
  · have hmf : isM v dc = false := by simpa using hm
    have he : Hid (plain v = r) := Lib.hid (by have h := hr.out; unfold rsV at h; rw [if_neg hm] at h; exact h)
    rw [hmf]
    obtain ⟨c0, c1, c2, c3, c4, c5, c6, c7, c8⟩ := hR3.out.v9
    obtain ⟨d0, d1, d2, d3, d4, d5, d6, d7, d8⟩ := hZ3.out.v9
    obtain ⟨f0, f1, f2, f3, f4, f5, f6, f7, f8⟩ := R9.f9 hZ3.out
    clear hr hm hmf
    rw [he.out] at c0 c1 c2 c3 c4 c5 c6 c7 c8
    go_wp2
    exact bodyPost_ret (v := vV r) (by simp [results, Try.results24, go_sem, d0, d1, d2, d3, d4, d5, d6, d7, d8]) rfl ⟨rfl, put9_below hBy.out (by omega) r⟩
end Go.Proofs.Ytmhflemmkoiffaa.stVD
