/- The contracts of New, told, isMember, and of the document's own Plain. -/
import Derived.Test.YtoeafdpknjeojaaVecB
set_option linter.unusedVariables false
set_option linter.unusedSimpArgs false
namespace Go.Proofs.Ytoeafdpknjeojaa.vecC
open Go.ChangeShapes Go.WideShapes Go.ChangeAt Go.RowKit Go.Deep
open vecA vecB

abbrev aV (v : V) : Array Value := #[.int .i64 v.e, .bool v.h0, .bool v.h1, .bool v.h2, .bool v.h3, .int .u64 v.t0, .int .u64 v.t1, .int .u64 v.t2, .int .u64 v.t3]
abbrev hV (v : V) : Value := .agg #[.bool v.h0, .bool v.h1, .bool v.h2, .bool v.h3]
def newV (e : Int) (v : V) : V := ⟨e, v.h0, v.h1, v.h2, v.h3, 0, 0, 0, 0⟩
theorem bal2 (w : World) (o1 o2 : Obj) : Below w.heap.size w ((w.alloc o1).alloc o2) := bal (al0 w o1) o2
theorem bal3 (w : World) (o1 o2 o3 : Obj) : Below w.heap.size w (((w.alloc o1).alloc o2).alloc o3) := bal (bal (al0 w o1) o2) o3
set_option maxRecDepth 100000 in
theorem new_any (e : Int) (v : V) (w : World) : Calls Try.prog 12 #[.int .i64 e, hV v] w fun r w' => r = .returned (vV (newV e v)) ∧ Below w.heap.size w w' := by
  go_enter Try.func12, Try.ntmps12
  go_wp2
  exact bodyPost_ret (v := vV (newV e v)) (by simp [newV, results, Try.results12, go_sem]) rfl ⟨rfl, bal2 w _ _⟩
set_option maxRecDepth 100000 in
theorem told_any (v : V) (w : World) : Calls Try.prog 9 #[vV v] w fun r w' => r = .returned (vV v) ∧ Below w.heap.size w w' := by
  go_enter Try.func9, Try.ntmps9
  go_wp2
  exact bodyPost_ret (v := vV v) (by simp [results, Try.results9, go_sem]) rfl ⟨rfl, bal2 w _ _⟩
/-- is dc a member? -/
def isM (v : V) (dc : Int) : Bool := if 0 ≤ dc ∧ dc < 4 then hb v dc.toNat else false
set_option maxRecDepth 100000 in
theorem ism_any (v : V) (dc : Int) (w : World) : Calls Try.prog 22 #[vV v, .int .i64 dc] w fun r w' => r = .returned (.bool (isM v dc)) ∧ Below w.heap.size w w' := by
  have hR := Lib.hid (R9.new w v 26)
  have hB := Lib.hid (al0 w (.cells (aV v) 26))
  unfold isM
  by_cases h1 : 0 ≤ dc
  · by_cases h2 : dc < 4
    · rw [if_pos ⟨h1, h2⟩]
      obtain ⟨j, rfl⟩ := Int.eq_ofNat_of_zero_le h1
      have hj : j < 4 := by omega
      have hc := R9.hcell hR.out hj
      rw [show ((j : Int)).toNat = j from rfl]
      generalize hb v j = r at *
      go_enter Try.func22, Try.ntmps22
      go_wp2
      go_ret
      exact ⟨rfl, hB.out⟩
    · rw [if_neg (fun h => h2 h.2)]
      go_enter Try.func22, Try.ntmps22
      go_wp2
      go_ret
      exact ⟨rfl, hB.out⟩
  · rw [if_neg (fun h => h1 h.1)]
    go_enter Try.func22, Try.ntmps22
    go_wp2
    go_ret
    exact ⟨rfl, hB.out⟩
/-- what the document's Plain has made so far -/
def rpS (v : V) (j : Nat) : V := ⟨v.e, v.h0, v.h1, v.h2, v.h3, if 0 < j then tm v.h0 v.t0 else 0, if 1 < j then tm v.h1 v.t1 else 0, if 2 < j then tm v.h2 v.t2 else 0, if 3 < j then tm v.h3 v.t3 else 0⟩
theorem rpS_4 (v : V) : rpS v 4 = plain v := rfl
theorem rpS_no {v : V} {j : Nat} (hj : j < 4) (h : hb v j = false) : rpS v j = rpS v (j + 1) := by
  rcases four hj with rfl | rfl | rfl | rfl <;> simp only [hb] at h <;> simp [rpS, tm, h]
theorem rpS_yes {v : V} {j : Nat} (hj : j < 4) (h : hb v j = true) : putT (rpS v j) j (tt v j) = rpS v (j + 1) := by
  rcases four hj with rfl | rfl | rfl | rfl <;> simp only [hb] at h <;> simp [putT, rpS, tm, tt, h]
set_option maxRecDepth 100000 in
theorem rplain_any (v : V) (w : World) : Calls Try.prog 15 #[vV v] w fun e w' => e = .returned (vV (plain v)) ∧ Below w.heap.size w w' := by
  have hR := Lib.hid (((R9.new w v 30).alloc (.cells (aV z9) 30)).alloc (.cells (aV (newV v.e v)) 30))
  have hZ := Lib.hid ((R9.new (w.alloc (.cells (aV v) 30)) z9 30).alloc (.cells (aV (newV v.e v)) 30))
  have hO := Lib.hid (R9.new ((w.alloc (.cells (aV v) 30)).alloc (.cells (aV z9) 30)) (newV v.e v) 30)
  have hB := Lib.hid (bal3 w (.cells (aV v) 30) (.cells (aV z9) 30) (.cells (aV (newV v.e v)) 30))
  go_enter Try.func15, Try.ntmps15
  go_wp2
  go_loopw [4] (fun i wr => ∃ j : Nat, j ≤ 4 ∧ i = .int .i64 j ∧ Hid (R9 30 w.heap.size v wr) ∧ Hid (R9 30 (w.heap.size + 1) z9 wr) ∧ Hid (R9 30 (w.heap.size + 2) (rpS v j) wr) ∧ Hid (Below w.heap.size w wr)) (fun i _ => 4 - (intOf i).toNat)
  case atStart => exact ⟨0, by omega, rfl, hR, Lib.hid (by have h := hZ.out; simp at h; exact h), Lib.hid (by have h := hO.out; simp at h; exact h), hB⟩
  case round =>
    clear hR hZ hB hO
    obtain ⟨j, hj, rfl, hR, hZ, hO, hB⟩ := hrel
    by_cases hlt : j < 4
    · have hh' : wr.cell? ⟨w.heap.size, 1 + j, none⟩ = some (.bool (hb v j)) := R9.hcell hR.out hlt
      have ht' : wr.cell? ⟨w.heap.size, 5 + j, none⟩ = some (.int .u64 (tt v j)) := R9.tcell hR.out hlt
      have hf : wr.frozen? ⟨w.heap.size + 2, 5 + j, none⟩ = false := hO.out.fz _
      have hc : wr.cell? ⟨w.heap.size + 2, 5 + j, none⟩ = some (.int .u64 (tt (rpS v j) j)) := R9.tcell hO.out hlt
      generalize hh : hb v j = h at *
      cases h
      · have e := Lib.hid (rpS_no hlt hh)
        clear hh
        go_wp2
        go_roundw
        case rel => exact ⟨j + 1, by omega, by go_num, hR, hZ, Lib.hid (by rw [← e.out]; exact hO.out), hB⟩
        case measure => simp [intOf]; omega
      · have e := Lib.hid (rpS_yes hlt hh)
        have hB' := Lib.hid (hB.out.setCell (p := ⟨w.heap.size + 2, 5 + j, none⟩) (by simp) (.int .u64 (tt v j)))
        have hO' := Lib.hid (R9.putT hO.out hlt (tt v j))
        have hZ' := Lib.hid (hZ.out.setOther (a := ⟨w.heap.size + 2, 5 + j, none⟩) (by simp) (.int .u64 (tt v j)))
        have hR' := Lib.hid (hR.out.setOther (a := ⟨w.heap.size + 2, 5 + j, none⟩) (by simp) (.int .u64 (tt v j)))
        clear hh
        go_wp2
        go_roundw
        case rel => exact ⟨j + 1, by omega, by go_num, hR', hZ', Lib.hid (by rw [← e.out]; exact hO'.out), hB'⟩
        case measure => simp [intOf]; omega
    · obtain rfl : j = 4 := by omega
      obtain ⟨c0, c1, c2, c3, c4, c5, c6, c7, c8⟩ := hO.out.v9
      obtain ⟨d0, d1, d2, d3, d4, d5, d6, d7, d8⟩ := hZ.out.v9
      obtain ⟨f0, f1, f2, f3, f4, f5, f6, f7, f8⟩ := R9.f9 hZ.out
      rw [rpS_4] at c0 c1 c2 c3 c4 c5 c6 c7 c8
      go_wp2
      exact bodyPost_ret (v := vV (plain v)) (by simp [results, Try.results15, go_sem, d0, d1, d2, d3, d4, d5, d6, d7, d8]) rfl ⟨rfl, put9_below hB.out (by omega) (plain v)⟩
end Go.Proofs.Ytoeafdpknjeojaa.vecC
