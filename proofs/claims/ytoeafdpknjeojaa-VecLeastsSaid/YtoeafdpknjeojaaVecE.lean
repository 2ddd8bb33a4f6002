/- The contract of the document's own Raise. -/
import Derived.Test.YtoeafdpknjeojaaVecD
set_option linter.unusedVariables false
set_option linter.unusedSimpArgs false
namespace Go.Proofs.Ytoeafdpknjeojaa.vecE
open Go.ChangeShapes Go.WideShapes Go.ChangeAt Go.RowKit Go.Deep
open vecA vecB vecC vecD

def rrS (v : V) (dc t : Int) (k : Nat) : V := if isM v dc = true ∧ dc < k then putT (plain v) dc.toNat (mx (tt (plain v) dc.toNat) t) else plain v
theorem putT_self {v : V} {j : Nat} (hj : j < 4) : putT v j (tt v j) = v := by
  rcases four hj with rfl | rfl | rfl | rfl <;> rfl
theorem hb_plain (v : V) (j : Nat) : hb (plain v) j = hb v j := rfl
theorem isM_nat {v : V} {j : Nat} (hj : j < 4) : isM v (j : Int) = hb v j := by unfold isM; rw [if_pos (by omega)]; rfl
theorem rrS_0 (v : V) (dc t : Int) : rrS v dc t 0 = plain v := by
  unfold rrS
  rw [if_neg]
  rintro ⟨h1, h2⟩
  obtain ⟨j, rfl, -, -⟩ := isM_at h1
  omega
theorem rrS_4 (v : V) (dc t : Int) : rrS v dc t 4 = rsV v dc t := by
  unfold rrS rsV
  by_cases h : isM v dc = true
  · rw [if_pos h, if_pos]
    refine ⟨h, ?_⟩
    obtain ⟨j, rfl, hj, -⟩ := isM_at h
    omega
  · rw [if_neg (fun e => h e.1), if_neg h]
theorem rrS_at (v : V) (j : Nat) (t : Int) : rrS v j t j = plain v := by unfold rrS; rw [if_neg]; rintro ⟨-, h⟩; omega
theorem rr_put {v : V} {j : Nat} {t : Int} (hj : j < 4) (h : hb v j = true) (hx : tt (plain v) j < t) : putT (rrS v j t j) j t = rrS v j t (j + 1) := by
  rw [rrS_at]
  unfold rrS mx
  rw [if_pos ⟨by rw [isM_nat hj]; exact h, by omega⟩]
  rw [show ((j : Int)).toNat = j from rfl, if_pos hx]
theorem rr_ge {v : V} {j : Nat} {t : Int} (hj : j < 4) (h : hb v j = true) (hx : ¬ tt (plain v) j < t) : rrS v j t j = rrS v j t (j + 1) := by
  rw [rrS_at]
  unfold rrS mx
  rw [if_pos ⟨by rw [isM_nat hj]; exact h, by omega⟩]
  rw [show ((j : Int)).toNat = j from rfl, if_neg hx, putT_self hj]
theorem rr_no {v : V} {j : Nat} {t : Int} (hj : j < 4) (h : hb v j = false) : rrS v j t j = rrS v j t (j + 1) := by
  rw [rrS_at]
  unfold rrS
  rw [if_neg]
  rintro ⟨e, -⟩
  rw [isM_nat hj, h] at e; cases e
theorem rr_ne {v : V} {j : Nat} {dc t : Int} (h : (j : Int) ≠ dc) : rrS v dc t j = rrS v dc t (j + 1) := by
  unfold rrS
  by_cases e : isM v dc = true ∧ dc < (j : Nat)
  · rw [if_pos e, if_pos ⟨e.1, by omega⟩]
  · rw [if_neg e, if_neg]
    rintro ⟨e1, e2⟩
    exact e ⟨e1, by omega⟩
set_option maxRecDepth 100000 in
set_option maxHeartbeats 1000000 in
theorem rraise_any (v : V) (dc t : Int) (w : World) : Calls Try.prog 17 #[vV v, .int .i64 dc, .int .u64 t] w fun r w' => r = .returned (vV (rsV v dc t)) ∧ Below w.heap.size w w' := by
  have hR := Lib.hid ((R9.new w v 30).alloc (.cells (aV z9) 30))
  have hZ := Lib.hid (R9.new (w.alloc (.cells (aV v) 30)) z9 30)
  have hB := Lib.hid (bal2 w (.cells (aV v) 30) (.cells (aV z9) 30))
  obtain ⟨r, hr⟩ : ∃ r, rsV v dc t = r := ⟨_, rfl⟩
  rw [hr]
  replace hr := Lib.hid hr
  go_enter Try.func17, Try.ntmps17
  go_wp2_with (fail)
  refine (rplain_any v _).mono ?_
  rintro e w1 ⟨rfl, hB1⟩
  have hR1 := Lib.hid (R9.below hR.out hB1)
  have hZ1 : Hid (R9 30 (w.heap.size + 1) z9 w1) := Lib.hid (by have h := R9.below hZ.out hB1; simp at h; exact h)
  have hBx := Lib.hid (trans0 hB.out hB1)
  have hz : w.heap.size + 2 ≤ w1.heap.size := by have := hB1.size; simp at this; omega
  clear hB1 hR hZ hB
  have hR2 := Lib.hid (hR1.out.alloc (.cells (aV (plain v)) 30))
  have hZ2 := Lib.hid (hZ1.out.alloc (.cells (aV (plain v)) 30))
  have hO2 := Lib.hid (R9.new w1 (plain v) 30)
  have hB2 := Lib.hid (bal hBx.out (.cells (aV (plain v)) 30))
  generalize hbn : w1.heap.size = b at *
  replace hbn := Lib.hid hbn
  go_wp2
  rw [hbn.out]
  go_loopw [8] (fun i wr => ∃ j : Nat, j ≤ 4 ∧ i = .int .i64 j ∧ Hid (R9 30 w.heap.size v wr) ∧ Hid (R9 30 (w.heap.size + 1) z9 wr) ∧ Hid (R9 30 b (rrS v dc t j) wr) ∧ Hid (Below w.heap.size w wr)) (fun i _ => 4 - (intOf i).toNat)
  case atStart => exact ⟨0, by omega, rfl, hR2, hZ2, Lib.hid (by rw [rrS_0]; exact hO2.out), hB2⟩
  case round =>
    clear hR1 hZ1 hBx hR2 hZ2 hO2 hB2
    obtain ⟨j, hj, rfl, hR, hZ, hO, hB⟩ := hrel
    by_cases hlt : j < 4
    · by_cases hjd : (j : Int) = dc
      · have hh' : wr.cell? ⟨w.heap.size, 1 + j, none⟩ = some (.bool (hb v j)) := R9.hcell hR.out hlt
        subst hjd
        have hf : wr.frozen? ⟨b, 5 + j, none⟩ = false := hO.out.fz _
        have hc : wr.cell? ⟨b, 5 + j, none⟩ = some (.int .u64 (tt (plain v) j)) := by have h := R9.tcell hO.out hlt; rw [rrS_at] at h; exact h
        generalize hh : hb v j = h at *
        cases h
        · have e := Lib.hid (rr_no (t := t) hlt hh)
          clear hh
          go_wp2
          go_roundw
          case rel => exact ⟨j + 1, by omega, by go_num, hR, hZ, Lib.hid (by rw [← e.out]; exact hO.out), hB⟩
          case measure => simp [intOf]; omega
        · by_cases hx : tt (plain v) j < t
          · have e := Lib.hid (rr_put hlt hh hx)
            have hB' := Lib.hid (hB.out.setCell (p := ⟨b, 5 + j, none⟩) (by show w.heap.size ≤ b; omega) (.int .u64 t))
            have hO' := Lib.hid (R9.putT hO.out hlt t)
            have hZ' := Lib.hid (hZ.out.setOther (a := ⟨b, 5 + j, none⟩) (by show _ ≠ b; omega) (.int .u64 t))
            have hR' := Lib.hid (hR.out.setOther (a := ⟨b, 5 + j, none⟩) (by show _ ≠ b; omega) (.int .u64 t))
            generalize tt (plain v) j = x at *
            clear hh
            go_wp2
            go_roundw
            case rel => exact ⟨j + 1, by omega, by go_num, hR', hZ', Lib.hid (by rw [← e.out]; exact hO'.out), hB'⟩
            case measure => simp [intOf]; omega
          · have e := Lib.hid (rr_ge hlt hh hx)
            generalize tt (plain v) j = x at *
            clear hh
            go_wp2
            go_roundw
            case rel => exact ⟨j + 1, by omega, by go_num, hR, hZ, Lib.hid (by rw [← e.out]; exact hO.out), hB⟩
            case measure => simp [intOf]; omega
      · have e := Lib.hid (rr_ne (v := v) (t := t) hjd)
        go_wp2
        go_roundw
        case rel => exact ⟨j + 1, by omega, by go_num, hR, hZ, Lib.hid (by rw [← e.out]; exact hO.out), hB⟩
        case measure => simp [intOf]; omega
    · obtain rfl : j = 4 := by omega
      obtain ⟨c0, c1, c2, c3, c4, c5, c6, c7, c8⟩ := hO.out.v9
      obtain ⟨d0, d1, d2, d3, d4, d5, d6, d7, d8⟩ := hZ.out.v9
      obtain ⟨f0, f1, f2, f3, f4, f5, f6, f7, f8⟩ := R9.f9 hZ.out
      rw [rrS_4, hr.out] at c0 c1 c2 c3 c4 c5 c6 c7 c8
      go_wp2
      exact bodyPost_ret (v := vV r) (by simp [results, Try.results17, go_sem, d0, d1, d2, d3, d4, d5, d6, d7, d8]) rfl ⟨rfl, put9_below hB.out (by omega) r⟩
end Go.Proofs.Ytoeafdpknjeojaa.vecE
