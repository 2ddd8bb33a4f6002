/- The contract of membersOf. -/
import Derived.Test.YtoeafdpknjeojaaVecH
set_option linter.unusedVariables false
set_option linter.unusedSimpArgs false
namespace Go.Proofs.Ytoeafdpknjeojaa.vecI
open Go.ChangeShapes Go.WideShapes Go.ChangeAt Go.RowKit Go.Deep
open vecA vecB vecC vecD vecE vecF vecG vecH

/-- the members of both, of the first j -/
def orS (v u : V) (j : Nat) : V := ⟨v.e, if 0 < j then v.h0 || u.h0 else v.h0, if 1 < j then v.h1 || u.h1 else v.h1, if 2 < j then v.h2 || u.h2 else v.h2, if 3 < j then v.h3 || u.h3 else v.h3, 0, 0, 0, 0⟩
def moV (v u : V) : V := if u.e < v.e then v else if v.e < u.e then u else orS v u 4
theorem or_at {v u : V} {j : Nat} (hj : j < 4) : hb (orS v u j) j = hb v j := by
  rcases four hj with rfl | rfl | rfl | rfl <;> rfl
theorem or_put {v u : V} {j : Nat} (hj : j < 4) : putH (orS v u j) j (hb v j || hb u j) = orS v u (j + 1) := by
  rcases four hj with rfl | rfl | rfl | rfl <;> simp [putH, orS, hb]
theorem or_same {v u : V} {j : Nat} (hj : j < 4) (h : (hb v j || hb u j) = hb v j) : orS v u j = orS v u (j + 1) := by
  rcases four hj with rfl | rfl | rfl | rfl <;> simp only [hb] at h <;> simp [orS, hb, h]
abbrev z4 : V := z9
set_option maxRecDepth 100000 in
set_option maxHeartbeats 1000000 in
theorem mem_any (v u : V) (w : World) : Calls Try.prog 23 #[vV v, vV u] w fun r w' => r = .returned (hV (moV v u)) ∧ Below w.heap.size w w' := by
  unfold moV
  by_cases h1 : u.e < v.e
  · rw [if_pos h1]
    go_enter Try.func23, Try.ntmps23
    go_wp2
    exact bodyPost_ret (v := hV v) (by simp [results, Try.results23, go_sem]) rfl ⟨rfl, bal3 w _ _ _⟩
  · rw [if_neg h1]
    by_cases h2 : v.e < u.e
    · rw [if_pos h2]
      go_enter Try.func23, Try.ntmps23
      go_wp2
      exact bodyPost_ret (v := hV u) (by simp [results, Try.results23, go_sem]) rfl ⟨rfl, bal3 w _ _ _⟩
    · rw [if_neg h2]
      have hi := Lib.hid (fun (j : Nat) (h : j < 4) (wx : World) => ix u h wx)
      have hZ := Lib.hid ((R4.new ((w.alloc (.cells (aV v) 26)).alloc (.cells (aV u) 26)) z4).alloc (.cells (aH v) 22))
      have hO := Lib.hid (R4.new (((w.alloc (.cells (aV v) 26)).alloc (.cells (aV u) 26)).alloc (.cells (aH z4) 22)) v)
      have hB := Lib.hid (bal4 w (.cells (aV v) 26) (.cells (aV u) 26) (.cells (aH z4) 22) (.cells (aH v) 22))
      obtain ⟨r, hr⟩ : ∃ r, orS v u 4 = r := ⟨_, rfl⟩
      rw [hr]
      replace hr := Lib.hid hr
      go_enter Try.func23, Try.ntmps23
      go_wp2
      go_loopw [28] (fun i wr => ∃ j : Nat, j ≤ 4 ∧ i = .int .i64 j ∧ Hid (R4 (w.heap.size + 2) z4 wr) ∧ Hid (R4 (w.heap.size + 3) (orS v u j) wr) ∧ Hid (Below w.heap.size w wr)) (fun i _ => 4 - (intOf i).toNat)
      case atStart => exact ⟨0, by omega, rfl, Lib.hid (by have h := hZ.out; simp at h; exact h), Lib.hid (by have h := hO.out; simp at h; exact h), hB⟩
      case round =>
        clear hZ hO hB
        obtain ⟨j, hj, rfl, hZ, hO, hB⟩ := hrel
        by_cases hlt : j < 4
        · have hx := hi.out j hlt
          have hc : wr.cell? ⟨w.heap.size + 3, j, none⟩ = some (.bool (hb v j)) := by have h := R4.hcell hO.out hlt; rw [or_at hlt] at h; exact h
          have hf : wr.frozen? ⟨w.heap.size + 3, j, none⟩ = false := hO.out.frozen _
          have e1 := Lib.hid (or_put (v := v) (u := u) hlt)
          have e2 := Lib.hid (or_same (v := v) (u := u) hlt)
          generalize hb v j = a at *
          generalize hb u j = b at *
          have hB' := Lib.hid (hB.out.setCell (p := ⟨w.heap.size + 3, j, none⟩) (by simp) (.bool (a || b)))
          have hO' := Lib.hid (R4.putH hO.out hlt (a || b))
          have hZ' := Lib.hid (hZ.out.setOther (a := ⟨w.heap.size + 3, j, none⟩) (by simp) (.bool (a || b)))
          cases a <;> cases b
          all_goals
            have e := Lib.hid e1.out
            clear e1 e2
            go_wp2
            go_roundw
            case rel => exact ⟨j + 1, by omega, by go_num, hZ', Lib.hid (by rw [← e.out]; exact hO'.out), hB'⟩
            case measure => simp [intOf]; omega
        · obtain rfl : j = 4 := by omega
          obtain ⟨c0, c1, c2, c3⟩ := R4.cells hO.out
          obtain ⟨d0, d1, d2, d3⟩ := R4.cells hZ.out
          have f0 := hZ.out.frozen 0
          have f1 := hZ.out.frozen 1
          have f2 := hZ.out.frozen 2
          have f3 := hZ.out.frozen 3
          rw [hr.out] at c0 c1 c2 c3
          clear hi
          go_wp2
          exact bodyPost_ret (v := hV r) (by simp [results, Try.results23, go_sem, d0, d1, d2, d3]) rfl ⟨rfl, (((hB.out.setCell (p := ⟨w.heap.size + 2, 0, none⟩) (by simp) _).setCell (p := ⟨w.heap.size + 2, 1, none⟩) (by simp) _).setCell (p := ⟨w.heap.size + 2, 2, none⟩) (by simp) _).setCell (p := ⟨w.heap.size + 2, 3, none⟩) (by simp) _⟩
end Go.Proofs.Ytoeafdpknjeojaa.vecI
