/- The contracts of Leq, in the program and in the document's own answer; of membersOf. -/
import Derived.Test.YtoeafdpknjeojaaVecF
set_option linter.unusedVariables false
set_option linter.unusedSimpArgs false
namespace Go.Proofs.Ytoeafdpknjeojaa.vecG
open Go.ChangeShapes Go.WideShapes Go.ChangeAt Go.RowKit Go.Deep
open vecA vecB vecC vecD vecE vecF

def lq (v u : V) : Nat → Bool
  | 0 => decide (v.e = u.e)
  | j + 1 => lq v u j && (!hb v j || (hb u j && decide (tt v j ≤ tt u j)))
theorem lq_mono {v u : V} {j k : Nat} (h : lq v u j = false) (hk : j ≤ k) : lq v u k = false := by
  induction k with
  | zero => obtain rfl : j = 0 := by omega
            exact h
  | succ k ih =>
    by_cases e : j = k + 1
    · rw [← e]; exact h
    · show (lq v u k && _) = false
      rw [ih (by omega)]; rfl
set_option maxRecDepth 100000 in
set_option maxHeartbeats 1000000 in
theorem leq_any (v u : V) (w : World) : Calls Try.prog 20 #[vV v, vV u] w fun r w' => r = .returned (.bool (lq v u 4)) ∧ Below w.heap.size w w' := by
  have hi := Lib.hid (fun (j : Nat) (h : j < 4) (wx : World) => ix v h wx)
  have hR := Lib.hid ((R9.new w v 26).alloc (.cells (aV u) 26))
  have hO := Lib.hid (R9.new (w.alloc (.cells (aV v) 26)) u 26)
  have hB := Lib.hid (bal2 w (.cells (aV v) 26) (.cells (aV u) 26))
  have hlow := Lib.hid (fun (j : Nat) (h : lq v u j = false) (hj : j ≤ 4) => lq_mono h hj)
  obtain ⟨r, hr⟩ : ∃ r, lq v u 4 = r := ⟨_, rfl⟩
  rw [hr]
  replace hr := Lib.hid hr
  by_cases he : v.e = u.e
  · have hl0 : Hid (lq v u 0 = true) := Lib.hid (decide_eq_true he)
    have hne : (v.e != u.e) = false := by rw [he]; simp
    clear he
    go_enter Try.func20, Try.ntmps20
    go_wp2
    go_loopw [14] (fun i wr => ∃ j : Nat, j ≤ 4 ∧ i = .int .i64 j ∧ Hid (lq v u j = true) ∧ Hid (R9 26 w.heap.size v wr) ∧ Hid (R9 26 (w.heap.size + 1) u wr) ∧ Hid (Below w.heap.size w wr)) (fun i _ => 4 - (intOf i).toNat)
    case atStart => exact ⟨0, by omega, rfl, hl0, hR, Lib.hid (by have h := hO.out; simp at h; exact h), hB⟩
    case round =>
      clear hR hO hB hl0
      obtain ⟨j, hj, rfl, hl, hR, hO, hB⟩ := hrel
      by_cases hlt : j < 4
      · have hx := hi.out j hlt
        have e : Hid (lq v u (j + 1) = (!hb v j || (hb u j && decide (tt v j ≤ tt u j)))) := Lib.hid (by show (lq v u j && _) = _; rw [hl.out]; rfl)
        have hc : wr.cell? ⟨w.heap.size + 1, 1 + j, none⟩ = some (.bool (hb u j)) := R9.hcell hO.out hlt
        have ht : wr.cell? ⟨w.heap.size, 5 + j, none⟩ = some (.int .u64 (tt v j)) := R9.tcell hR.out hlt
        have hu : wr.cell? ⟨w.heap.size + 1, 5 + j, none⟩ = some (.int .u64 (tt u j)) := R9.tcell hO.out hlt
        generalize hb v j = h at *
        generalize hb u j = g at *
        generalize tt v j = a at *
        generalize tt u j = b at *
        have hd : (decide (a ≤ b) = true ∧ decide (b < a) = false) ∨ (decide (a ≤ b) = false ∧ decide (b < a) = true) := by
          by_cases x : a ≤ b
          · exact .inl ⟨decide_eq_true x, decide_eq_false (by omega)⟩
          · exact .inr ⟨decide_eq_false x, decide_eq_true (by omega)⟩
        cases h
        · go_wp2
          go_quiet (fail)
          have hR' := Lib.hid (show R9 26 w.heap.size v (wr.drewN nq) from hR.out)
          have hO' := Lib.hid (show R9 26 (w.heap.size + 1) u (wr.drewN nq) from hO.out)
          have hB' := Lib.hid (bdrN nq hB.out)
          clear hR hB hO
          go_wp2
          go_roundw
          case rel => exact ⟨j + 1, by omega, by go_num, Lib.hid e.out, hR', hO', hB'⟩
          case measure => simp [intOf]; omega
        · cases g
          · have hf : r = false := by rw [← hr.out]; exact hlow.out (j + 1) e.out (by omega)
            subst hf
            go_wp2
            go_quiet (fail)
            have hB' := Lib.hid (bdrN nq hB.out)
            clear hR hB hO
            go_wp2
            go_ret
            exact ⟨rfl, hB'.out⟩
          · rcases hd with ⟨h1, h2⟩ | ⟨h1, h2⟩
            · have e' : Hid (lq v u (j + 1) = true) := Lib.hid (e.out.trans (by rw [h1]; rfl))
              clear h1
              go_wp2
              go_quiet (fail)
              have hR' := Lib.hid (show R9 26 w.heap.size v (wr.drewN nq) from hR.out)
              have hO' := Lib.hid (show R9 26 (w.heap.size + 1) u (wr.drewN nq) from hO.out)
              have hB' := Lib.hid (bdrN nq hB.out)
              clear hR hB hO
              go_wp2
              go_roundw
              case rel => exact ⟨j + 1, by omega, by go_num, e', hR', hO', hB'⟩
              case measure => simp [intOf]; omega
            · have hf : r = false := by rw [← hr.out]; exact hlow.out (j + 1) (e.out.trans (by rw [h1]; rfl)) (by omega)
              subst hf
              clear h1
              go_wp2
              go_quiet (fail)
              have hB' := Lib.hid (bdrN nq hB.out)
              clear hR hB hO
              go_wp2
              go_ret
              exact ⟨rfl, hB'.out⟩
      · obtain rfl : j = 4 := by omega
        have hf : r = true := by rw [← hr.out]; exact hl.out
        subst hf
        clear hi
        go_wp2
        go_ret
        exact ⟨rfl, hB.out⟩
  · have hf : r = false := by rw [← hr.out]; exact hlow.out 0 (decide_eq_false he) (by omega)
    subst hf
    have hne : (v.e != u.e) = true := by rw [bne_iff_ne]; exact he
    clear he
    go_enter Try.func20, Try.ntmps20
    go_wp2
    go_ret
    exact ⟨rfl, hB.out⟩
set_option maxRecDepth 100000 in
set_option maxHeartbeats 1000000 in
theorem rleq_any (v u : V) (w : World) : Calls Try.prog 21 #[vV v, vV u] w fun r w' => r = .returned (.bool (lq v u 4)) ∧ Below w.heap.size w w' := by
  have hR := Lib.hid ((R9.new w v 30).alloc (.cells (aV u) 30))
  have hO := Lib.hid (R9.new (w.alloc (.cells (aV v) 30)) u 30)
  have hB := Lib.hid (bal2 w (.cells (aV v) 30) (.cells (aV u) 30))
  obtain ⟨r, hr⟩ : ∃ r, lq v u 4 = r := ⟨_, rfl⟩
  rw [hr]
  replace hr := Lib.hid hr
  obtain ⟨x, hx⟩ : ∃ x, decide (v.e = u.e) = x := ⟨_, rfl⟩
  have hl0 : Hid (lq v u 0 = x) := Lib.hid hx
  have hx' : (v.e == u.e) = x := by rw [← hx]; rfl
  clear hx
  go_enter Try.func21, Try.ntmps21
  go_wp2
  go_loopw [5, 6] (fun l i wr => ∃ j : Nat, j ≤ 4 ∧ l = .bool (lq v u j) ∧ i = .int .i64 j ∧ Hid (R9 30 w.heap.size v wr) ∧ Hid (R9 30 (w.heap.size + 1) u wr) ∧ Hid (Below w.heap.size w wr)) (fun _ i _ => 4 - (intOf i).toNat)
  case atStart => exact ⟨0, by omega, by rw [hl0.out], rfl, hR, Lib.hid (by have h := hO.out; simp at h; exact h), hB⟩
  case round =>
    clear hR hO hB hl0 hx'
    obtain ⟨j, hj, rfl, rfl, hR, hO, hB⟩ := hrel
    by_cases hlt : j < 4
    · have e : Hid (lq v u (j + 1) = (lq v u j && (!hb v j || (hb u j && decide (tt v j ≤ tt u j))))) := Lib.hid rfl
      have hd' : wr.cell? ⟨w.heap.size, 1 + j, none⟩ = some (.bool (hb v j)) := R9.hcell hR.out hlt
      have hc : wr.cell? ⟨w.heap.size + 1, 1 + j, none⟩ = some (.bool (hb u j)) := R9.hcell hO.out hlt
      have ht : wr.cell? ⟨w.heap.size, 5 + j, none⟩ = some (.int .u64 (tt v j)) := R9.tcell hR.out hlt
      have hu : wr.cell? ⟨w.heap.size + 1, 5 + j, none⟩ = some (.int .u64 (tt u j)) := R9.tcell hO.out hlt
      generalize lq v u j = y at *
      generalize hb v j = h at *
      generalize hb u j = g at *
      generalize tt v j = a at *
      generalize tt u j = b at *
      cases h
      · go_wp2
        go_roundw
        case rel => exact ⟨j + 1, by omega, by rw [e.out]; simp, by go_num, hR, hO, hB⟩
        case measure => simp [intOf]; omega
      · cases y
        · go_wp2
          go_quiet (fail)
          have hR' := Lib.hid (show R9 30 w.heap.size v (wr.drewN nq) from hR.out)
          have hO' := Lib.hid (show R9 30 (w.heap.size + 1) u (wr.drewN nq) from hO.out)
          have hB' := Lib.hid (bdrN nq hB.out)
          clear hR hB hO
          go_wp2
          go_roundw
          case rel => exact ⟨j + 1, by omega, by rw [e.out]; rfl, by go_num, hR', hO', hB'⟩
          case measure => simp [intOf]; omega
        · cases g
          · go_wp2
            go_quiet (fail)
            have hR' := Lib.hid (show R9 30 w.heap.size v (wr.drewN nq) from hR.out)
            have hO' := Lib.hid (show R9 30 (w.heap.size + 1) u (wr.drewN nq) from hO.out)
            have hB' := Lib.hid (bdrN nq hB.out)
            clear hR hB hO
            go_wp2
            go_roundw
            case rel => exact ⟨j + 1, by omega, by rw [e.out]; rfl, by go_num, hR', hO', hB'⟩
            case measure => simp [intOf]; omega
          · have hd : decide (a ≤ b) = true ∨ decide (a ≤ b) = false := by cases decide (a ≤ b) <;> simp
            rcases hd with hd | hd
            all_goals
              have e' : Hid (lq v u (j + 1) = decide (a ≤ b)) := Lib.hid e.out
              rw [hd] at e'
              go_wp2
              go_quiet (fail)
              have hR' := Lib.hid (show R9 30 w.heap.size v (wr.drewN nq) from hR.out)
              have hO' := Lib.hid (show R9 30 (w.heap.size + 1) u (wr.drewN nq) from hO.out)
              have hB' := Lib.hid (bdrN nq hB.out)
              clear hR hB hO
              go_wp2
              go_roundw
              case rel => exact ⟨j + 1, by omega, by rw [e'.out], by go_num, hR', hO', hB'⟩
              case measure => simp [intOf]; omega
    · obtain rfl : j = 4 := by omega
      rw [hr.out]
      go_wp2
      go_ret
      exact ⟨rfl, hB.out⟩
end Go.Proofs.Ytoeafdpknjeojaa.vecG
