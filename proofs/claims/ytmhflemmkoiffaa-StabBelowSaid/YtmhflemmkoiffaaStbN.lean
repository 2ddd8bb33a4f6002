/- StabNone. -/
import Derived.Test.YtmhflemmkoiffaaStbH
set_option linter.unusedVariables false
set_option linter.unusedSimpArgs false
namespace Go.Proofs.Ytmhflemmkoiffaa.stbN
open Go.ChangeShapes Go.WideShapes Go.ChangeAt Go.RowKit Go.Deep
open opG opB stVA stVB stVC stVD stVF stVH stVP stbA stbB stbC stbD stbE stbF stbG stbH

theorem op_at {W w : World} {b off i : Nat} {o : opB.Op} (h : QOp W b (off + i * 4) o) (hB : Below W.heap.size W w) : w.cell? ⟨b, off + i * 4, none⟩ = some (.int .i64 o.k) ∧ w.cell? ⟨b, off + i * 4 + 1, none⟩ = some (.int .i64 o.a) ∧ w.cell? ⟨b, off + i * 4 + 2, none⟩ = some (.int .i64 o.e) ∧ w.cell? ⟨b, off + i * 4 + 3, none⟩ = some (.int .u64 o.t) :=
  ⟨keep_cell hB h.1.1, keep_cell hB h.1.2.1, keep_cell hB h.1.2.2.1, keep_cell hB h.1.2.2.2⟩
set_option maxRecDepth 100000 in
set_option maxHeartbeats 2000000 in
theorem none_any (a : Option Addr) (len cap : Nat) (l : List opB.Op) (W : World) (h : Rs W QOp 4 a len l) : Calls Try.prog 5 #[.slice a len cap] W fun r w' => r = .returned (.bool true) ∧ Below W.heap.size W w' := by
  obtain ⟨hl, hm, h0⟩ := h
  have hz : ∀ wx : World, (binOp .neq 22 (hV z9) (hV z9)).run Try.prog wx = .ok (.bool false) wx := fun wx => by
    go_simp
    unfold b4
    simp
  rcases h0 with h0 | ⟨b, off, rfl, hb, hq⟩
  · subst h0
    go_enter Try.func5, Try.ntmps5
    go_wp2
    go_loopw [4] (fun i wr => i = .int .i64 0 ∧ wr = W) (fun i _ => 50 - (intOf i).toNat)
    case atStart => exact ⟨rfl, rfl⟩
    case round =>
      obtain ⟨rfl, rfl⟩ := hrel
      go_wp2_with (fail)
      refine (awake_any _).mono ?_
      rintro e w2 ⟨rfl, hB⟩
      replace hB := Lib.hid hB
      go_wp2
      go_ret
      exact ⟨rfl, hB.out⟩
  · have hq' := Lib.hid hq
    clear hq
    have hl' := Lib.hid hl
    clear hl
    go_enter Try.func5, Try.ntmps5
    go_wp2
    go_loopw [4] (fun i wr => ∃ j : Nat, i = .int .i64 j ∧ j ≤ len ∧ j ≤ 50 ∧ Hid (Below W.heap.size W wr)) (fun i _ => 50 - (intOf i).toNat)
    case atStart => exact ⟨0, rfl, by omega, by omega, Lib.hid (Below.refl _ _)⟩
    case round =>
      obtain ⟨j, rfl, hj, hj5, hB⟩ := hrel
      by_cases h1 : j < len
      · by_cases h2 : j < 50
        · have hQ := hq'.out j h1
          obtain ⟨k0, k1, k2, k3⟩ := op_at hQ hB.out
          generalize l.getD j default = o at *
          go_wp2_with (fail)
          refine (do_nil o _).mono ?_
          rintro e w1 ⟨rfl, hB1⟩
          have hB2 := Lib.hid (trans0 hB.out hB1)
          clear k0 k1 k2 k3 hB hB1
          obtain ⟨k0, k1, k2, k3⟩ := op_at hQ hB2.out
          have hk : o.k = 3 ∨ o.k = 4 ∨ (o.k ≠ 3 ∧ o.k ≠ 4) := by omega
          have e1 := Lib.hid (show nlE o = if o.k = 3 ∨ o.k = 4 then 1 else 0 from rfl)
          generalize o.k = k at *
          rcases hk with rfl | rfl | ⟨hk3, hk4⟩
          · rw [e1.out, if_pos (.inl rfl)]
            go_wp2_with (fail)
            refine (local_nil _).mono ?_
            rintro e w2 ⟨rfl, rfl⟩
            go_wp2_with (fail)
            refine (applied_nil _).mono ?_
            rintro e w3 ⟨rfl, rfl⟩
            go_wp2_with (fail)
            refine (stable_nil _).mono ?_
            rintro e w4 ⟨rfl, rfl⟩
            go_wp2_with (fail)
            refine (members_nil _).mono ?_
            rintro e w5 ⟨rfl, hB5⟩
            have hB6 := Lib.hid (trans0 hB2.out hB5)
            clear hB5 hB2 k0 k1 k2 k3
            go_wp2
            go_roundw
            case rel => exact ⟨j + 1, by go_num, by omega, by omega, hB6⟩
            case measure => simp [intOf]; omega
          · rw [e1.out, if_pos (.inr rfl)]
            go_wp2_with (fail)
            refine (local_nil _).mono ?_
            rintro e w2 ⟨rfl, rfl⟩
            go_wp2_with (fail)
            refine (applied_nil _).mono ?_
            rintro e w3 ⟨rfl, rfl⟩
            go_wp2_with (fail)
            refine (stable_nil _).mono ?_
            rintro e w4 ⟨rfl, rfl⟩
            go_wp2_with (fail)
            refine (members_nil _).mono ?_
            rintro e w5 ⟨rfl, hB5⟩
            have hB6 := Lib.hid (trans0 hB2.out hB5)
            clear hB5 hB2 k0 k1 k2 k3
            go_wp2
            go_roundw
            case rel => exact ⟨j + 1, by go_num, by omega, by omega, hB6⟩
            case measure => simp [intOf]; omega
          · rw [e1.out, if_neg (by omega)]
            have b3 : (k == 3) = false := by simpa using hk3
            have b4 : (k == 4) = false := by simpa using hk4
            go_wp2_with (fail)
            refine (local_nil _).mono ?_
            rintro e w2 ⟨rfl, rfl⟩
            go_wp2_with (fail)
            refine (applied_nil _).mono ?_
            rintro e w3 ⟨rfl, rfl⟩
            go_wp2_with (fail)
            refine (stable_nil _).mono ?_
            rintro e w4 ⟨rfl, rfl⟩
            go_wp2_with (fail)
            refine (members_nil _).mono ?_
            rintro e w5 ⟨rfl, hB5⟩
            have hB6 := Lib.hid (trans0 hB2.out hB5)
            clear hB5 hB2 k0 k1 k2 k3
            go_wp2
            go_roundw
            case rel => exact ⟨j + 1, by go_num, by omega, by omega, hB6⟩
            case measure => simp [intOf]; omega
        · obtain rfl : j = 50 := by omega
          go_wp2_with (fail)
          refine (awake_any _).mono ?_
          rintro e w2 ⟨rfl, hB2⟩
          have hB3 := Lib.hid (trans0 hB.out hB2)
          go_wp2
          go_ret
          exact ⟨rfl, hB3.out⟩
      · obtain rfl : j = len := by omega
        go_wp2_with (fail)
        refine (awake_any _).mono ?_
        rintro e w2 ⟨rfl, hB2⟩
        have hB3 := Lib.hid (trans0 hB.out hB2)
        go_wp2
        go_ret
        exact ⟨rfl, hB3.out⟩
end Go.Proofs.Ytmhflemmkoiffaa.stbN
