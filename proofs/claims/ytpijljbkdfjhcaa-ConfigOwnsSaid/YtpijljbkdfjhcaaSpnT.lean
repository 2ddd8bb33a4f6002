/- The document's Same, of two maps that are the same. -/
import Derived.Test.YtpijljbkdfjhcaaSpnS
import Derived.Test.YtpijljbkdfjhcaaSpnG
import Derived.Deep.QuietTactic
import Derived.BigQuiet
set_option linter.unusedVariables false
namespace Go.Proofs.Ytpijljbkdfjhcaa.spnT
open Go.ChangeShapes Go.WideShapes Go.ChangeAt Go.RowKit
open spnM spnA spnB spnC spnN spnP spnD spnE spnF spnH spnI spnS
attribute [local go_sem high] bin_slt bin_sle bin_sge bin_seq bin_sne

theorem below_drewN {B : Nat} {w w1 : World} (h : Below B w w1) (n : Nat) : Below B w (w1.drewN n) := ⟨h.os, h.tape, h.output, h.size, h.block⟩
set_option maxRecDepth 100000 in
set_option maxHeartbeats 1000000 in
theorem same_any (A1 : Option Addr) (c1 : Nat) (A2 : Option Addr) (c2 : Nat) (D1 : Option Addr) (d1 : Nat) (D2 : Option Addr) (d2 : Nat) (m : M) (w : World) (h : HM w A1 c1 A2 c2 m) (h' : HM w D1 d1 D2 d2 m) :
    Calls Try.prog 23 #[.agg #[.slice A1 m.cs.length c1, .slice A2 m.ns.length c2], .agg #[.slice D1 m.cs.length d1, .slice D2 m.ns.length d2]] w fun e w' => e = .returned (.bool true) ∧ Below w.heap.size w w' := by
  have hs1 : m.cs.length ≤ 140737488351232 := by have := h.s1; omega
  have hs2 : m.ns.length ≤ 140737488351232 := by have := h.s2; omega
  have hb1 := MB.new h
  have hB1 := al0 w (.cells #[.slice A1 m.cs.length c1, .slice A2 m.ns.length c2] 26)
  have hb2 := MB.new (h'.below hB1)
  have hB2 := al0 (w.alloc (.cells #[.slice A1 m.cs.length c1, .slice A2 m.ns.length c2] 26)) (.cells #[.slice D1 m.cs.length d1, .slice D2 m.ns.length d2] 26)
  have hb3 := hb1.below hB2
  have hal := trans0 hB1 hB2
  rw [World.size_alloc] at hb2
  obtain ⟨W, hW⟩ : ∃ W, (w.alloc (.cells #[.slice A1 m.cs.length c1, .slice A2 m.ns.length c2] 26)).alloc (.cells #[.slice D1 m.cs.length d1, .slice D2 m.ns.length d2] 26) = W := ⟨_, rfl⟩
  rw [hW] at hb2 hb3 hal
  replace hb2 := Lib.hid hb2
  replace hb3 := Lib.hid hb3
  replace hal := Lib.hid hal
  replace hW := Lib.hid hW
  obtain ⟨u0, u1, -⟩ := hb3.out
  obtain ⟨v0, v1, -⟩ := hb2.out
  clear h h' hb1 hB1 hB2
  go_enter Try.func23, Try.ntmps23
  go_wp2
  rw [hW.out]
  clear u0 u1 v0 v1
  go_loopw [5] (fun i wr => ∃ j : Nat, j ≤ m.cs.length ∧ i = .int .i64 j ∧ Below W.heap.size W wr) (fun i _ => m.cs.length - (intOf i).toNat)
  case atStart => exact ⟨0, Nat.zero_le _, rfl, Below.refl _ _⟩
  case round =>
    obtain ⟨j, hj, rfl, hB⟩ := hrel
    obtain ⟨u0, u1, hu⟩ := hb3.out.below hB
    obtain ⟨v0, v1, hv⟩ := hb2.out.below hB
    by_cases hlt : j < m.cs.length
    · obtain ⟨b, off, rfl, hb, hc⟩ := hu.cs.at hlt
      obtain ⟨b', off', rfl, hb', hc'⟩ := hv.cs.at hlt
      have k1 := hc j hlt
      have k2 := hc' j hlt
      have hj0 : (0 : Int) ≤ (j : Int) := by omega
      have hj1 : (j : Int) < (m.cs.length : Int) := by omega
      have hsq := seq_self (nt m.cs j)
      clear hc hc' hu hv
      generalize nt m.cs j = x at *
      replace hB := Lib.hid hB
      go_wp2
      go_quiet (fail)
      go_wp2
      go_roundw
      case rel => exact ⟨j + 1, by omega, by go_num, below_drewN hB.out _⟩
      case measure => simp [intOf]; omega
    · obtain rfl : j = m.cs.length := by omega
      clear hu hv
      have hB' := Lib.hid hB
      clear hB
      go_wp2
      clear u0 u1 v0 v1
      obtain ⟨w6, hw6⟩ : ∃ w6 : World, w6 = wr := ⟨_, rfl⟩
      subst hw6
      go_loopw [6] (fun i wr => ∃ j : Nat, j ≤ m.ns.length ∧ i = .int .i64 j ∧ Below W.heap.size W wr) (fun i _ => m.ns.length - (intOf i).toNat)
      case atStart => exact ⟨0, Nat.zero_le _, rfl, hB'.out⟩
      case round =>
        obtain ⟨j, hj, rfl, hB⟩ := hrel
        obtain ⟨u0, u1, hu⟩ := hb3.out.below hB
        obtain ⟨v0, v1, hv⟩ := hb2.out.below hB
        by_cases hlt : j < m.ns.length
        · obtain ⟨b, off, rfl, hb, hc⟩ := hu.ns.at hlt
          obtain ⟨b', off', rfl, hb', hc'⟩ := hv.ns.at hlt
          have k1 := hc j hlt
          have k2 := hc' j hlt
          have hj0 : (0 : Int) ≤ (j : Int) := by omega
          have hj1 : (j : Int) < (m.ns.length : Int) := by omega
          clear hc hc' hu hv
          generalize nt m.ns j = x at *
          replace hB := Lib.hid hB
          go_wp2
          go_quiet (fail)
          go_wp2
          go_roundw
          case rel => exact ⟨j + 1, by omega, by go_num, below_drewN hB.out _⟩
          case measure => simp [intOf]; omega
        · obtain rfl : j = m.ns.length := by omega
          clear hu hv
          have hB' := Lib.hid hB
          clear hB
          go_wp2
          go_ret
          exact ⟨rfl, trans0 hal.out hB'.out⟩
end Go.Proofs.Ytpijljbkdfjhcaa.spnT
