/- The contract of settle. -/
import Derived.Test.YtmhflemmkoiffaaStbC
set_option linter.unusedVariables false
set_option linter.unusedSimpArgs false
namespace Go.Proofs.Ytmhflemmkoiffaa.stbD
open Go.ChangeShapes Go.WideShapes Go.ChangeAt Go.RowKit Go.Deep
open stVA stVB stVC stVD stVF stVH stVP stbA stbB stbC

abbrev SS (w0 : World) (p q : Nat) (s : Tb) (w : World) : Prop := (C0 p q s w ∧ CU p s.u w ∧ w.frozen? ⟨p, 21, none⟩ = false) ∧ stbA.T p q s w ∧ Below w0.heap.size w0 w
theorem SS.mk {w0 : World} {p q : Nat} {s : Tb} {w : World} (h2 : stbA.T p q s w) (hB : Below w0.heap.size w0 w) : SS w0 p q s w := ⟨⟨h2.c0, h2.cu, h2.fz 21⟩, h2, hB⟩
theorem SS.fo {w0 : World} {p q : Nat} {s : Tb} {w w1 : World} (hB : Below w.heap.size w w1) (h : SS w0 p q s w) : SS w0 p q s w1 := SS.mk (h.2.1.below hB) (trans0 h.2.2 hB)
theorem SS.T {w0 : World} {p q : Nat} {s : Tb} {w : World} (h : SS w0 p q s w) : stbA.T p q s w := h.2.1
theorem settled {w0 w1 : World} {p q : Nat} {s : Tb} {x : Int} (h : SS w0 p q s w1) (hx : mx s.st (lsO s.u s.dc (ap s)) = x) : stbA.T p q (stl s) (w1.setCell ⟨p, 21, none⟩ (.int .u64 x)) ∧ Kp p q w0 (w1.setCell ⟨p, 21, none⟩ (.int .u64 x)) := by
  have h1 := h.2.1.putS x
  have h2 : ({ s with st := x } : Tb) = stl s := by unfold stl; rw [hx]
  rw [h2] at h1
  exact ⟨h1, (Kp.of h.2.2).setCell (a := ⟨p, 21, none⟩) (.inl rfl) _⟩
set_option maxRecDepth 100000 in
set_option maxHeartbeats 1000000 in
theorem settle_any {p q : Nat} {s : Tb} (w : World) (h : stbA.T p q s w) : Calls Try.prog 23 #[.pointer (some ⟨p, 0, none⟩)] w fun r w' => r = .returned (.tuple #[]) ∧ stbA.T p q (stl s) w' ∧ Kp p q w w' := by
  have hS : Hid (SS w p q s w.drew) := Lib.hid (SS.mk h.drew (below_drew w))
  clear h
  have hx := Lib.hid (fun (w1 : World) (h1 : SS w p q s w1) (x : Int) => settled (x := x) h1)
  obtain ⟨⟨b0, b1, b2, b3⟩, ⟨u0, u1, u2, u3, u4, u5, u6, u7, u8⟩, fz⟩ := hS.out.1
  have hA := Lib.hid (applied_any (s := s) (w.drew) hS.out.2.1)
  have hL := Lib.hid (fun w (h : stbA.T p q s w) => mleast_any (s := s) s.u (ap s) w h)
  obtain ⟨R, hR⟩ : ∃ R, lsO s.u s.dc (ap s) = R := ⟨_, rfl⟩
  rw [hR] at hx hL
  obtain ⟨a, ha⟩ : ∃ a, ap s = a := ⟨_, rfl⟩
  rw [ha] at hL hA
  clear hR ha
  by_cases hlt : s.st < R
  · replace hx := Lib.hid (fun w1 h1 => hx.out w1 h1 R (by unfold mx; rw [if_pos hlt]))
    go_enter Try.func23, Try.ntmps23
    go_upto_region 0 with (fail)
    go_region_law (first
      | (go_simp; go_at_call 9; ((with_reducible refine hA.out.mono ?_); rintro e w1 ⟨rfl, hB1⟩); have hS1 := Lib.hid (SS.fo hB1 hS.out); obtain ⟨⟨k0, k1, k2, k3⟩, ⟨v0, v1, v2, v3, v4, v5, v6, v7, v8⟩, fz1⟩ := hS1.out.1)
      | (go_simp; go_at_call 19; ((with_reducible refine (hL.out _ hS1.out.2.1).mono ?_); rintro e w2 ⟨rfl, hB2⟩); have hS2 := Lib.hid (SS.fo hB2 hS1.out); obtain ⟨⟨m0, m1, m2, m3⟩, -, fz2⟩ := hS2.out.1)
      | fail)
    all_goals
      go_end0
      exact ⟨rfl, hx.out _ hS2.out⟩
  · replace hx := Lib.hid (fun w1 h1 => hx.out w1 h1 s.st (by unfold mx; rw [if_neg hlt]))
    go_enter Try.func23, Try.ntmps23
    go_upto_region 0 with (fail)
    go_region_law (first
      | (go_simp; go_at_call 9; ((with_reducible refine hA.out.mono ?_); rintro e w1 ⟨rfl, hB1⟩); have hS1 := Lib.hid (SS.fo hB1 hS.out); obtain ⟨⟨k0, k1, k2, k3⟩, ⟨v0, v1, v2, v3, v4, v5, v6, v7, v8⟩, fz1⟩ := hS1.out.1)
      | (go_simp; go_at_call 19; ((with_reducible refine (hL.out _ hS1.out.2.1).mono ?_); rintro e w2 ⟨rfl, hB2⟩); have hS2 := Lib.hid (SS.fo hB2 hS1.out); obtain ⟨⟨m0, m1, m2, m3⟩, -, fz2⟩ := hS2.out.1)
      | fail)
    all_goals
      go_end0
      exact ⟨rfl, hx.out _ hS2.out⟩
end Go.Proofs.Ytmhflemmkoiffaa.stbD
