/- The contract of the laws' Of: a chain of any list's versions. -/
import Derived.Test.YtbmaaonjohcgbaaChnP
import Derived.Test.YtbmaaonjohcgbaaChnT
set_option linter.unusedVariables false
namespace Go.Proofs.Ytbmaaonjohcgbaa.chnS
open Go.ChangeShapes Go.WideShapes Go.ChangeAt Go.RowKit Go.Deep
open opV chnM gen chnA chnB chnR chnC chnD chnE chnF chnG chnI chnJ chnK chnL chnN chnO chnOg chnP chnT

theorem of_0 {l : List Ver} {j : Nat} (h : putE (ofJ l j) (nt l j) = 0) : put (ofJ l j) (nt l j) = ofJ l (j + 1) := by
  show _ = (if _ then _ else _); rw [if_pos h]
theorem of_n {l : List Ver} {j : Nat} (h : putE (ofJ l j) (nt l j) ≠ 0) : ofJ l j = ofJ l (j + 1) := by
  show _ = (if _ then _ else _); rw [if_neg h]
set_option maxRecDepth 100000 in
set_option maxHeartbeats 2000000 in
theorem lof_any (A : Option Addr) (c : Nat) (l : List Ver) (w : World) (h : HV w A c l) :
    Calls Try.prog 23 #[.slice A l.length c] w (RV (ofL l) w) := by
  have hl9 : l.length ≤ 9223372036854775807 := Nat.le_trans h.le h.top
  obtain ⟨R, hR⟩ : ∃ R, ofL l = R := ⟨_, rfl⟩
  rw [hR]
  replace hR := Lib.hid hR
  replace h := Lib.hid h
  go_enter Try.func23, Try.ntmps23
  go_wp2
  go_loopw [3, 4] (fun s i wr => ∃ (j : Nat) (k : List Ver) (A' : Option Addr) (c' : Nat), j ≤ l.length ∧ j ≤ 40 ∧ s = .slice A' k.length c' ∧ i = .int .i64 j ∧ Hid (k = ofJ l j) ∧ Hid (GV wr w.heap.size A' c' k) ∧ Hid (Below w.heap.size w wr)) (fun _ i _ => l.length - (intOf i).toNat)
  case atStart => exact ⟨0, [], none, 0, by omega, by omega, rfl, rfl, Lib.hid rfl, Lib.hid (GV.nil_ _ _), Lib.hid (Below.refl _ _)⟩
  case round =>
    obtain ⟨j, k, A', c', hj, hj4, rfl, rfl, hk, hG, hB⟩ := hrel
    by_cases hlt : j < l.length ∧ j < 40
    · obtain ⟨hlt, hl4⟩ := hlt
      obtain ⟨pb, po, rfl, hpb, hc⟩ := (h.out.below hB.out).at hlt
      have hjI : (j : Int) < (l.length : Int) := by omega
      have hj4I : (j : Int) < 40 := by omega
      have hkl : k.length ≤ j := by rw [hk.out]; exact ofJ_len l j
      have hpu := rput_any A' c' k (nt l j) wr (hG.out.hv (by omega)) (by omega)
      obtain ⟨c0, c1, c2, c3, c4, c5⟩ := hc
      by_cases he : putE k (nt l j) = 0
      · have hk2 := Lib.hid (show put k (nt l j) = ofJ l (j + 1) by rw [hk.out] at he ⊢; exact of_0 he)
        rw [he, show putL k (nt l j) = put k (nt l j) by unfold putL; rw [if_pos he]] at hpu
        replace hpu := Lib.hid hpu
        clear he hk
        generalize nt l j = x at *
        generalize put k x = k9 at *
        go_wp2_with (fail)
        refine hpu.out.mono ?_
        rintro e w2 ⟨A9, c9, rfl, hG9, hB9⟩
        have hG9 := Lib.hid (hG9.more hB.out.size)
        have hB9 := Lib.hid (trans0 hB.out hB9)
        clear c0 c1 c2 c3 c4 c5 hpu hG hB
        go_wp2
        go_roundw
        case rel => exact ⟨j + 1, k9, A9, c9, by omega, by omega, rfl, by go_num, hk2, hG9, hB9⟩
        case measure => simp [intOf]; omega
      · have hk2 := Lib.hid (show k = ofJ l (j + 1) by rw [hk.out] at he ⊢; exact of_n he)
        rw [show putL k (nt l j) = [] by unfold putL; rw [if_neg he]] at hpu
        have hne : ((putE k (nt l j) : Int) == 0) = false := by rw [beq_eq_false_iff_ne]; omega
        replace hpu := Lib.hid hpu
        clear he hk
        generalize nt l j = x at *
        generalize putE k x = E at *
        go_wp2_with (fail)
        refine hpu.out.mono ?_
        rintro e w2 ⟨A9, c9, rfl, -, hB9⟩
        have hG9 := Lib.hid (hG.out.below hB9)
        have hB9 := Lib.hid (trans0 hB.out hB9)
        clear c0 c1 c2 c3 c4 c5 hpu hG hB
        go_wp2
        go_roundw
        case rel => exact ⟨j + 1, k, A', c', by omega, by omega, rfl, by go_num, hk2, hG9, hB9⟩
        case measure => simp [intOf]; omega
    · obtain rfl : k = R := by
        rw [hk.out, ← hR.out]
        unfold ofL ofN
        congr 1
        split <;> omega
      have hfin := Lib.hid (show RV k w (.returned (.slice A' k.length c')) wr from ⟨A', c', rfl, hG.out, hB.out⟩)
      by_cases hlt2 : j < l.length
      · have h40 : ¬ ((j : Int) < 40) := by omega
        have hjI : (j : Int) < (l.length : Int) := by omega
        clear hk hG hB hlt
        go_wp2
        go_ret
        exact hfin.out
      · have hjI : ¬ ((j : Int) < (l.length : Int)) := by omega
        clear hk hG hB hlt
        go_wp2
        go_ret
        exact hfin.out
end Go.Proofs.Ytbmaaonjohcgbaa.chnS
