/- The contracts of slices.BinarySearchFunc by marks, of sort.Search by the bound. -/
import Derived.Test.YtipnmgihbpbonaaOrdM
import Derived.Test.YtipnmgihbpbonaaOrdB
import Derived.Deep.DeepCutAuto
import Derived.Deep.CutBlock
import Derived.Deep.CutRange
set_option linter.unusedVariables false
set_option linter.unusedSimpArgs false
set_option maxRecDepth 100000
namespace Go.Proofs.Ytipnmgihbpbonaa.ordD
open Go.ChangeShapes Go.WideShapes Go.ChangeAt Go.RowKit Go.Deep
open opV chnM gen chnA chnR chnE ordA ordB ordM

theorem nt_map {l : List MR} {k : Nat} (h : k < l.length) : nt (l.map MR.r) k = (nt l k).r := by rw [nt_at (by simpa using h), nt_at h, List.getElem_map]
set_option maxHeartbeats 1000000 in
theorem bsf_any (A : Option Addr) (c : Nat) (l : List MR) (r : MR) (w : World) (h : HR w A c l) (hu : Up (l.map MR.r)) :
    Calls Try.prog 24 #[.slice A l.length c, rv r, .func (.func 25) #[] #[]] w fun e w' =>
      e = .returned (.tuple #[.int .i64 (pos (l.map MR.r) r.r), .bool (there (l.map MR.r) r.r)]) ∧ Below w.heap.size w w' := by
  have hn : l.length ≤ 2932031007403 := by have := h.sm; omega
  have hP := P4.new w r
  have hfound := Lib.hid (fun i => found (l := l.map MR.r) (r := r.r) (i := i) hu)
  have hmono := Lib.hid (fun (i k : Nat) (hik : i < k) (hk : k < l.length) => (by have := hu.lt hik (by simpa using hk); rwa [nt_map (by omega), nt_map hk] at this : isAhead (nt l i).k (nt l k).k = true))
  obtain ⟨W, hW⟩ : ∃ W, w.alloc (.cells #[.int .u64 r.ts, .int .i64 r.dc, .int .i64 r.tx, .slice r.A r.vs.length r.c] 32) = W := ⟨_, rfl⟩
  rw [hW] at hP
  have hBW : Hid (Below w.heap.size w W) := Lib.hid (by rw [← hW]; exact al0 _ _)
  replace h := Lib.hid (h.below hBW.out)
  replace hP := Lib.hid hP
  replace hW := Lib.hid hW
  obtain ⟨Q, hQ⟩ : ∃ Q, pos (l.map MR.r) r.r = Q := ⟨_, rfl⟩
  obtain ⟨T, hT⟩ : ∃ T, there (l.map MR.r) r.r = T := ⟨_, rfl⟩
  rw [hQ, hT] at hfound ⊢
  clear hQ hT hu
  go_enter Try.func24, Try.ntmps24
  go_wp2
  rw [hW.out]
  go_loopw [9, 10] (fun s t wr => ∃ i j : Nat, i ≤ j ∧ j ≤ l.length ∧ s = .int .i64 i ∧ t = .int .i64 j ∧ Hid (∀ k, k < i → isAhead (nt l k).k r.k = true) ∧ Hid (∀ k, j ≤ k → k < l.length → isAhead (nt l k).k r.k = false) ∧ Hid (Below W.heap.size W wr)) (fun s t _ => (intOf t - intOf s).toNat)
  case atStart => exact ⟨0, l.length, by omega, by omega, rfl, rfl, Lib.hid (fun k hk => by omega), Lib.hid (fun k h1 h2 => by omega), Lib.hid (Below.refl _ _)⟩
  case round =>
    obtain ⟨i, j, hij, hj, rfl, rfl, h1, h2, hB⟩ := hrel
    by_cases hlt : i < j
    · obtain ⟨q, hq⟩ : ∃ q, (i + j) / 2 = q := ⟨_, rfl⟩
      have hq1 : i ≤ q ∧ q < j := by omega
      have hltI : (i : Int) < (j : Int) := by omega
      have hqI : ((i : Int) + (j : Int)) / 2 = (q : Int) := by omega
      have hqn : (q : Int) < (l.length : Int) := by omega
      have hq0 : (0 : Int) ≤ (q : Int) := by omega
      have hql : q < l.length := by omega
      obtain ⟨pb, po, rfl, hpb, hc⟩ := (h.out.below hB.out).at hql
      have hbx := (P4.below hP.out hB.out).r4
      have hS : Hid (D2 pb (po + q * 4) w.heap.size 0 (nt l q) r wr.drew ∧ Below wr.heap.size wr wr.drew) := Lib.hid ⟨⟨hc, hbx⟩, below_drew _⟩
      have hcmp := Lib.hid (compare_any (nt l q) r)
      obtain ⟨z, hz⟩ : ∃ z, cm (nt l q).k r.k = z := ⟨_, rfl⟩
      rw [hz] at hcmp
      clear hq hbx
      cases ha : isAhead (nt l q).k r.k with
      | true =>
        have hzn : z < 0 := by rw [← hz]; exact cm_lt.2 ha
        have hs' : Hid (∀ k, k < q + 1 → isAhead (nt l k).k r.k = true) := Lib.hid (fun k hk => by
          by_cases hkq : k = q
          · rw [hkq]; exact ha
          · exact ah_trans (hmono.out k q (by omega) hql) ha)
        clear hz ha h1
        generalize nt l q = x at *
        obtain ⟨c0, c1, c2, c3⟩ := hc
        go_wp2
        go_region_held3 (fun w' => D2 pb (po + q * 4) w.heap.size 0 x r w' ∧ Below wr.heap.size wr w')
          (first | with_reducible exact hS.out | with_reducible assumption | with_reducible exact ⟨D2.below (And.left (by assumption)) (by assumption), trans0 (And.right (by assumption)) (by assumption)⟩ | fail)
          (first
            | (go_at_call 25; ((with_reducible refine (hcmp.out _).mono ?_); rintro e w' ⟨rfl, hB9⟩)) | fail)
        all_goals
          rename_i hHeld
          have hB' := Lib.hid (trans0 hB.out hHeld.2)
          clear hB hHeld hS hcmp
          go_wp2
          go_roundw
          case rel => exact ⟨q + 1, j, by omega, hj, by go_num, rfl, hs', h2, hB'⟩
          case measure => simp [intOf]; omega
      | false =>
        have hzn : ¬ z < 0 := by rw [← hz]; intro h9; rw [cm_lt.1 h9] at ha; cases ha
        have hs' : Hid (∀ k, q ≤ k → k < l.length → isAhead (nt l k).k r.k = false) := Lib.hid (fun k hk hkl => by
          by_cases hkq : k = q
          · rw [hkq]; exact ha
          · cases h9 : isAhead (nt l k).k r.k
            · rfl
            · rw [ah_trans (hmono.out q k (by omega) hkl) h9] at ha; cases ha)
        clear hz ha h2
        generalize nt l q = x at *
        obtain ⟨c0, c1, c2, c3⟩ := hc
        go_wp2
        go_region_held3 (fun w' => D2 pb (po + q * 4) w.heap.size 0 x r w' ∧ Below wr.heap.size wr w')
          (first | with_reducible exact hS.out | with_reducible assumption | with_reducible exact ⟨D2.below (And.left (by assumption)) (by assumption), trans0 (And.right (by assumption)) (by assumption)⟩ | fail)
          (first
            | (go_at_call 25; ((with_reducible refine (hcmp.out _).mono ?_); rintro e w' ⟨rfl, hB9⟩)) | fail)
        all_goals
          rename_i hHeld
          have hB' := Lib.hid (trans0 hB.out hHeld.2)
          clear hB hHeld hS hcmp
          go_wp2
          go_roundw
          case rel => exact ⟨i, q, by omega, by omega, rfl, rfl, h1, hs', hB'⟩
          case measure => simp [intOf]; omega
    · obtain rfl : i = j := by omega
      have hf := hfound.out i (by simpa using hj) (fun k hk => by rw [nt_map (by omega)]; exact h1.out k hk) (fun k h3 h4 => by rw [nt_map (by simpa using h4)]; exact h2.out k h3 (by simpa using h4))
      obtain ⟨hf1, hf2⟩ := hf
      subst hf1
      have hBw := Lib.hid (trans0 hBW.out hB.out)
      clear hfound hmono h1 h2
      by_cases hin : i < l.length
      · have hinI : (i : Int) < (l.length : Int) := by omega
        obtain ⟨pb, po, rfl, hpb, hc⟩ := (h.out.below hB.out).at hin
        have hbx := (P4.below hP.out hB.out).r4
        have hS : Hid (D2 pb (po + i * 4) w.heap.size 0 (nt l i) r wr.drew ∧ Below wr.heap.size wr wr.drew) := Lib.hid ⟨⟨hc, hbx⟩, below_drew _⟩
        have hcmp := Lib.hid (compare_any (nt l i) r)
        have hTz : T = (cm (nt l i).k r.k == 0) := by
          rw [nt_map hin] at hf2
          by_cases h9 : cm (nt l i).k r.k = 0
          · rw [h9]; exact hf2.2 ⟨by simpa using hin, cm_zero.1 h9⟩
          · rw [beq_false_of_ne h9]
            cases hT : T
            · rfl
            · exact absurd (cm_zero.2 (hf2.1 hT).2) h9
        clear hf2 hbx
        generalize cm (nt l i).k r.k = z at *
        generalize nt l i = x at *
        obtain ⟨c0, c1, c2, c3⟩ := hc
        go_wp2
        go_region_held3 (fun w' => D2 pb (po + i * 4) w.heap.size 0 x r w' ∧ Below wr.heap.size wr w')
          (first | with_reducible exact hS.out | with_reducible assumption | with_reducible exact ⟨D2.below (And.left (by assumption)) (by assumption), trans0 (And.right (by assumption)) (by assumption)⟩ | fail)
          (first
            | (go_at_call 25; ((with_reducible refine (hcmp.out _).mono ?_); rintro e w' ⟨rfl, hB9⟩)) | fail)
        all_goals
          rename_i hHeld
          have hB' := Lib.hid (trans0 hBw.out hHeld.2)
          replace hTz := Lib.hid hTz
          clear hB hHeld hS hcmp
          go_wp2
          go_ret2
          exact ⟨by rw [hTz.out]; rfl, hB'.out⟩
      · have hT : T = false := by
          cases hT : T
          · rfl
          · exact absurd (hf2.1 hT).1 (by simpa using hin)
        have hinI : ¬ (i : Int) < (l.length : Int) := by omega
        clear hf2
        subst hT
        have hB2 := Lib.hid (fun n => bdrN n hBw.out)
        clear hB
        go_wp2
        go_quiet (fail)
        go_wp2
        go_ret2
        exact ⟨rfl, hB2.out _⟩
end Go.Proofs.Ytipnmgihbpbonaa.ordD
