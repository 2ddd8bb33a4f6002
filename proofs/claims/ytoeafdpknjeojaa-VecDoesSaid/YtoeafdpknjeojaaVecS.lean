/- VecRises. -/
import Derived.Test.YtoeafdpknjeojaaVecR
set_option linter.unusedVariables false
set_option linter.unusedSimpArgs false
namespace Go.Proofs.Ytoeafdpknjeojaa.vecS
open Go.ChangeShapes Go.WideShapes Go.ChangeAt Go.RowKit Go.Deep
open vecA vecB vecC vecD vecE vecF vecG vecH vecI vecJ vecK vecP vecR

/-- one box -/
abbrev S1 (w0 : World) (v : V) (w : World) : Prop := V9 w0.heap.size v w ∧ R9 T9 w0.heap.size v w ∧ Below w0.heap.size w0 w
theorem S1.mk {w0 w : World} {v : V} (h : R9 T9 w0.heap.size v w) (hB : Below w0.heap.size w0 w) : S1 w0 v w := ⟨R9.v9 h, h, hB⟩
theorem S1.fo {w0 w w1 : World} {v : V} (hB : Below w.heap.size w w1) (h : S1 w0 v w) : S1 w0 v w1 := S1.mk (R9.below h.2.1 hB) (trans0 h.2.2 hB)
theorem isM_case (v : V) (dc : Int) : (dc < 0 ∧ isM v dc = false) ∨ (3 < dc ∧ isM v dc = false) ∨ ∃ j : Nat, dc = j ∧ j < 4 ∧ isM v dc = hb v j := by
  by_cases h1 : dc < 0
  · refine .inl ⟨h1, ?_⟩; unfold isM; rw [if_neg (by omega)]
  · by_cases h2 : 3 < dc
    · refine .inr (.inl ⟨h2, ?_⟩); unfold isM; rw [if_neg (by omega)]
    · refine .inr (.inr ⟨dc.toNat, by omega, by omega, ?_⟩)
      unfold isM; rw [if_pos (by omega)]
set_option maxRecDepth 100000 in
set_option maxHeartbeats 4000000 in
theorem rises_any (v : V) (dc t ep : Int) (w : World) : Calls Try.prog 6 #[vV v, .int .i64 dc, .int .u64 t, .int .i64 ep] w fun r w' => r = .returned (.bool true) ∧ Below w.heap.size w w' := by
  have hS : Hid (S1 w v (w.alloc (.cells #[.int .i64 v.e, .bool v.h0, .bool v.h1, .bool v.h2, .bool v.h3, .int .u64 v.t0, .int .u64 v.t1, .int .u64 v.t2, .int .u64 v.t3] 26))) := Lib.hid (S1.mk (R9.new w v _) (al0 w _))
  obtain ⟨r, hr⟩ : ∃ r, rsV v dc t = r := ⟨_, rfl⟩
  have hmo := rs_mono v dc t
  rw [hr] at hmo
  have kR := Lib.hid (fun wx => hr ▸ raise_any v dc t wx)
  have kL := Lib.hid (fun wx => least_any v wx)
  have kM := Lib.hid (fun wx => least_any r wx)
  have hre := Lib.hid (fun (h : isM v dc = false) => (show r = plain v by rw [← hr]; unfold rsV; rw [if_neg (by rw [h]; simp)]))
  have hls := Lib.hid (fun (j : Nat) (hj : j < 4) => @sz_less v ep j hj)
  obtain ⟨⟨x, y⟩, hxy⟩ : ∃ p, lsS v 4 = p := ⟨_, rfl⟩
  obtain ⟨⟨x', y'⟩, hxy'⟩ : ∃ p, lsS r 4 = p := ⟨_, rfl⟩
  rw [hxy, hxy'] at hmo
  simp only at hmo
  obtain ⟨rfl, hx⟩ := hmo
  have hx' : ¬ x' < x := by omega
  clear hx hr
  replace kL := kL.out
  replace kM := kM.out
  rw [hxy] at kL
  rw [hxy'] at kM
  replace hls := hls.out
  rw [hxy] at hls
  replace hls := Lib.hid hls
  replace kL := Lib.hid kL
  replace kM := Lib.hid kM
  clear hxy hxy'
  go_enter Try.func6, Try.ntmps6
  go_wp2_with (fail)
  refine (kL.out _).mono ?_
  rintro e w1 ⟨rfl, hB1⟩
  have hS1 := Lib.hid (S1.fo hB1 hS.out)
  clear hB1 hS
  obtain ⟨c0, c1, c2, c3, c4, c5, c6, c7, c8⟩ := hS1.out.1
  go_wp2_with (fail)
  refine (kR.out _).mono ?_
  rintro e w2 ⟨rfl, hB2⟩
  have hS2 := Lib.hid (S1.fo hB2 hS1.out)
  clear hB2 hS1 c0 c1 c2 c3 c4 c5 c6 c7 c8
  go_wp2_with (fail)
  refine (kM.out _).mono ?_
  rintro e w3 ⟨rfl, hB3⟩
  have hS3 := Lib.hid (S1.fo hB3 hS2.out)
  clear hB3 hS2
  have hdr := Lib.hid (S1.fo (below_drew w3) hS3.out)
  rcases isM_case v dc with ⟨h1, h2⟩ | ⟨h1, h2⟩ | ⟨j, rfl, hj, h2⟩
  · skip
    have hrp := hre.out h2
    subst hrp
    have e1 : ∀ wx, (binOp .eql 26 (vV (plain v)) (vV (plain v))).run Try.prog wx = .ok (.bool true) wx := fun wx => by rw [eql_p]; simp
    clear hre hls h2 kL kM
    go_upto_region 6 with (fail)
    go_region_held3 (S1 w v)
      (first | with_reducible exact hdr.out | with_reducible assumption | with_reducible exact S1.fo (by assumption) (by assumption) | (go_must (exact (0 : Nat))) | fail)
      (first
        | (go_at_call 13; ((with_reducible refine (awake_any _).mono ?_); rintro e w' ⟨rfl, hB9⟩))
        | (go_at_call 16; ((with_reducible refine (kR.out _).mono ?_); rintro e w' ⟨rfl, hB9⟩))
        | (go_at_call 14; ((with_reducible refine (plain_any _ _).mono ?_); rintro e w' ⟨rfl, hB9⟩))
        | fail)
    rename_i hH
    have hE := Lib.hid hH.2.2
    clear hH hB9
    go_wp2
    go_ret
    exact ⟨rfl, hE.out⟩
  · skip
    have hrp := hre.out h2
    subst hrp
    have e1 : ∀ wx, (binOp .eql 26 (vV (plain v)) (vV (plain v))).run Try.prog wx = .ok (.bool true) wx := fun wx => by rw [eql_p]; simp
    clear hre hls h2 kL kM
    go_upto_region 6 with (fail)
    go_region_held3 (S1 w v)
      (first | with_reducible exact hdr.out | with_reducible assumption | with_reducible exact S1.fo (by assumption) (by assumption) | (go_must (exact (0 : Nat))) | fail)
      (first
        | (go_at_call 13; ((with_reducible refine (awake_any _).mono ?_); rintro e w' ⟨rfl, hB9⟩))
        | (go_at_call 16; ((with_reducible refine (kR.out _).mono ?_); rintro e w' ⟨rfl, hB9⟩))
        | (go_at_call 14; ((with_reducible refine (plain_any _ _).mono ?_); rintro e w' ⟨rfl, hB9⟩))
        | fail)
    rename_i hH
    have hE := Lib.hid hH.2.2
    clear hH hB9
    go_wp2
    go_ret
    exact ⟨rfl, hE.out⟩
  · have hcj : w3.cell? ⟨w.heap.size, 1 + j, none⟩ = some (.bool (hb v j)) := R9.hcell hS3.out.2.1 hj
    rw [h2] at hre
    cases hh : hb v j
    · rw [hh] at hcj
      have hrp := hre.out hh
      subst hrp
      have e1 : ∀ wx, (binOp .eql 26 (vV (plain v)) (vV (plain v))).run Try.prog wx = .ok (.bool true) wx := fun wx => by rw [eql_p]; simp
      clear hre hls h2 hh kL kM
      go_upto_region 6 with (fail)
      go_region_held3 (S1 w v)
        (first | with_reducible exact hdr.out | with_reducible assumption | with_reducible exact S1.fo (by assumption) (by assumption) | (go_must (exact (0 : Nat))) | fail)
        (first
          | (go_at_call 13; ((with_reducible refine (awake_any _).mono ?_); rintro e w' ⟨rfl, hB9⟩))
          | (go_at_call 16; ((with_reducible refine (kR.out _).mono ?_); rintro e w' ⟨rfl, hB9⟩))
          | (go_at_call 14; ((with_reducible refine (plain_any _ _).mono ?_); rintro e w' ⟨rfl, hB9⟩))
          | fail)
      rename_i hH
      have hE := Lib.hid hH.2.2
      clear hH hB9
      go_wp2
      go_ret
      exact ⟨rfl, hE.out⟩
    · rw [hh] at hcj
      clear hre h2 hdr kR kM
      obtain ⟨c0, c1, c2, c3, c4, c5, c6, c7, c8⟩ := hS3.out.1
      have hlt : w.heap.size < w3.heap.size := hS3.out.2.1.lt
      have hG : Hid (R4 w3.heap.size v (w3.alloc (.cells (aH v) 22))) := Lib.hid (R4.new w3 v)
      have hX : Hid (S1 w v (w3.alloc (.cells (aH v) 22))) := Lib.hid (S1.fo (al0 _ _) hS3.out)
      go_upto_region 8 with (fail)
      obtain ⟨p, hp⟩ : ∃ p, w3.heap.size = p := ⟨_, rfl⟩
      obtain ⟨X, hXX⟩ : ∃ X, w3.alloc (.cells (aH v) 22) = X := ⟨_, rfl⟩
      rw [hXX] at hG hX
      rw [hp] at hG hlt
      change w3.alloc (.cells #[.bool v.h0, .bool v.h1, .bool v.h2, .bool v.h3] 22) = X at hXX
      rw [hXX, hp]
      clear hXX hp hS3 hcj c0 c1 c2 c3 c4 c5 c6 c7 c8
      have hcx : X.cell? ⟨p, j, none⟩ = some (.bool (hb v j)) := R4.hcell hG.out hj
      have hfx : X.frozen? ⟨p, j, none⟩ = false := hG.out.frozen _
      have hG1 : Hid (R4 p (putH v j false) (X.setCell ⟨p, j, none⟩ (.bool false))) := Lib.hid (R4.putH hG.out hj false)
      have hX1 : Hid (S1 w v (X.setCell ⟨p, j, none⟩ (.bool false))) := Lib.hid (S1.mk (hX.out.2.1.setOther (a := ⟨p, j, none⟩) (by show _ ≠ p; omega) _) (hX.out.2.2.setCell (p := ⟨p, j, none⟩) (by show _ ≤ p; omega) _))
      obtain ⟨c0, c1, c2, c3, c4, c5, c6, c7, c8⟩ := hX1.out.1
      obtain ⟨g0, g1, g2, g3⟩ := R4.cells hG1.out
      have hnn : Hid (tt (szV v ep (putH v j false)) j = 0) := Lib.hid (sz_none hj)
      have hl := Lib.hid (hls.out j hj)
      generalize putH v j false = g at *
      clear hh hG hX
      go_wp2_with (fail)
      refine (resize_any v ep g _).mono ?_
      rintro e w5 ⟨rfl, hB5⟩
      have hS5 := Lib.hid (S1.fo hB5 hX1.out)
      clear hB5 hX1 hG1 c0 c1 c2 c3 c4 c5 c6 c7 c8 g0 g1 g2 g3 hcx hfx
      unfold szR szE
      by_cases hep : ep ≤ v.e
      · rw [if_pos hep, if_pos hep]
        have hS6 := Lib.hid (S1.fo (al0 w5 (.cells (aV z9) 26)) hS5.out)
        obtain ⟨c0, -⟩ := hS6.out.1
        go_wp2_with (fail)
        refine (awake_any _).mono ?_
        rintro e w7 ⟨rfl, hB7⟩
        have hS7 := Lib.hid (S1.fo hB7 hS6.out)
        clear hB7 hS6 hS5 c0
        obtain ⟨c0, -⟩ := hS7.out.1
        go_wp2
        go_ret
        exact ⟨rfl, hS7.out.2.2⟩
      · rw [if_neg hep, if_neg hep]
        obtain ⟨n, hn⟩ : ∃ n, szV v ep g = n := ⟨_, rfl⟩
        obtain ⟨⟨c, st⟩, hc⟩ : ∃ q, lsS n 4 = q := ⟨_, rfl⟩
        have kN := least_any n
        rw [hc] at kN
        replace kN := Lib.hid kN
        have hl2 := hl.out
        rw [hn, hc] at hl2
        rw [hn] at hnn
        rw [hn]
        clear hl hn hc hls
        have hq : Hid (w.heap.size < w5.heap.size) := Lib.hid hS5.out.2.1.lt
        have hN6 := Lib.hid (R9.new w5 n 26)
        have hS6 := Lib.hid (S1.fo (al0 w5 (.cells (aV n) 26)) hS5.out)
        go_wp2_with (fail)
        refine (kN.out _).mono ?_
        rintro e w7 ⟨rfl, hB7⟩
        have hN7 := Lib.hid (R9.below hN6.out hB7)
        have hS7 := Lib.hid (S1.fo hB7 hS6.out)
        clear hB7 hN6 hS6
        go_wp2_with (fail)
        refine (awake_any _).mono ?_
        rintro e w8 ⟨rfl, hB8⟩
        have hN8 := Lib.hid (R9.below hN7.out hB8)
        have hS8 := Lib.hid (S1.fo hB8 hS7.out)
        have hct : w8.cell? ⟨w5.heap.size, 5 + j, none⟩ = some (.int .u64 0) := by have h := R9.tcell hN8.out hj; rw [hnn.out] at h; exact h
        clear hB8 hN7 hS7
        cases st
        · go_wp2
          go_ret
          exact ⟨rfl, hS8.out.2.2⟩
        · have hcx : x ≤ c := hl2 rfl
          go_wp2
          go_ret
          exact ⟨rfl, hS8.out.2.2⟩
end Go.Proofs.Ytoeafdpknjeojaa.vecS
