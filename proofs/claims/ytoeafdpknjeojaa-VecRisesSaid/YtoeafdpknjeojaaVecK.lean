/- The contract of the document's own Merge. -/
import Derived.Test.YtoeafdpknjeojaaVecJ
set_option linter.unusedVariables false
set_option linter.unusedSimpArgs false
namespace Go.Proofs.Ytoeafdpknjeojaa.vecK
open Go.ChangeShapes Go.WideShapes Go.ChangeAt Go.RowKit Go.Deep
open vecA vecB vecC vecD vecE vecF vecG vecH vecI vecJ

/-- whose members the document's Merge begins with -/
def rmB (v u : V) : V := if v.e < u.e then u else v
/-- what it has made so far -/
def rmH (v u : V) (j : Nat) (i : Nat) : Bool := if v.e = u.e ∧ i < j then hb v i || hb u i else hb (rmB v u) i
def rmT (v u : V) (j : Nat) (i : Nat) : Int := if i < j then tm (rmH v u 4 i) (mx (tt (plain v) i) (tt (plain u) i)) else 0
def rmS (v u : V) (j : Nat) : V := ⟨mx v.e u.e, rmH v u j 0, rmH v u j 1, rmH v u j 2, rmH v u j 3, rmT v u j 0, rmT v u j 1, rmT v u j 2, rmT v u j 3⟩
theorem rmS_0 (v u : V) : rmS v u 0 = newV (rmB v u).e (rmB v u) := by
  have e : mx v.e u.e = (rmB v u).e := by unfold mx rmB; split <;> rfl
  simp [rmS, newV, rmH, rmT, e, hb]
theorem hb_z (v : V) (f : Nat → Bool) (h : v.h0 = f 0 ∧ v.h1 = f 1 ∧ v.h2 = f 2 ∧ v.h3 = f 3) {j : Nat} (hj : j < 4) : hb v j = f j := by
  obtain ⟨a, b, c, d⟩ := h
  rcases four hj with rfl | rfl | rfl | rfl
  · exact a
  · exact b
  · exact c
  · exact d
theorem rm_hb {v u : V} {j k : Nat} (hj : j < 4) : hb (rmS v u k) j = rmH v u k j := hb_z _ _ ⟨rfl, rfl, rfl, rfl⟩ hj
theorem rm_tt {v u : V} {j k : Nat} (hj : j < 4) : tt (rmS v u k) j = rmT v u k j := by
  rcases four hj with rfl | rfl | rfl | rfl <;> rfl
theorem mo_hb {v u : V} {j : Nat} (hj : j < 4) : hb (moV v u) j = rmH v u 4 j := by
  unfold moV rmH rmB
  by_cases h1 : u.e < v.e
  · rw [if_pos h1, if_neg (by omega), if_neg (by omega)]
  · rw [if_neg h1]
    by_cases h2 : v.e < u.e
    · rw [if_pos h2, if_neg (by omega), if_pos h2]
    · rw [if_neg h2, if_pos ⟨by omega, hj⟩]
      rcases four hj with rfl | rfl | rfl | rfl <;> rfl
theorem rmS_4 (v u : V) : rmS v u 4 = mgV v u := by
  have h0 := mo_hb (v := v) (u := u) (j := 0) (by omega)
  have h1 := mo_hb (v := v) (u := u) (j := 1) (by omega)
  have h2 := mo_hb (v := v) (u := u) (j := 2) (by omega)
  have h3 := mo_hb (v := v) (u := u) (j := 3) (by omega)
  simp only [hb] at h0 h1 h2 h3
  simp [rmS, mgV, plain, mgS, rmT, ← h0, ← h1, ← h2, ← h3, tt]
/-- behind a round's first if -/
def rmM (v u : V) (j : Nat) : V := ⟨mx v.e u.e, rmH v u (j + 1) 0, rmH v u (j + 1) 1, rmH v u (j + 1) 2, rmH v u (j + 1) 3, rmT v u j 0, rmT v u j 1, rmT v u j 2, rmT v u j 3⟩
theorem rmH_at {v u : V} {j : Nat} (hj : j < 4) : rmH v u (j + 1) j = rmH v u 4 j := by
  unfold rmH
  by_cases h : v.e = u.e
  · rw [if_pos ⟨h, by omega⟩, if_pos ⟨h, hj⟩]
  · rw [if_neg (fun e => h e.1), if_neg (fun e => h e.1)]
theorem rmH_other {v u : V} {i j : Nat} (h : i ≠ j) : rmH v u (j + 1) i = rmH v u j i := by
  unfold rmH
  by_cases h1 : v.e = u.e ∧ i < j
  · rw [if_pos h1, if_pos ⟨h1.1, by omega⟩]
  · rw [if_neg h1, if_neg]
    rintro ⟨a, b⟩
    exact h1 ⟨a, by omega⟩
theorem rmT_other {v u : V} {i j : Nat} (h : i ≠ j) : rmT v u (j + 1) i = rmT v u j i := by
  unfold rmT
  by_cases h1 : i < j
  · rw [if_pos h1, if_pos (by omega)]
  · rw [if_neg h1, if_neg (by omega)]
theorem rm_h1 {v u : V} {j : Nat} (hj : j < 4) (he : v.e = u.e) (hb' : hb u j = true) : putH (rmS v u j) j true = rmM v u j := by
  have e : rmH v u (j + 1) j = true := by unfold rmH; rw [if_pos ⟨he, by omega⟩, hb']; simp
  rcases four hj with rfl | rfl | rfl | rfl
  all_goals simp [putH, rmS, rmM, e, rmH_other]
theorem rm_h0 {v u : V} {j : Nat} (hj : j < 4) (h : v.e ≠ u.e ∨ hb u j = false) : rmS v u j = rmM v u j := by
  have e : rmH v u (j + 1) j = rmH v u j j := by
    unfold rmH
    rw [if_neg (c := v.e = u.e ∧ j < j) (by omega)]
    by_cases he : v.e = u.e
    · rcases h with h | h
      · exact absurd he h
      · rw [if_pos ⟨he, by omega⟩, h]
        unfold rmB
        rw [if_neg (by omega)]; simp
    · rw [if_neg (fun x => he x.1)]
  rcases four hj with rfl | rfl | rfl | rfl
  all_goals simp [rmS, rmM, e, rmH_other]
theorem rm_t {v u : V} {j : Nat} {g : Bool} {x y z : Int} (hj : j < 4) (hg : rmH v u 4 j = g) (hx : tt (plain v) j = x) (hy : tt (plain u) j = y) (hz : tm g (mx x y) = z) : vecB.putT (rmM v u j) j z = rmS v u (j + 1) := by
  have e : rmT v u (j + 1) j = z := by unfold rmT; rw [if_pos (by omega), hg, hx, hy]; exact hz
  rcases four hj with rfl | rfl | rfl | rfl
  all_goals simp [putT, rmS, rmM, e, rmT_other]
theorem rm_0 {v u : V} {j : Nat} (hj : j < 4) (hg : rmH v u 4 j = false) : rmM v u j = rmS v u (j + 1) := by
  have e : rmT v u (j + 1) j = rmT v u j j := by unfold rmT; rw [if_pos (by omega), hg, if_neg (by omega)]; rfl
  rcases four hj with rfl | rfl | rfl | rfl
  all_goals simp [rmS, rmM, e, rmT_other]
theorem rm_2 {n : V} {j : Nat} (hj : j < 4) (x y : Int) : vecB.putT (vecB.putT n j x) j y = vecB.putT n j y := by
  rcases four hj with rfl | rfl | rfl | rfl
  all_goals simp [putT]
theorem rm_mh {v u : V} {j : Nat} (hj : j < 4) : hb (rmM v u j) j = rmH v u 4 j := by
  rw [← rmH_at hj]; exact hb_z _ (rmH v u (j + 1)) ⟨rfl, rfl, rfl, rfl⟩ hj
/-- the four boxes -/
abbrev D3 (s : Nat) (v u : V) (w : World) : Prop := R9 30 s v w ∧ R9 30 (s + 1) u w ∧ R9 30 (s + 2) z9 w
theorem D3.below {s : Nat} {v u : V} {w w1 : World} (h : D3 s v u w) (hB : Below w.heap.size w w1) : D3 s v u w1 := ⟨R9.below h.1 hB, R9.below h.2.1 hB, R9.below h.2.2 hB⟩
abbrev D4 (s p : Nat) (v u n : V) (w : World) : Prop := D3 s v u w ∧ R9 30 p n w
theorem D3.put1 {s : Nat} {v u : V} {w : World} (h : D3 s v u w) (v' : V) : D3 s v' u (put9 w s v') := ⟨R9.put9 h.1 v', R9.other9 h.2.1 (by omega) v', R9.other9 h.2.2 (by omega) v'⟩
theorem D3.put2 {s : Nat} {v u : V} {w : World} (h : D3 s v u w) (u' : V) : D3 s v u' (put9 w (s + 1) u') := ⟨R9.other9 h.1 (by omega) u', R9.put9 h.2.1 u', R9.other9 h.2.2 (by omega) u'⟩
theorem D4.putT {s p : Nat} {v u n : V} {w : World} (h : D4 s p v u n w) (hp : s + 3 ≤ p) {j : Nat} (hj : j < 4) (x : Int) : D4 s p v u (vecB.putT n j x) (w.setCell ⟨p, 5 + j, none⟩ (.int .u64 x)) :=
  ⟨⟨h.1.1.setOther (a := ⟨p, 5 + j, none⟩) (by show s ≠ p; omega) _, h.1.2.1.setOther (a := ⟨p, 5 + j, none⟩) (by show s + 1 ≠ p; omega) _, h.1.2.2.setOther (a := ⟨p, 5 + j, none⟩) (by show s + 2 ≠ p; omega) _⟩, R9.putT h.2 hj x⟩
theorem D4.putH {s p : Nat} {v u n : V} {w : World} (h : D4 s p v u n w) (hp : s + 3 ≤ p) {j : Nat} (hj : j < 4) (x : Bool) : D4 s p v u (vecB.putH n j x) (w.setCell ⟨p, 1 + j, none⟩ (.bool x)) :=
  ⟨⟨h.1.1.setOther (a := ⟨p, 1 + j, none⟩) (by show s ≠ p; omega) _, h.1.2.1.setOther (a := ⟨p, 1 + j, none⟩) (by show s + 1 ≠ p; omega) _, h.1.2.2.setOther (a := ⟨p, 1 + j, none⟩) (by show s + 2 ≠ p; omega) _⟩, R9.putH h.2 hj x⟩
set_option maxRecDepth 100000 in
set_option maxHeartbeats 4000000 in
theorem rmerge_any (v u : V) (w : World) : Calls Try.prog 19 #[vV v, vV u] w fun r w' => r = .returned (vV (mgV v u)) ∧ Below w.heap.size w w' := by
  have hS : Hid (D3 w.heap.size v u (((w.alloc (.cells (aV v) 30)).alloc (.cells (aV u) 30)).alloc (.cells (aV z9) 30))) := Lib.hid ⟨((R9.new w v 30).alloc (.cells (aV u) 30)).alloc (.cells (aV z9) 30), by have h := (R9.new (w.alloc (.cells (aV v) 30)) u 30).alloc (.cells (aV z9) 30); simp at h; exact h, by have h := R9.new ((w.alloc (.cells (aV v) 30)).alloc (.cells (aV u) 30)) z9 30; simp at h; exact h⟩
  have hB := Lib.hid (bal3 w (.cells (aV v) 30) (.cells (aV u) 30) (.cells (aV z9) 30))
  have hz : Hid (w.heap.size + 3 ≤ (((w.alloc (.cells (aV v) 30)).alloc (.cells (aV u) 30)).alloc (.cells (aV z9) 30)).heap.size) := Lib.hid (by simp)
  obtain ⟨r, hr⟩ : ∃ r, mgV v u = r := ⟨_, rfl⟩
  rw [hr]
  have hr' : Hid (rmS v u 4 = r) := Lib.hid (by rw [rmS_4]; exact hr)
  clear hr
  go_enter Try.func19, Try.ntmps19
  go_wp2_with (fail)
  refine (rplain_any v _).mono ?_
  rintro e w1 ⟨rfl, hB1⟩
  have hS1 := Lib.hid (hS.out.below hB1)
  have hBa := Lib.hid (trans0 hB.out hB1)
  have hz1 := Lib.hid (Nat.le_trans hz.out hB1.size)
  clear hB1 hS hB hz
  obtain ⟨c0, c1, c2, c3, c4, c5, c6, c7, c8⟩ := R9.v9 hS1.out.1
  obtain ⟨f0, f1, f2, f3, f4, f5, f6, f7, f8⟩ := R9.f9 hS1.out.1
  have hS2 := Lib.hid (hS1.out.put1 (plain v))
  have hBb := Lib.hid (put9_below hBa.out (Nat.le_refl _) (plain v))
  have hz2 : Hid (w.heap.size + 3 ≤ (put9 w1 w.heap.size (plain v)).heap.size) := Lib.hid (by simp only [World.size_setCell]; exact hz1.out)
  obtain ⟨g0, g1, g2, g3, g4, g5, g6, g7, g8⟩ := R9.v9 hS2.out.2.1
  go_wp2_with (fail)
  refine (rplain_any u _).mono ?_
  rintro e w3 ⟨rfl, hB3⟩
  have hS3 := Lib.hid (hS2.out.below hB3)
  have hBc := Lib.hid (trans0 hBb.out hB3)
  have hz3 := Lib.hid (Nat.le_trans hz2.out hB3.size)
  clear hB3 hS1 hBa hz1 hS2 hBb hz2 c0 c1 c2 c3 c4 c5 c6 c7 c8 f0 f1 f2 f3 f4 f5 f6 f7 f8 g0 g1 g2 g3 g4 g5 g6 g7 g8
  have hS4 := Lib.hid (hS3.out.put2 (plain u))
  have hBd := Lib.hid (put9_below hBc.out (b := w.heap.size + 1) (by omega) (plain u))
  have hz4 : Hid (w.heap.size + 3 ≤ (put9 w3 (w.heap.size + 1) (plain u)).heap.size) := Lib.hid (by simp only [World.size_setCell]; exact hz3.out)
  obtain ⟨c0, c1, c2, c3, c4, c5, c6, c7, c8⟩ := R9.v9 hS3.out.2.1
  obtain ⟨f0, f1, f2, f3, f4, f5, f6, f7, f8⟩ := R9.f9 hS3.out.2.1
  go_upto_region 3 with (fail)
  obtain ⟨W, hW⟩ : ∃ W, put9 w3 (w.heap.size + 1) (plain u) = W := ⟨_, rfl⟩
  rw [hW] at hS4 hBd hz4
  unfold put9 at hW
  rw [hW]
  clear hW hS3 hBc hz3 c0 c1 c2 c3 c4 c5 c6 c7 c8 f0 f1 f2 f3 f4 f5 f6 f7 f8
  obtain ⟨c0, c1, c2, c3, c4, c5, c6, c7, c8⟩ := R9.v9 hS4.out.1
  obtain ⟨g0, g1, g2, g3, g4, g5, g6, g7, g8⟩ := R9.v9 hS4.out.2.1
  have pv : (plain v).e = v.e := rfl
  have pu : (plain u).e = u.e := rfl
  rw [pv] at c0
  rw [pu] at g0
  clear pv pu
  obtain ⟨p, hp⟩ : ∃ p, W.heap.size = p := ⟨_, rfl⟩
  have hpz : w.heap.size + 3 ≤ p := by have := hz4.out; omega
  have hD : Hid (D4 w.heap.size p (plain v) (plain u) (newV v.e v) (W.alloc (.cells (aV (newV v.e v)) 30))) := Lib.hid ⟨⟨hS4.out.1.alloc _, hS4.out.2.1.alloc _, hS4.out.2.2.alloc _⟩, hp ▸ R9.new W (newV v.e v) 30⟩
  have hE : Hid (Below w.heap.size w (W.alloc (.cells (aV (newV v.e v)) 30))) := Lib.hid (bal hBd.out _)
  replace hp := Lib.hid hp
  go_upto_region 4 with (fail)
  obtain ⟨X, hX⟩ : ∃ X, W.alloc (.cells (aV (newV v.e v)) 30) = X := ⟨_, rfl⟩
  rw [hX] at hD hE
  change W.alloc (.cells #[.int .i64 v.e, .bool (plain v).h0, .bool (plain v).h1, .bool (plain v).h2, .bool (plain v).h3, .int .u64 0, .int .u64 0, .int .u64 0, .int .u64 0] 30) = X at hX
  rw [hX, hp.out]
  clear hX hS4 hBd hz4 hp c0 c1 c2 c3 c4 c5 c6 c7 c8 g0 g1 g2 g3 g4 g5 g6 g7 g8
  obtain ⟨c0, c1, c2, c3, c4, c5, c6, c7, c8⟩ := R9.v9 hD.out.1.1
  obtain ⟨g0, g1, g2, g3, g4, g5, g6, g7, g8⟩ := R9.v9 hD.out.1.2.1
  obtain ⟨d0, d1, d2, d3, d4, d5, d6, d7, d8⟩ := R9.v9 hD.out.2
  obtain ⟨f0, f1, f2, f3, f4, f5, f6, f7, f8⟩ := R9.f9 hD.out.2
  have pv : (plain v).e = v.e := rfl
  have pu : (plain u).e = u.e := rfl
  rw [pv] at c0
  rw [pu] at g0
  clear pv pu
  go_upto_if 20 with (fail)
  go_cut [] from 21 to 25 (fun wx => Hid (D4 w.heap.size p (plain v) (plain u) (rmS v u 0) wx ∧ Below w.heap.size w wx))
  case first =>
    have e0 : rmS v u 0 = if v.e < u.e then newV u.e u else newV v.e v := by rw [rmS_0]; unfold rmB; split <;> rfl
    by_cases hve : v.e < u.e
    · rw [if_pos hve] at e0
      change rmS v u 0 = (⟨u.e, (plain u).h0, (plain u).h1, (plain u).h2, (plain u).h3, 0, 0, 0, 0⟩ : V) at e0
      have hF : Hid (D4 w.heap.size p (plain v) (plain u) (⟨u.e, (plain u).h0, (plain u).h1, (plain u).h2, (plain u).h3, 0, 0, 0, 0⟩ : V) (put9 X p (⟨u.e, (plain u).h0, (plain u).h1, (plain u).h2, (plain u).h3, 0, 0, 0, 0⟩ : V)) ∧ Below w.heap.size w (put9 X p (⟨u.e, (plain u).h0, (plain u).h1, (plain u).h2, (plain u).h3, 0, 0, 0, 0⟩ : V))) := Lib.hid ⟨⟨⟨R9.other9 hD.out.1.1 (by omega) _, R9.other9 hD.out.1.2.1 (by omega) _, R9.other9 hD.out.1.2.2 (by omega) _⟩, R9.put9 hD.out.2 _⟩, put9_below hE.out (by omega) _⟩
      have hG : Hid (D4 w.heap.size p (plain v) (plain u) (rmS v u 0) (put9 X p (⟨u.e, (plain u).h0, (plain u).h1, (plain u).h2, (plain u).h3, 0, 0, 0, 0⟩ : V)) ∧ Below w.heap.size w (put9 X p (⟨u.e, (plain u).h0, (plain u).h1, (plain u).h2, (plain u).h3, 0, 0, 0, 0⟩ : V))) := by rw [e0]; exact hF
      clear hD hE e0 hF
      go_wp2
      go_meet
      first | with_reducible exact hG | (go_must (exact (0 : Nat)))
    · rw [if_neg hve] at e0
      have hF : Hid (D4 w.heap.size p (plain v) (plain u) (newV v.e v) X ∧ Below w.heap.size w X) := Lib.hid ⟨hD.out, hE.out⟩
      rw [← e0] at hF
      clear hD hE e0
      go_wp2
      go_meet
      exact hF
  case rest =>
    have hQ := hcut
    clear hcut hD hE c0 c1 c2 c3 c4 c5 c6 c7 c8 g0 g1 g2 g3 g4 g5 g6 g7 g8 d0 d1 d2 d3 d4 d5 d6 d7 d8 f0 f1 f2 f3 f4 f5 f6 f7 f8
    go_wp2
    go_loopw [6] (fun i wr => ∃ j : Nat, j ≤ 4 ∧ i = .int .i64 j ∧ Hid (D4 w.heap.size p (plain v) (plain u) (rmS v u j) wr ∧ Below w.heap.size w wr)) (fun i _ => 4 - (intOf i).toNat)
    case atStart => exact ⟨0, by omega, rfl, hQ⟩
    case round =>
      clear hQ
      obtain ⟨j, hj, rfl, hQ⟩ := hrel
      by_cases hlt : j < 4
      · have ca : wr.cell? ⟨w.heap.size, 0, none⟩ = some (.int .i64 v.e) := (R9.v9 hQ.out.1.1.1).1
        have cb : wr.cell? ⟨w.heap.size + 1, 0, none⟩ = some (.int .i64 u.e) := (R9.v9 hQ.out.1.1.2.1).1
        have ch : wr.cell? ⟨w.heap.size + 1, 1 + j, none⟩ = some (.bool (hb u j)) := R9.hcell hQ.out.1.1.2.1 hlt
        have cp : wr.cell? ⟨p, 1 + j, none⟩ = some (.bool (hb (rmS v u j) j)) := R9.hcell hQ.out.1.2 hlt
        have fp : wr.frozen? ⟨p, 1 + j, none⟩ = false := hQ.out.1.2.fz _
        have hgg := Lib.hid (rm_mh (v := v) (u := u) hlt)
        clear cp
        have hor : (v.e = u.e ∧ hb u j = true) ∨ (v.e ≠ u.e ∨ hb u j = false) := by
          by_cases h : v.e = u.e
          · cases h2 : hb u j
            · exact .inr (.inr rfl)
            · exact .inl ⟨h, rfl⟩
          · exact .inr (.inl h)
        rcases hor with ⟨h1, h2⟩ | hor
        · have eM := rm_h1 hlt h1 h2
          have hg : rmH v u 4 j = true := by unfold rmH; rw [if_pos ⟨h1, hlt⟩, h2]; simp
          have hM : Hid (D4 w.heap.size p (plain v) (plain u) (rmM v u j) (wr.setCell ⟨p, 1 + j, none⟩ (.bool true)) ∧ Below w.heap.size w (wr.setCell ⟨p, 1 + j, none⟩ (.bool true))) := Lib.hid ⟨by rw [← eM]; exact D4.putH hQ.out.1 hpz hlt true, hQ.out.2.setCell (p := ⟨p, 1 + j, none⟩) (by show _ ≤ p; omega) _⟩
          have cp : wr.cell? ⟨p, 1 + j, none⟩ = some (.bool (hb (rmS v u j) j)) := R9.hcell hQ.out.1.2 hlt
          have cg : (wr.setCell ⟨p, 1 + j, none⟩ (.bool true)).cell? ⟨p, 1 + j, none⟩ = some (.bool true) := by have h := R9.hcell hM.out.1.2 hlt; rw [hgg.out, hg] at h; exact h
          have hee : (v.e == u.e) = true := by rw [h1]; simp
          rw [h2] at ch
          clear eM h1 h2 hgg
          have cx : (wr.setCell ⟨p, 1 + j, none⟩ (.bool true)).cell? ⟨w.heap.size, 5 + j, none⟩ = some (.int .u64 (tt (plain v) j)) := R9.tcell hM.out.1.1.1 hlt
          have cy : (wr.setCell ⟨p, 1 + j, none⟩ (.bool true)).cell? ⟨w.heap.size + 1, 5 + j, none⟩ = some (.int .u64 (tt (plain u) j)) := R9.tcell hM.out.1.1.2.1 hlt
          have ct : (wr.setCell ⟨p, 1 + j, none⟩ (.bool true)).cell? ⟨p, 5 + j, none⟩ = some (.int .u64 (tt (rmM v u j) j)) := R9.tcell hM.out.1.2 hlt
          have ft : (wr.setCell ⟨p, 1 + j, none⟩ (.bool true)).frozen? ⟨p, 5 + j, none⟩ = false := hM.out.1.2.fz _
          have hTx := Lib.hid (fun z => D4.putT hM.out.1 hpz hlt z)
          have hTb := Lib.hid (fun (z : Int) => hM.out.2.setCell (p := ⟨p, 5 + j, none⟩) (by show _ ≤ p; omega) (.int .u64 z))
          have dx := R9.tcell (hTx.out (tt (plain v) j)).1.1 hlt
          have dy := R9.tcell (hTx.out (tt (plain v) j)).1.2.1 hlt
          have dt := R9.tcell (hTx.out (tt (plain v) j)).2 hlt
          have et := R9.fz (hTx.out (tt (plain v) j)).2 (5 + j)
          have ht := Lib.hid (fun z => rm_t (v := v) (u := u) (z := z) hlt hg rfl rfl)
          generalize hx : tt (plain v) j = x at *
          generalize hy : tt (plain u) j = y at *
          by_cases hxy : x < y
          · have e := Lib.hid (ht.out y (by unfold tm mx; rw [if_pos rfl, if_pos hxy]))
            have hN : Hid (D4 w.heap.size p (plain v) (plain u) (rmS v u (j + 1)) (((wr.setCell ⟨p, 1 + j, none⟩ (.bool true)).setCell ⟨p, 5 + j, none⟩ (.int .u64 x)).setCell ⟨p, 5 + j, none⟩ (.int .u64 y)) ∧ Below w.heap.size w (((wr.setCell ⟨p, 1 + j, none⟩ (.bool true)).setCell ⟨p, 5 + j, none⟩ (.int .u64 x)).setCell ⟨p, 5 + j, none⟩ (.int .u64 y))) := Lib.hid ⟨by rw [← e.out, ← rm_2 hlt x y]; exact D4.putT (hTx.out x) hpz hlt y, (hTb.out x).setCell (p := ⟨p, 5 + j, none⟩) (by show _ ≤ p; omega) _⟩
            clear ht hTx hTb hx hy hg hM hQ e
            go_wp2
            go_quiet (fail)
            have hN' := Lib.hid (show D4 w.heap.size p (plain v) (plain u) (rmS v u (j + 1)) ((((wr.setCell ⟨p, 1 + j, none⟩ (.bool true)).setCell ⟨p, 5 + j, none⟩ (.int .u64 x)).setCell ⟨p, 5 + j, none⟩ (.int .u64 y)).drewN nq) ∧ Below w.heap.size w ((((wr.setCell ⟨p, 1 + j, none⟩ (.bool true)).setCell ⟨p, 5 + j, none⟩ (.int .u64 x)).setCell ⟨p, 5 + j, none⟩ (.int .u64 y)).drewN nq) from ⟨hN.out.1, bdrN nq hN.out.2⟩)
            clear hN
            go_wp2
            go_roundw
            case rel => exact ⟨j + 1, by omega, by go_num, hN'⟩
            case measure => simp [intOf]; omega
          · have e := Lib.hid (ht.out x (by unfold tm mx; rw [if_pos rfl, if_neg hxy]))
            have hN : Hid (D4 w.heap.size p (plain v) (plain u) (rmS v u (j + 1)) ((wr.setCell ⟨p, 1 + j, none⟩ (.bool true)).setCell ⟨p, 5 + j, none⟩ (.int .u64 x)) ∧ Below w.heap.size w ((wr.setCell ⟨p, 1 + j, none⟩ (.bool true)).setCell ⟨p, 5 + j, none⟩ (.int .u64 x))) := Lib.hid ⟨by rw [← e.out]; exact hTx.out x, hTb.out x⟩
            clear ht hTx hTb hx hy hg hM hQ e
            go_wp2
            go_quiet (fail)
            have hN' := Lib.hid (show D4 w.heap.size p (plain v) (plain u) (rmS v u (j + 1)) (((wr.setCell ⟨p, 1 + j, none⟩ (.bool true)).setCell ⟨p, 5 + j, none⟩ (.int .u64 x)).drewN nq) ∧ Below w.heap.size w (((wr.setCell ⟨p, 1 + j, none⟩ (.bool true)).setCell ⟨p, 5 + j, none⟩ (.int .u64 x)).drewN nq) from ⟨hN.out.1, bdrN nq hN.out.2⟩)
            clear hN
            go_wp2
            go_roundw
            case rel => exact ⟨j + 1, by omega, by go_num, hN'⟩
            case measure => simp [intOf]; omega
        · have eM := rm_h0 hlt hor
          have hM : Hid (D4 w.heap.size p (plain v) (plain u) (rmM v u j) wr ∧ Below w.heap.size w wr) := Lib.hid ⟨by rw [← eM]; exact hQ.out.1, hQ.out.2⟩
          have cg : wr.cell? ⟨p, 1 + j, none⟩ = some (.bool (rmH v u 4 j)) := by have h := R9.hcell hM.out.1.2 hlt; rw [hgg.out] at h; exact h
          have hno := Lib.hid (@rm_0 v u j hlt)
          generalize hg : rmH v u 4 j = g at *
          clear eM hgg
          have hor' : ((v.e == u.e) = false) ∨ ((v.e == u.e) = true ∧ hb u j = false) := by
            by_cases h : v.e = u.e
            · exact .inr ⟨by rw [h]; simp, by rcases hor with x | x; exact absurd h x; exact x⟩
            · exact .inl (by simpa using h)
          clear hor
          cases g
          · have hN : Hid (D4 w.heap.size p (plain v) (plain u) (rmS v u (j + 1)) wr ∧ Below w.heap.size w wr) := Lib.hid ⟨by rw [← hno.out rfl]; exact hM.out.1, hM.out.2⟩
            clear hno hM hQ hg
            rcases hor' with hee | ⟨hee, h2⟩
            · go_wp2
              go_roundw
              case rel => exact ⟨j + 1, by omega, by go_num, hN⟩
              case measure => simp [intOf]; omega
            · rw [h2] at ch
              clear h2
              go_wp2
              go_roundw
              case rel => exact ⟨j + 1, by omega, by go_num, hN⟩
              case measure => simp [intOf]; omega
          · clear hno
            rcases hor' with hee | ⟨hee, h2⟩
            · skip
              have cx : wr.cell? ⟨w.heap.size, 5 + j, none⟩ = some (.int .u64 (tt (plain v) j)) := R9.tcell hM.out.1.1.1 hlt
              have cy : wr.cell? ⟨w.heap.size + 1, 5 + j, none⟩ = some (.int .u64 (tt (plain u) j)) := R9.tcell hM.out.1.1.2.1 hlt
              have ct : wr.cell? ⟨p, 5 + j, none⟩ = some (.int .u64 (tt (rmM v u j) j)) := R9.tcell hM.out.1.2 hlt
              have ft : wr.frozen? ⟨p, 5 + j, none⟩ = false := hM.out.1.2.fz _
              have hTx := Lib.hid (fun z => D4.putT hM.out.1 hpz hlt z)
              have hTb := Lib.hid (fun (z : Int) => hM.out.2.setCell (p := ⟨p, 5 + j, none⟩) (by show _ ≤ p; omega) (.int .u64 z))
              have dx := R9.tcell (hTx.out (tt (plain v) j)).1.1 hlt
              have dy := R9.tcell (hTx.out (tt (plain v) j)).1.2.1 hlt
              have dt := R9.tcell (hTx.out (tt (plain v) j)).2 hlt
              have et := R9.fz (hTx.out (tt (plain v) j)).2 (5 + j)
              have ht := Lib.hid (fun z => rm_t (v := v) (u := u) (z := z) hlt hg rfl rfl)
              generalize hx : tt (plain v) j = x at *
              generalize hy : tt (plain u) j = y at *
              by_cases hxy : x < y
              · have e := Lib.hid (ht.out y (by unfold tm mx; rw [if_pos rfl, if_pos hxy]))
                have hN : Hid (D4 w.heap.size p (plain v) (plain u) (rmS v u (j + 1)) ((wr.setCell ⟨p, 5 + j, none⟩ (.int .u64 x)).setCell ⟨p, 5 + j, none⟩ (.int .u64 y)) ∧ Below w.heap.size w ((wr.setCell ⟨p, 5 + j, none⟩ (.int .u64 x)).setCell ⟨p, 5 + j, none⟩ (.int .u64 y))) := Lib.hid ⟨by rw [← e.out, ← rm_2 hlt x y]; exact D4.putT (hTx.out x) hpz hlt y, (hTb.out x).setCell (p := ⟨p, 5 + j, none⟩) (by show _ ≤ p; omega) _⟩
                clear ht hTx hTb hx hy hg hM hQ e
                go_wp2
                go_quiet (fail)
                have hN' := Lib.hid (show D4 w.heap.size p (plain v) (plain u) (rmS v u (j + 1)) (((wr.setCell ⟨p, 5 + j, none⟩ (.int .u64 x)).setCell ⟨p, 5 + j, none⟩ (.int .u64 y)).drewN nq) ∧ Below w.heap.size w (((wr.setCell ⟨p, 5 + j, none⟩ (.int .u64 x)).setCell ⟨p, 5 + j, none⟩ (.int .u64 y)).drewN nq) from ⟨hN.out.1, bdrN nq hN.out.2⟩)
                clear hN
                go_wp2
                go_roundw
                case rel => exact ⟨j + 1, by omega, by go_num, hN'⟩
                case measure => simp [intOf]; omega
              · have e := Lib.hid (ht.out x (by unfold tm mx; rw [if_pos rfl, if_neg hxy]))
                have hN : Hid (D4 w.heap.size p (plain v) (plain u) (rmS v u (j + 1)) (wr.setCell ⟨p, 5 + j, none⟩ (.int .u64 x)) ∧ Below w.heap.size w (wr.setCell ⟨p, 5 + j, none⟩ (.int .u64 x))) := Lib.hid ⟨by rw [← e.out]; exact hTx.out x, hTb.out x⟩
                clear ht hTx hTb hx hy hg hM hQ e
                go_wp2
                go_quiet (fail)
                have hN' := Lib.hid (show D4 w.heap.size p (plain v) (plain u) (rmS v u (j + 1)) ((wr.setCell ⟨p, 5 + j, none⟩ (.int .u64 x)).drewN nq) ∧ Below w.heap.size w ((wr.setCell ⟨p, 5 + j, none⟩ (.int .u64 x)).drewN nq) from ⟨hN.out.1, bdrN nq hN.out.2⟩)
                clear hN
                go_wp2
                go_roundw
                case rel => exact ⟨j + 1, by omega, by go_num, hN'⟩
                case measure => simp [intOf]; omega
            · rw [h2] at ch
              clear h2
              have cx : wr.cell? ⟨w.heap.size, 5 + j, none⟩ = some (.int .u64 (tt (plain v) j)) := R9.tcell hM.out.1.1.1 hlt
              have cy : wr.cell? ⟨w.heap.size + 1, 5 + j, none⟩ = some (.int .u64 (tt (plain u) j)) := R9.tcell hM.out.1.1.2.1 hlt
              have ct : wr.cell? ⟨p, 5 + j, none⟩ = some (.int .u64 (tt (rmM v u j) j)) := R9.tcell hM.out.1.2 hlt
              have ft : wr.frozen? ⟨p, 5 + j, none⟩ = false := hM.out.1.2.fz _
              have hTx := Lib.hid (fun z => D4.putT hM.out.1 hpz hlt z)
              have hTb := Lib.hid (fun (z : Int) => hM.out.2.setCell (p := ⟨p, 5 + j, none⟩) (by show _ ≤ p; omega) (.int .u64 z))
              have dx := R9.tcell (hTx.out (tt (plain v) j)).1.1 hlt
              have dy := R9.tcell (hTx.out (tt (plain v) j)).1.2.1 hlt
              have dt := R9.tcell (hTx.out (tt (plain v) j)).2 hlt
              have et := R9.fz (hTx.out (tt (plain v) j)).2 (5 + j)
              have ht := Lib.hid (fun z => rm_t (v := v) (u := u) (z := z) hlt hg rfl rfl)
              generalize hx : tt (plain v) j = x at *
              generalize hy : tt (plain u) j = y at *
              by_cases hxy : x < y
              · have e := Lib.hid (ht.out y (by unfold tm mx; rw [if_pos rfl, if_pos hxy]))
                have hN : Hid (D4 w.heap.size p (plain v) (plain u) (rmS v u (j + 1)) ((wr.setCell ⟨p, 5 + j, none⟩ (.int .u64 x)).setCell ⟨p, 5 + j, none⟩ (.int .u64 y)) ∧ Below w.heap.size w ((wr.setCell ⟨p, 5 + j, none⟩ (.int .u64 x)).setCell ⟨p, 5 + j, none⟩ (.int .u64 y))) := Lib.hid ⟨by rw [← e.out, ← rm_2 hlt x y]; exact D4.putT (hTx.out x) hpz hlt y, (hTb.out x).setCell (p := ⟨p, 5 + j, none⟩) (by show _ ≤ p; omega) _⟩
                clear ht hTx hTb hx hy hg hM hQ e
                go_wp2
                go_quiet (fail)
                have hN' := Lib.hid (show D4 w.heap.size p (plain v) (plain u) (rmS v u (j + 1)) (((wr.setCell ⟨p, 5 + j, none⟩ (.int .u64 x)).setCell ⟨p, 5 + j, none⟩ (.int .u64 y)).drewN nq) ∧ Below w.heap.size w (((wr.setCell ⟨p, 5 + j, none⟩ (.int .u64 x)).setCell ⟨p, 5 + j, none⟩ (.int .u64 y)).drewN nq) from ⟨hN.out.1, bdrN nq hN.out.2⟩)
                clear hN
                go_wp2
                go_roundw
                case rel => exact ⟨j + 1, by omega, by go_num, hN'⟩
                case measure => simp [intOf]; omega
              · have e := Lib.hid (ht.out x (by unfold tm mx; rw [if_pos rfl, if_neg hxy]))
                have hN : Hid (D4 w.heap.size p (plain v) (plain u) (rmS v u (j + 1)) (wr.setCell ⟨p, 5 + j, none⟩ (.int .u64 x)) ∧ Below w.heap.size w (wr.setCell ⟨p, 5 + j, none⟩ (.int .u64 x))) := Lib.hid ⟨by rw [← e.out]; exact hTx.out x, hTb.out x⟩
                clear ht hTx hTb hx hy hg hM hQ e
                go_wp2
                go_quiet (fail)
                have hN' := Lib.hid (show D4 w.heap.size p (plain v) (plain u) (rmS v u (j + 1)) ((wr.setCell ⟨p, 5 + j, none⟩ (.int .u64 x)).drewN nq) ∧ Below w.heap.size w ((wr.setCell ⟨p, 5 + j, none⟩ (.int .u64 x)).drewN nq) from ⟨hN.out.1, bdrN nq hN.out.2⟩)
                clear hN
                go_wp2
                go_roundw
                case rel => exact ⟨j + 1, by omega, by go_num, hN'⟩
                case measure => simp [intOf]; omega
      · obtain rfl : j = 4 := by omega
        obtain ⟨c0, c1, c2, c3, c4, c5, c6, c7, c8⟩ := R9.v9 hQ.out.1.2
        obtain ⟨d0, d1, d2, d3, d4, d5, d6, d7, d8⟩ := R9.v9 hQ.out.1.1.2.2
        obtain ⟨f0, f1, f2, f3, f4, f5, f6, f7, f8⟩ := R9.f9 hQ.out.1.1.2.2
        rw [hr'.out] at c0 c1 c2 c3 c4 c5 c6 c7 c8
        go_wp2
        exact bodyPost_ret (v := vV r) (by simp [results, Try.results19, go_sem, d0, d1, d2, d3, d4, d5, d6, d7, d8]) rfl ⟨rfl, put9_below hQ.out.2 (by omega) r⟩
end Go.Proofs.Ytoeafdpknjeojaa.vecK
