/- VecDoes. -/
import Derived.Test.YtoeafdpknjeojaaVecS
set_option linter.unusedVariables false
set_option linter.unusedSimpArgs false
namespace Go.Proofs.Ytoeafdpknjeojaa.vecT
open Go.ChangeShapes Go.WideShapes Go.ChangeAt Go.RowKit Go.Deep
open vecA vecB vecC vecD vecE vecF vecG vecH vecI vecJ vecK vecP vecR vecS

abbrev T10 : TypeId := 30
/-- what is told of a box of members -/
abbrev V4 (b : Nat) (v : V) (w : World) : Prop := w.cell? ⟨b, 0, none⟩ = some (.bool v.h0) ∧ w.cell? ⟨b, 1, none⟩ = some (.bool v.h1) ∧ w.cell? ⟨b, 2, none⟩ = some (.bool v.h2) ∧ w.cell? ⟨b, 3, none⟩ = some (.bool v.h3)
/-- the vector, the members, and one vector more -/
abbrev SD (w0 : World) (b : Nat) (v g n : V) (w : World) : Prop := (V9 w0.heap.size v w ∧ V4 (w0.heap.size + 1) g w ∧ V9 b n w) ∧ (R9 T9 w0.heap.size v w ∧ R4 (w0.heap.size + 1) g w ∧ R9 T9 b n w) ∧ Below w0.heap.size w0 w
theorem SD.mk {w0 w : World} {b : Nat} {v g n : V} (h : R9 T9 w0.heap.size v w ∧ R4 (w0.heap.size + 1) g w ∧ R9 T9 b n w) (hB : Below w0.heap.size w0 w) : SD w0 b v g n w := ⟨⟨R9.v9 h.1, R4.cells h.2.1, R9.v9 h.2.2⟩, h, hB⟩
theorem SD.fo {w0 w w1 : World} {b : Nat} {v g n : V} (hB : Below w.heap.size w w1) (h : SD w0 b v g n w) : SD w0 b v g n w1 := SD.mk ⟨R9.below h.2.1.1 hB, R4.below h.2.1.2.1 hB, R9.below h.2.1.2.2 hB⟩ (trans0 h.2.2 hB)
theorem R4.other9 {b c : Nat} {v : V} {w : World} (h : R4 b v w) (hc : b ≠ c) (u : V) : R4 b v (put9 w c u) :=
  ((((((((h.setOther (a := ⟨c, 0, none⟩) hc _).setOther (a := ⟨c, 1, none⟩) hc _).setOther (a := ⟨c, 2, none⟩) hc _).setOther (a := ⟨c, 3, none⟩) hc _).setOther (a := ⟨c, 4, none⟩) hc _).setOther (a := ⟨c, 5, none⟩) hc _).setOther (a := ⟨c, 6, none⟩) hc _).setOther (a := ⟨c, 7, none⟩) hc _).setOther (a := ⟨c, 8, none⟩) hc _
theorem SD.put {w0 w : World} {b p : Nat} {v g n : V} (h : SD w0 b v g n w) (hp : w0.heap.size + 2 ≤ p) (hb : b ≠ p) (x : V) : SD w0 b v g n (put9 w p x) :=
  SD.mk ⟨R9.other9 h.2.1.1 (by omega) x, R4.other9 h.2.1.2.1 (by omega) x, R9.other9 h.2.1.2.2 hb x⟩ (put9_below h.2.2 (by omega) x)
/-- and one of the document's -/
abbrev SE (w0 : World) (b p : Nat) (v g n : V) (w : World) : Prop := (V9 b n w ∧ V9 p n w) ∧ SD w0 b v g n w ∧ R9 T10 p n w
theorem SE.mk {w0 w : World} {b p : Nat} {v g n : V} (h : SD w0 b v g n w) (hp : R9 T10 p n w) : SE w0 b p v g n w := ⟨⟨h.1.2.2, R9.v9 hp⟩, h, hp⟩
theorem SE.fo {w0 w w1 : World} {b p : Nat} {v g n : V} (hB : Below w.heap.size w w1) (h : SE w0 b p v g n w) : SE w0 b p v g n w1 := SE.mk (SD.fo hB h.2.1) (R9.below h.2.2 hB)
/-- the last region's -/
abbrev SF (w0 : World) (b : Nat) (e : Int) (v g : V) (w : World) : Prop := (V9 w0.heap.size v w ∧ V4 (w0.heap.size + 1) g w ∧
  w.cell? ⟨b, 0, none⟩ = some (.int .i64 e) ∧ w.cell? ⟨b, 1, none⟩ = some (.bool g.h0) ∧ w.cell? ⟨b, 2, none⟩ = some (.bool g.h1) ∧ w.cell? ⟨b, 3, none⟩ = some (.bool g.h2) ∧ w.cell? ⟨b, 4, none⟩ = some (.bool g.h3) ∧
  w.cell? ⟨b, 5, none⟩ = some (.int .u64 0) ∧ w.cell? ⟨b, 6, none⟩ = some (.int .u64 0) ∧ w.cell? ⟨b, 7, none⟩ = some (.int .u64 0) ∧ w.cell? ⟨b, 8, none⟩ = some (.int .u64 0)) ∧ (R9 T9 w0.heap.size v w ∧ R4 (w0.heap.size + 1) g w ∧ R9 T9 b (newV e g) w) ∧ Below w0.heap.size w0 w
theorem SF.mk {w0 w : World} {b : Nat} {e : Int} {v g : V} (h : R9 T9 w0.heap.size v w ∧ R4 (w0.heap.size + 1) g w ∧ R9 T9 b (newV e g) w) (hB : Below w0.heap.size w0 w) : SF w0 b e v g w := by
  obtain ⟨c0, c1, c2, c3, c4, c5, c6, c7, c8⟩ := R9.v9 h.2.2
  exact ⟨⟨R9.v9 h.1, R4.cells h.2.1, c0, c1, c2, c3, c4, c5, c6, c7, c8⟩, h, hB⟩
theorem SF.fo {w0 w w1 : World} {b : Nat} {e : Int} {v g : V} (hB : Below w.heap.size w w1) (h : SF w0 b e v g w) : SF w0 b e v g w1 := SF.mk ⟨R9.below h.2.1.1 hB, R4.below h.2.1.2.1 hB, R9.below h.2.1.2.2 hB⟩ (trans0 h.2.2 hB)
theorem eqMem (g : V) (w : World) : (binOp .eql 22 (hV g) (hV g)).run Try.prog w = .ok (.bool true) w := by
  go_simp
  unfold b4
  simp
theorem eqNul (w : World) : (binOp .eql 24 (.agg #[.int .u64 0, .int .u64 0, .int .u64 0, .int .u64 0]) (.agg #[.int .u64 0, .int .u64 0, .int .u64 0, .int .u64 0])).run Try.prog w = .ok (.bool true) w := by
  go_simp
  unfold i4
  simp
set_option maxRecDepth 100000 in
set_option maxHeartbeats 4000000 in
theorem does_any (v : V) (dc t ep : Int) (g : V) (w : World) : Calls Try.prog 3 #[vV v, .int .i64 dc, .int .u64 t, .int .i64 ep, hV g] w fun r w' => r = .returned (.bool true) ∧ Below w.heap.size w w' := by
  have hR0 : Hid (R9 T9 w.heap.size v ((w.alloc (.cells (aV v) 26)).alloc (.cells (aH g) 22))) := Lib.hid ((R9.new w v _).alloc _)
  have hG0 : Hid (R4 (w.heap.size + 1) g ((w.alloc (.cells (aV v) 26)).alloc (.cells (aH g) 22))) := Lib.hid (by have h := R4.new (w.alloc (.cells (aV v) 26)) g; simp at h; exact h)
  have hB0 := Lib.hid (bal2 w (.cells (aV v) 26) (.cells (aH g) 22))
  have hz0 : Hid (w.heap.size + 2 ≤ ((w.alloc (.cells (aV v) 26)).alloc (.cells (aH g) 22)).heap.size) := Lib.hid (by simp)
  obtain ⟨⟨x, y⟩, hxy⟩ : ∃ p, lsS v 4 = p := ⟨_, rfl⟩
  obtain ⟨n, hn⟩ : ∃ n, szR v ep g = n := ⟨_, rfl⟩
  obtain ⟨er, he⟩ : ∃ n, szE v ep = n := ⟨_, rfl⟩
  obtain ⟨q, hq⟩ : ∃ n, plain v = n := ⟨_, rfl⟩
  obtain ⟨r, hr⟩ : ∃ n, rsV v dc t = n := ⟨_, rfl⟩
  have kL := least_any v
  have kM := rleast_any v
  have kZ := resize_any v ep g
  have kY := rresize_any v ep g
  have kP := plain_any v
  have kO := rplain_any v
  have kR := raise_any v dc t
  have kS := rraise_any v dc t
  rw [hxy] at kL kM
  rw [hn, he] at kZ kY
  rw [hq] at kP kO
  rw [hr] at kR kS
  replace kL := Lib.hid kL
  replace kM := Lib.hid kM
  replace kZ := Lib.hid kZ
  replace kY := Lib.hid kY
  replace kP := Lib.hid kP
  replace kO := Lib.hid kO
  replace kR := Lib.hid kR
  replace kS := Lib.hid kS
  clear hxy hn he hq hr
  go_enter Try.func3, Try.ntmps3
  go_wp2_with (fail)
  refine (kL.out _).mono ?_
  rintro e w1 ⟨rfl, hB1⟩
  have hR1 := Lib.hid (R9.below hR0.out hB1)
  have hG1 := Lib.hid (R4.below hG0.out hB1)
  have hBx := Lib.hid (trans0 hB0.out hB1)
  have hz1 := Lib.hid (Nat.le_trans hz0.out hB1.size)
  clear hB1 hR0 hG0 hB0 hz0
  obtain ⟨c0, c1, c2, c3, c4, c5, c6, c7, c8⟩ := R9.v9 hR1.out
  go_wp2_with (fail)
  refine (told_any v _).mono ?_
  rintro e w2 ⟨rfl, hB2⟩
  go_wp2_with (fail)
  refine (kM.out _).mono ?_
  rintro e w3 ⟨rfl, hB3⟩
  have hB23 := trans0 hB2 hB3
  have hR3 := Lib.hid (R9.below hR1.out hB23)
  have hG3 := Lib.hid (R4.below hG1.out hB23)
  have hBy := Lib.hid (trans0 hBx.out hB23)
  have hz3 := Lib.hid (Nat.le_trans hz1.out hB23.size)
  clear hB2 hB3 hB23 hR1 hG1 hBx hz1 c0 c1 c2 c3 c4 c5 c6 c7 c8
  obtain ⟨c0, c1, c2, c3, c4, c5, c6, c7, c8⟩ := R9.v9 hR3.out
  obtain ⟨g0, g1, g2, g3⟩ := R4.cells hG3.out
  go_wp2_with (fail)
  refine (kZ.out _).mono ?_
  rintro e w4 ⟨rfl, hB4⟩
  have hR4 := Lib.hid (R9.below hR3.out hB4)
  have hG4 := Lib.hid (R4.below hG3.out hB4)
  have hBz := Lib.hid (trans0 hBy.out hB4)
  have hz4 := Lib.hid (Nat.le_trans hz3.out hB4.size)
  clear hB4 hR3 hG3 hBy hz3 c0 c1 c2 c3 c4 c5 c6 c7 c8 g0 g1 g2 g3
  have hS5 : Hid (SD w w4.heap.size v g n (w4.alloc (.cells (aV n) 26))) := Lib.hid (SD.mk ⟨hR4.out.alloc _, hG4.out.alloc _, R9.new w4 n _⟩ (bal hBz.out _))
  go_upto_region 4 with (fail)
  obtain ⟨b, hb⟩ : ∃ b, w4.heap.size = b := ⟨_, rfl⟩
  obtain ⟨W, hW⟩ : ∃ W, w4.alloc (.cells (aV n) 26) = W := ⟨_, rfl⟩
  have hbW : Hid (b < W.heap.size ∧ w.heap.size + 2 ≤ b) := Lib.hid ⟨by rw [← hW, ← hb]; simp, by rw [← hb]; exact hz4.out⟩
  rw [hW, hb] at hS5
  change w4.alloc (.cells #[.int .i64 n.e, .bool n.h0, .bool n.h1, .bool n.h2, .bool n.h3, .int .u64 n.t0, .int .u64 n.t1, .int .u64 n.t2, .int .u64 n.t3] 26) = W at hW
  rw [hW, hb]
  clear hW hb hR4 hG4 hBz hz4
  have hnw : Hid (R9 T10 W.heap.size z9 (W.alloc (.cells #[.int .i64 0, .bool false, .bool false, .bool false, .bool false, .int .u64 0, .int .u64 0, .int .u64 0, .int .u64 0] 30)).drew) := Lib.hid (R9.new W z9 _)
  have hs4 : Hid (SD w b v g n W.drew) := Lib.hid (SD.fo (below_drew W) hS5.out)
  have hs5 : Hid (SD w b v g n (W.alloc (.cells #[.int .i64 0, .bool false, .bool false, .bool false, .bool false, .int .u64 0, .int .u64 0, .int .u64 0, .int .u64 0] 30)).drew) := Lib.hid (SD.fo (bdr (al0 W _)) hS5.out)
  have hrel4 : Hid (Below W.heap.size W W.drew) := Lib.hid (below_drew W)
  have hrel5 : Hid (Below W.heap.size W (W.alloc (.cells #[.int .i64 0, .bool false, .bool false, .bool false, .bool false, .int .u64 0, .int .u64 0, .int .u64 0, .int .u64 0] 30)).drew) := Lib.hid (bdr (al0 W _))
  go_cut [17, 18] from 17 to 45 (fun x z wx => z = .int .i64 er ∧ ∃ p, x = .pointer (some ⟨p, 0, none⟩) ∧ Hid (SD w b v g n wx ∧ W.heap.size ≤ p ∧ R9 T10 p n wx))
  case first =>
    go_region_held3 (SD w b v g n)
      (first | with_reducible exact hs4.out | with_reducible exact hs5.out | with_reducible exact s5.out | with_reducible exact s4.out | with_reducible exact t5.out n | with_reducible exact u5.out n | with_reducible exact y5.out | with_reducible exact s4a.out | (go_must (exact (0 : Nat))) | fail)
      (first
        | (go_at_call 9; ((with_reducible refine (told_any _ _).mono ?_); rintro e w6 ⟨rfl, hB4⟩); have hnw4 : Hid (R9 T10 w6.heap.size z9 (w6.alloc (.cells #[.int .i64 0, .bool false, .bool false, .bool false, .bool false, .int .u64 0, .int .u64 0, .int .u64 0, .int .u64 0] 30))) := Lib.hid (R9.new w6 z9 _); (first | (have q4 : Hid (R9 T10 W.heap.size z9 w6) := Lib.hid (by with_reducible exact R9.below hnw.out hB4); have r4 : Hid (Below W.heap.size W w6) := Lib.hid (by with_reducible exact trans0 hrel5.out hB4); have s4 : Hid (SD w b v g n w6) := Lib.hid (by with_reducible exact SD.fo hB4 hs5.out)) | (have r4 : Hid (Below W.heap.size W w6) := Lib.hid (by with_reducible exact trans0 hrel4.out hB4); have s4 : Hid (SD w b v g n w6) := Lib.hid (by with_reducible exact SD.fo hB4 hs4.out); have s4a : Hid (SD w b v g n (w6.alloc (.cells #[.int .i64 0, .bool false, .bool false, .bool false, .bool false, .int .u64 0, .int .u64 0, .int .u64 0, .int .u64 0] 30))) := Lib.hid (SD.fo (al0 _ _) s4.out)) | fail))
        | (go_at_call 11; ((with_reducible refine (kY.out _).mono ?_); rintro e w7 ⟨rfl, hB5⟩); (first
          | (have q5 : R9 T10 W.heap.size z9 w7 := (by with_reducible exact R9.below q4.out hB5); have s5 : Hid (SD w b v g n w7) := Lib.hid (by with_reducible exact SD.fo hB5 s4.out); obtain ⟨d0, d1, d2, d3, d4, d5, d6, d7, d8⟩ := R9.v9 q5; obtain ⟨f0, f1, f2, f3, f4, f5, f6, f7, f8⟩ := R9.f9 q5; have p5 := Lib.hid q5; have t5 := Lib.hid (fun (n' : V) => SD.put (p := W.heap.size) s5.out (by have := hbW.out; omega) (by have := hbW.out; omega) n'); clear q5)
          | (have s5 : Hid (SD w b v g n w7) := Lib.hid (by with_reducible exact SD.fo hB5 s4.out); have r5 : Hid (Below W.heap.size W w7) := Lib.hid (by with_reducible exact trans0 r4.out hB5); have y5 : Hid (SD w b v g n (w7.alloc (.cells #[.int .i64 0, .bool false, .bool false, .bool false, .bool false, .int .u64 0, .int .u64 0, .int .u64 0, .int .u64 0] 30))) := Lib.hid (SD.fo (al0 _ _) s5.out); have u5 := Lib.hid (fun (n' : V) => SD.fo (al0 w7 (.cells #[.int .i64 n'.e, .bool n'.h0, .bool n'.h1, .bool n'.h2, .bool n'.h3, .int .u64 n'.t0, .int .u64 n'.t1, .int .u64 n'.t2, .int .u64 n'.t3] 30)) s5.out))
          | (have q5 : R9 T10 w6.heap.size z9 w7 := (by with_reducible exact R9.below hnw4.out hB5); have s5 : Hid (SD w b v g n w7) := Lib.hid (by with_reducible exact SD.fo hB5 s4a.out); obtain ⟨d0, d1, d2, d3, d4, d5, d6, d7, d8⟩ := R9.v9 q5; obtain ⟨f0, f1, f2, f3, f4, f5, f6, f7, f8⟩ := R9.f9 q5; have p5 := Lib.hid q5; have t5 := Lib.hid (fun (n' : V) => SD.put (p := w6.heap.size) s5.out (by have := hbW.out; have := r4.out.size; omega) (by have := hbW.out; have := r4.out.size; omega) n'); clear q5)
          | fail))
        | fail)
    all_goals
      go_wp2
      go_meet
      first
        | with_reducible exact ⟨rfl, _, rfl, Lib.hid ⟨t5.out _, Nat.le_refl _, R9.put9 p5.out _⟩⟩
        | with_reducible exact ⟨rfl, _, rfl, Lib.hid ⟨t5.out _, r4.out.size, R9.put9 p5.out _⟩⟩
        | with_reducible exact ⟨rfl, _, rfl, Lib.hid ⟨u5.out _, r5.out.size, R9.new w7 _ _⟩⟩
        | fail
  case rest =>
    obtain ⟨rfl, p, rfl, hQ⟩ := hcut
    have hE := Lib.hid (SE.fo (below_drew wc) (SE.mk hQ.out.1 hQ.out.2.2))
    have e1 : ∀ wx, (binOp .neq 30 (vV n) (vV n)).run Try.prog wx = .ok (.bool false) wx := fun wx => by rw [neq_r]; simp
    clear hnw hs4 hs5 hrel4 hrel5 hQ hS5 hbW kL kM kZ kY
    go_upto_region 5 with (fail)
    go_region_held3 (SE w b p v g n)
      (first | with_reducible exact hE.out | with_reducible assumption | with_reducible exact SE.fo (by assumption) (by assumption) | (go_must (exact (0 : Nat))) | fail)
      (first
        | (go_at_call 9; ((with_reducible refine (told_any _ _).mono ?_); rintro e w' ⟨rfl, hB9⟩))
        | fail)
    rename_i hH
    have hS := Lib.hid hH.2.1
    clear hH hB9 hE e1
    obtain ⟨g0, g1, g2, g3⟩ := hS.out.1.2.1
    go_wp2_with (fail)
    refine (new_any ep g _).mono ?_
    rintro e w8 ⟨rfl, hB8⟩
    have hS8 := Lib.hid (SD.fo hB8 hS.out)
    clear hB8 hS g0 g1 g2 g3
    have hF : Hid (SF w w8.heap.size ep v g (w8.alloc (.cells (aV (newV ep g)) 26)).drew) := Lib.hid (SF.fo (below_drew _) (SF.mk ⟨hS8.out.2.1.1.alloc _, hS8.out.2.1.2.1.alloc _, R9.new w8 (newV ep g) _⟩ (bal hS8.out.2.2 _)))
    go_upto_region 8 with (fail)
    obtain ⟨c, hc⟩ : ∃ c, w8.heap.size = c := ⟨_, rfl⟩
    obtain ⟨X, hX⟩ : ∃ X, w8.alloc (.cells (aV (newV ep g)) 26) = X := ⟨_, rfl⟩
    rw [hX, hc] at hF
    unfold aV at hX
    rw [hX, hc]
    clear hX hc hS8
    have e1 : ∀ wx, (binOp .eql 30 (vV q) (vV q)).run Try.prog wx = .ok (.bool true) wx := fun wx => by rw [eql_r]; simp
    have e2 : ∀ wx, (binOp .eql 30 (vV r) (vV r)).run Try.prog wx = .ok (.bool true) wx := fun wx => by rw [eql_r]; simp
    have e3 := eqMem g
    have e4 := eqNul
    go_region_held3 (SF w c ep v g)
      (first | with_reducible exact hF.out | with_reducible assumption | with_reducible exact SF.fo (by assumption) (by assumption) | (go_must (exact (0 : Nat))) | fail)
      (first
        | (go_at_call 13; ((with_reducible refine (awake_any _).mono ?_); rintro e w' ⟨rfl, hB9⟩))
        | (go_at_call 9; ((with_reducible refine (told_any _ _).mono ?_); rintro e w' ⟨rfl, hB9⟩))
        | (go_at_call 14; ((with_reducible refine (kP.out _).mono ?_); rintro e w' ⟨rfl, hB9⟩))
        | (go_at_call 15; ((with_reducible refine (kO.out _).mono ?_); rintro e w' ⟨rfl, hB9⟩))
        | (go_at_call 16; ((with_reducible refine (kR.out _).mono ?_); rintro e w' ⟨rfl, hB9⟩))
        | (go_at_call 17; ((with_reducible refine (kS.out _).mono ?_); rintro e w' ⟨rfl, hB9⟩))
        | fail)
    rename_i hH
    have hE := Lib.hid hH.2.2
    clear hH hB9
    go_wp2
    go_ret
    exact ⟨rfl, hE.out⟩
end Go.Proofs.Ytoeafdpknjeojaa.vecT
