/- The contract of Merge. -/
import Derived.Test.YtoeafdpknjeojaaVecI
import Derived.Deep.DeepCutAuto
import Derived.Deep.CutBlock
import Derived.Deep.CutRange
set_option linter.unusedVariables false
set_option linter.unusedSimpArgs false
namespace Go.Proofs.Ytoeafdpknjeojaa.vecJ
open Go.ChangeShapes Go.WideShapes Go.ChangeAt Go.RowKit Go.Deep
open vecA vecB vecC vecD vecE vecF vecG vecH vecI

/-- what Merge has made so far, ahead of its last Plain -/
def mgS (v u : V) (j : Nat) : V := ⟨mx v.e u.e, (moV v u).h0, (moV v u).h1, (moV v u).h2, (moV v u).h3, if 0 < j then mx (tm v.h0 v.t0) (tm u.h0 u.t0) else 0, if 1 < j then mx (tm v.h1 v.t1) (tm u.h1 u.t1) else 0, if 2 < j then mx (tm v.h2 v.t2) (tm u.h2 u.t2) else 0, if 3 < j then mx (tm v.h3 v.t3) (tm u.h3 u.t3) else 0⟩
def mgV (v u : V) : V := plain (mgS v u 4)
theorem mgS_0 (v u : V) : mgS v u 0 = newV (mx v.e u.e) (moV v u) := rfl
theorem mg_put {v u : V} {j : Nat} (hj : j < 4) : putT (mgS v u j) j (mx (tt (plain v) j) (tt (plain u) j)) = mgS v u (j + 1) := by
  rcases four hj with rfl | rfl | rfl | rfl <;> rfl
/-- three boxes of Merge -/
abbrev B3 (s : Nat) (v u : V) (w : World) : Prop := R9 26 s v w ∧ R9 26 (s + 1) u w ∧ R9 26 (s + 2) z9 w
theorem B3.below {s : Nat} {v u : V} {w w1 : World} (h : B3 s v u w) (hB : Below w.heap.size w w1) : B3 s v u w1 := ⟨R9.below h.1 hB, R9.below h.2.1 hB, R9.below h.2.2 hB⟩
/-- what is held in Merge's first regions -/
abbrev S3 (W : World) (s : Nat) (v u : V) (w : World) : Prop := V9 s v w ∧ V9 (s + 1) u w ∧ B3 s v u w ∧ Below W.heap.size W w
theorem S3.mk {W : World} {s : Nat} {v u : V} {w : World} (h : B3 s v u w) (hB : Below W.heap.size W w) : S3 W s v u w := ⟨R9.v9 h.1, R9.v9 h.2.1, h, hB⟩
theorem S3.of {W : World} {s : Nat} {v u : V} {w w1 : World} (h : S3 W s v u w) (hB : Below w.heap.size w w1) : S3 W s v u w1 := S3.mk (h.2.2.1.below hB) (trans0 h.2.2.2 hB)
theorem S3.fo {W : World} {s : Nat} {v u : V} {w w1 : World} (hB : Below w.heap.size w w1) (h : S3 W s v u w) : S3 W s v u w1 := h.of hB
theorem S3.put {W : World} {s p : Nat} {v u : V} {w : World} (h : S3 W s v u w) (hp : s + 3 ≤ W.heap.size ∧ W.heap.size ≤ p) (n : V) : S3 W s v u (put9 w p n) := by
  have hb := put9_below (B := W.heap.size) h.2.2.2 hp.2 n
  have hb0 : Below W.heap.size w (put9 w p n) := put9_below ((Below.refl _ _)) hp.2 n
  exact S3.mk ⟨h.2.2.1.1.of_block (hb0.block _ (by omega)), h.2.2.1.2.1.of_block (hb0.block _ (by omega)), h.2.2.1.2.2.of_block (hb0.block _ (by omega))⟩ hb
/-- the four boxes of Merge -/
abbrev B4 (s p : Nat) (v u n : V) (w : World) : Prop := B3 s v u w ∧ R9 26 p n w
theorem B4.below {s p : Nat} {v u n : V} {w w1 : World} (h : B4 s p v u n w) (hB : Below w.heap.size w w1) : B4 s p v u n w1 := ⟨h.1.below hB, R9.below h.2 hB⟩
theorem R9.other9 {T : TypeId} {b c : Nat} {v : V} {w : World} (h : R9 T b v w) (hc : b ≠ c) (u : V) : R9 T b v (put9 w c u) :=
  ((((((((h.setOther (a := ⟨c, 0, none⟩) hc _).setOther (a := ⟨c, 1, none⟩) hc _).setOther (a := ⟨c, 2, none⟩) hc _).setOther (a := ⟨c, 3, none⟩) hc _).setOther (a := ⟨c, 4, none⟩) hc _).setOther (a := ⟨c, 5, none⟩) hc _).setOther (a := ⟨c, 6, none⟩) hc _).setOther (a := ⟨c, 7, none⟩) hc _).setOther (a := ⟨c, 8, none⟩) hc _
theorem B4.both {s p : Nat} {v u n : V} {w : World} (h : B4 s p v u n w) (hp : s + 3 ≤ p) (v' u' : V) : B4 s p v' u' n (put9 (put9 w s v') (s + 1) u') :=
  ⟨⟨R9.other9 (R9.put9 h.1.1 v') (by omega) u', R9.put9 (R9.other9 h.1.2.1 (by omega) v') u', R9.other9 (R9.other9 h.1.2.2 (by omega) v') (by omega) u'⟩, R9.other9 (R9.other9 h.2 (by omega) v') (by omega) u'⟩
theorem B4.putT {s p : Nat} {v u n : V} {w : World} (h : B4 s p v u n w) (hp : s + 3 ≤ p) {j : Nat} (hj : j < 4) (x : Int) : B4 s p v u (putT n j x) (w.setCell ⟨p, 5 + j, none⟩ (.int .u64 x)) :=
  ⟨⟨h.1.1.setOther (a := ⟨p, 5 + j, none⟩) (by show s ≠ p; omega) _, h.1.2.1.setOther (a := ⟨p, 5 + j, none⟩) (by show s + 1 ≠ p; omega) _, h.1.2.2.setOther (a := ⟨p, 5 + j, none⟩) (by show s + 2 ≠ p; omega) _⟩, R9.putT h.2 hj x⟩
theorem mg_lt {v u : V} {j : Nat} {x y : Int} (hj : j < 4) (hx : tt (plain v) j = x) (hy : tt (plain u) j = y) (h : x < y) : vecB.putT (mgS v u j) j y = mgS v u (j + 1) := by
  have e := mg_put (v := v) (u := u) hj
  rw [hx, hy] at e; unfold mx at e; rw [if_pos h] at e; exact e
theorem mg_ge {v u : V} {j : Nat} {x y : Int} (hj : j < 4) (hx : tt (plain v) j = x) (hy : tt (plain u) j = y) (h : ¬ x < y) : vecB.putT (mgS v u j) j x = mgS v u (j + 1) := by
  have e := mg_put (v := v) (u := u) hj
  rw [hx, hy] at e; unfold mx at e; rw [if_neg h] at e; exact e
set_option maxRecDepth 100000 in
set_option maxHeartbeats 4000000 in
theorem merge_any (v u : V) (w : World) : Calls Try.prog 18 #[vV v, vV u] w fun r w' => r = .returned (vV (mgV v u)) ∧ Below w.heap.size w w' := by
  have hS : Hid (B3 w.heap.size v u (((w.alloc (.cells (aV v) 26)).alloc (.cells (aV u) 26)).alloc (.cells (aV z9) 26))) := Lib.hid ⟨((R9.new w v 26).alloc (.cells (aV u) 26)).alloc (.cells (aV z9) 26), by have h := (R9.new (w.alloc (.cells (aV v) 26)) u 26).alloc (.cells (aV z9) 26); simp at h; exact h, by have h := R9.new ((w.alloc (.cells (aV v) 26)).alloc (.cells (aV u) 26)) z9 26; simp at h; exact h⟩
  have hB := Lib.hid (bal3 w (.cells (aV v) 26) (.cells (aV u) 26) (.cells (aV z9) 26))
  have hz : w.heap.size + 3 = (((w.alloc (.cells (aV v) 26)).alloc (.cells (aV u) 26)).alloc (.cells (aV z9) 26)).heap.size := by simp
  replace hz := Lib.hid hz
  go_enter Try.func18, Try.ntmps18
  go_wp2_with (fail)
  generalize ((w.alloc (.cells (aV v) 26)).alloc (.cells (aV u) 26)).alloc (.cells (aV z9) 26) = W at *
  have hS4 := Lib.hid (hS.out.below (below_drew W))
  have hS5 := Lib.hid (hS.out.below (bdr (al0 W (.cells (aV z9) 26))))
  obtain ⟨c0, c1, c2, c3, c4, c5, c6, c7, c8⟩ := R9.v9 hS4.out.1
  obtain ⟨g0, g1, g2, g3, g4, g5, g6, g7, g8⟩ := R9.v9 hS4.out.2.1
  obtain ⟨a0, a1, a2, a3, a4, a5, a6, a7, a8⟩ := R9.v9 hS5.out.1
  obtain ⟨b0, b1, b2, b3, b4, b5, b6, b7, b8⟩ := R9.v9 hS5.out.2.1
  go_upto_region 1 with (fail)
  go_cut [5] from 5 to 15 (fun x wx => ∃ p, x = .pointer (some ⟨p, 0, none⟩) ∧ Hid (W.heap.size ≤ p ∧ R9 26 p (mgS v u 0) wx ∧ Below W.heap.size W wx))
  case first =>
    have hnw : Hid (R9 26 W.heap.size z9 (W.alloc (.cells #[.int .i64 0, .bool false, .bool false, .bool false, .bool false, .int .u64 0, .int .u64 0, .int .u64 0, .int .u64 0] 26)).drew) := Lib.hid (R9.new W z9 _)
    have hxa : Hid (Below W.heap.size W W.drew) := Lib.hid (below_drew W)
    have hxb : Hid (Below W.heap.size W (W.alloc (.cells #[.int .i64 0, .bool false, .bool false, .bool false, .bool false, .int .u64 0, .int .u64 0, .int .u64 0, .int .u64 0] 26)).drew) := Lib.hid (bdr (al0 W _))
    have hs4 := Lib.hid (S3.mk hS4.out hxa.out)
    have hs5 := Lib.hid (S3.mk hS5.out hxb.out)
    clear c0 c1 c2 c3 c4 c5 c6 c7 c8 g0 g1 g2 g3 g4 g5 g6 g7 g8 a0 a1 a2 a3 a4 a5 a6 a7 a8 b0 b1 b2 b3 b4 b5 b6 b7 b8
    rcases (show v.e < u.e ∨ ¬ v.e < u.e by omega) with hvu | hvu
    all_goals
      go_region_held3 (S3 W w.heap.size v u)
        (first | with_reducible exact hs4.out | with_reducible exact hs5.out | with_reducible exact s5.out | with_reducible exact s4.out | with_reducible exact t5.out (newV _ (moV v u)) | with_reducible exact u5.out (newV _ (moV v u)) | with_reducible exact y5.out | with_reducible exact s4a.out | (go_must (exact (0 : Nat))) | fail)
        (first
          | (go_at_call 23; ((with_reducible refine (mem_any v u _).mono ?_); rintro e w4 ⟨rfl, hB4⟩); have hnw4 : Hid (R9 26 w4.heap.size z9 (w4.alloc (.cells #[.int .i64 0, .bool false, .bool false, .bool false, .bool false, .int .u64 0, .int .u64 0, .int .u64 0, .int .u64 0] 26))) := Lib.hid (R9.new w4 z9 _); (first | (have q4 : Hid (R9 26 W.heap.size z9 w4) := Lib.hid (by with_reducible exact R9.below hnw.out hB4); have s4 : Hid (S3 W w.heap.size v u w4) := Lib.hid (by with_reducible exact S3.fo hB4 hs5.out)) | (have s4 : Hid (S3 W w.heap.size v u w4) := Lib.hid (by with_reducible exact S3.fo hB4 hs4.out); have s4a : Hid (S3 W w.heap.size v u (w4.alloc (.cells #[.int .i64 0, .bool false, .bool false, .bool false, .bool false, .int .u64 0, .int .u64 0, .int .u64 0, .int .u64 0] 26))) := Lib.hid (S3.of s4.out (al0 _ _))) | fail))
          | (go_at_call 12; ((with_reducible refine (new_any _ (moV v u) _).mono ?_); rintro e w5 ⟨rfl, hB5⟩); (first
            | (have q5 : R9 26 W.heap.size z9 w5 := (by with_reducible exact R9.below q4.out hB5); have s5 : Hid (S3 W w.heap.size v u w5) := Lib.hid (by with_reducible exact S3.fo hB5 s4.out); obtain ⟨d0, d1, d2, d3, d4, d5, d6, d7, d8⟩ := R9.v9 q5; obtain ⟨f0, f1, f2, f3, f4, f5, f6, f7, f8⟩ := R9.f9 q5; have p5 := Lib.hid q5; have t5 := Lib.hid (fun (n : V) => S3.put (p := W.heap.size) s5.out ⟨Nat.le_of_eq hz.out, Nat.le_refl _⟩ n); clear q5)
            | (have s5 : Hid (S3 W w.heap.size v u w5) := Lib.hid (by with_reducible exact S3.fo hB5 s4.out); have y5 : Hid (S3 W w.heap.size v u (w5.alloc (.cells #[.int .i64 0, .bool false, .bool false, .bool false, .bool false, .int .u64 0, .int .u64 0, .int .u64 0, .int .u64 0] 26))) := Lib.hid (S3.of s5.out (al0 _ _)); have u5 := Lib.hid (fun (n : V) => S3.of s5.out (al0 w5 (.cells #[.int .i64 n.e, .bool n.h0, .bool n.h1, .bool n.h2, .bool n.h3, .int .u64 n.t0, .int .u64 n.t1, .int .u64 n.t2, .int .u64 n.t3] 26))))
            | (have q5 : R9 26 w4.heap.size z9 w5 := (by with_reducible exact R9.below hnw4.out hB5); have s5 : Hid (S3 W w.heap.size v u w5) := Lib.hid (by with_reducible exact S3.fo hB5 s4a.out); obtain ⟨d0, d1, d2, d3, d4, d5, d6, d7, d8⟩ := R9.v9 q5; obtain ⟨f0, f1, f2, f3, f4, f5, f6, f7, f8⟩ := R9.f9 q5; have p5 := Lib.hid q5; have t5 := Lib.hid (fun (n : V) => S3.put (p := w4.heap.size) s5.out ⟨Nat.le_of_eq hz.out, Below.size s4.out.2.2.2⟩ n); clear q5)
            | fail))
          | fail)
    all_goals
      first
        | (have hm0 : newV u.e (moV v u) = mgS v u 0 := by rw [mgS_0]; unfold mx; rw [if_pos hvu])
        | (have hm0 : newV v.e (moV v u) = mgS v u 0 := by rw [mgS_0]; unfold mx; rw [if_neg (by omega)])
      replace hm0 := Lib.hid hm0
      go_wp2
      go_meet
      rw [← hm0.out]
      first
        | with_reducible exact ⟨_, rfl, Lib.hid ⟨Nat.le_refl _, R9.put9 p5.out _, (t5.out _).2.2.2⟩⟩
        | with_reducible exact ⟨_, rfl, Lib.hid ⟨s4.out.2.2.2.size, R9.put9 p5.out _, (t5.out _).2.2.2⟩⟩
        | with_reducible exact ⟨_, rfl, Lib.hid ⟨s5.out.2.2.2.size, R9.new w5 _ _, (u5.out _).2.2.2⟩⟩
        | fail
  case rest =>
    obtain ⟨p, rfl, hQ⟩ := hcut
    have hWp := hQ.out.1
    have hsW := hz.out
    have hB4 : Hid (B4 w.heap.size p v u (mgS v u 0) wc) := Lib.hid ⟨hS.out.below hQ.out.2.2, hQ.out.2.1⟩
    have hBw : Hid (Below w.heap.size w wc) := Lib.hid (trans0 hB.out hQ.out.2.2)
    have hdr : Hid (B4 w.heap.size p v u (mgS v u 0) wc.drew) := Lib.hid (hB4.out.below (below_drew wc))
    have hBd : Hid (Below w.heap.size w wc.drew) := Lib.hid (trans0 hBw.out (below_drew wc))
    clear hQ hS hB hz hS4 hS5 c0 c1 c2 c3 c4 c5 c6 c7 c8 g0 g1 g2 g3 g4 g5 g6 g7 g8 a0 a1 a2 a3 a4 a5 a6 a7 a8 b0 b1 b2 b3 b4 b5 b6 b7 b8 hB4 hBw
    have hp : w.heap.size + 3 ≤ p := by omega
    clear hWp hsW
    obtain ⟨c0, c1, c2, c3, c4, c5, c6, c7, c8⟩ := R9.v9 hdr.out.1.1
    obtain ⟨g0, g1, g2, g3, g4, g5, g6, g7, g8⟩ := R9.v9 hdr.out.1.2.1
    generalize hn : mgS v u 0 = n at *
    go_upto_region 2 with (fail)
    go_cut [] from 16 to 19 (fun wx => Hid (B4 w.heap.size p (plain v) (plain u) n wx ∧ Below w.heap.size w wx))
    case first =>
      go_region_law ((go_simp; go_at_call 14; ((with_reducible refine (plain_any _ _).mono ?_); rintro e w' ⟨rfl, hB9⟩); (first
        | (have hq5 : Hid (B4 w.heap.size p v u n w') := Lib.hid (by with_reducible exact B4.below hq.out hB9); have hb5 : Hid (Below w.heap.size w w') := Lib.hid (by with_reducible exact trans0 hb.out hB9); obtain ⟨d0, d1, d2, d3, d4, d5, d6, d7, d8⟩ := R9.v9 hq5.out.1.1; obtain ⟨k0, k1, k2, k3, k4, k5, k6, k7, k8⟩ := R9.v9 hq5.out.1.2.1; obtain ⟨f0, f1, f2, f3, f4, f5, f6, f7, f8⟩ := R9.f9 hq5.out.1.1; obtain ⟨m0, m1, m2, m3, m4, m5, m6, m7, m8⟩ := R9.f9 hq5.out.1.2.1; clear hB9)
        | (have hq : Hid (B4 w.heap.size p v u n w') := Lib.hid (by with_reducible exact B4.below hdr.out hB9); have hb : Hid (Below w.heap.size w w') := Lib.hid (by with_reducible exact trans0 hBd.out hB9); obtain ⟨a0, a1, a2, a3, a4, a5, a6, a7, a8⟩ := R9.v9 hq.out.1.1; obtain ⟨b0, b1, b2, b3, b4, b5, b6, b7, b8⟩ := R9.v9 hq.out.1.2.1; clear hB9)
        | fail)))
      all_goals
        go_wp2
        go_meet
        exact Lib.hid ⟨B4.both hq5.out hp (plain v) (plain u), put9_below (put9_below hb5.out (Nat.le_refl _) (plain v)) (by omega) (plain u)⟩
    case rest =>
      have hQ := hcut
      subst hn
      clear hcut hdr hBd c0 c1 c2 c3 c4 c5 c6 c7 c8 g0 g1 g2 g3 g4 g5 g6 g7 g8
      obtain ⟨r, hr⟩ : ∃ r, mgV v u = r := ⟨_, rfl⟩
      have hr' : Hid (plain (mgS v u 4) = r) := Lib.hid hr
      rename_i K1 aK1
      go_wp2
      go_loopw [20] (fun i wr => ∃ j : Nat, j ≤ 4 ∧ i = .int .i64 j ∧ Hid (B4 w.heap.size p (plain v) (plain u) (mgS v u j) wr ∧ Below w.heap.size w wr)) (fun i _ => 4 - (intOf i).toNat)
      case atStart => exact ⟨0, by omega, rfl, hQ⟩
      case round =>
        clear hQ
        obtain ⟨j, hj, rfl, hQ⟩ := hrel
        by_cases hlt : j < 4
        · have ha : wr.drew.cell? ⟨w.heap.size, 5 + j, none⟩ = some (.int .u64 (tt (plain v) j)) := R9.tcell (w := wr.drew) hQ.out.1.1.1 hlt
          have hb : wr.drew.cell? ⟨w.heap.size + 1, 5 + j, none⟩ = some (.int .u64 (tt (plain u) j)) := R9.tcell (w := wr.drew) hQ.out.1.1.2.1 hlt
          have hc : wr.drew.cell? ⟨p, 5 + j, none⟩ = some (.int .u64 (tt (mgS v u j) j)) := R9.tcell (w := wr.drew) hQ.out.1.2 hlt
          have hf : wr.drew.frozen? ⟨p, 5 + j, none⟩ = false := hQ.out.1.2.fz _
          have e1 := Lib.hid (fun x y => @mg_lt v u j x y hlt)
          have e2 := Lib.hid (fun x y => @mg_ge v u j x y hlt)
          generalize hx : tt (plain v) j = x at *
          generalize hy : tt (plain u) j = y at *
          by_cases hxy : x < y
          · have e := Lib.hid (e1.out x y rfl rfl hxy)
            have hQ' := Lib.hid (show B4 w.heap.size p (plain v) (plain u) _ ((wr.setCell ⟨p, 5 + j, none⟩ (.int .u64 y)).drew) ∧ Below w.heap.size w ((wr.setCell ⟨p, 5 + j, none⟩ (.int .u64 y)).drew) from ⟨B4.putT hQ.out.1 hp hlt y, bdrN 1 (hQ.out.2.setCell (p := ⟨p, 5 + j, none⟩) (by show _ ≤ p; omega) _)⟩)
            clear hx hy e1 e2 hQ
            go_wp2
            go_region
            go_wp2
            go_roundw
            case rel => exact ⟨j + 1, by omega, by go_num, Lib.hid (by rw [← e.out]; exact hQ'.out)⟩
            case measure => simp [intOf]; omega
          · have e := Lib.hid (e2.out x y rfl rfl hxy)
            have hQ' := Lib.hid (show B4 w.heap.size p (plain v) (plain u) _ ((wr.setCell ⟨p, 5 + j, none⟩ (.int .u64 x)).drew) ∧ Below w.heap.size w ((wr.setCell ⟨p, 5 + j, none⟩ (.int .u64 x)).drew) from ⟨B4.putT hQ.out.1 hp hlt x, bdrN 1 (hQ.out.2.setCell (p := ⟨p, 5 + j, none⟩) (by show _ ≤ p; omega) _)⟩)
            clear hx hy e1 e2 hQ
            go_wp2
            go_region
            go_wp2
            go_roundw
            case rel => exact ⟨j + 1, by omega, by go_num, Lib.hid (by rw [← e.out]; exact hQ'.out)⟩
            case measure => simp [intOf]; omega
        · obtain rfl : j = 4 := by omega
          obtain ⟨c0, c1, c2, c3, c4, c5, c6, c7, c8⟩ := R9.v9 hQ.out.1.2
          go_wp2_with (fail)
          refine (plain_any (mgS v u 4) _).mono ?_
          rintro e w9 ⟨rfl, hB9⟩
          have hZ9 := Lib.hid (R9.below hQ.out.1.1.2.2 hB9)
          have hB10 := Lib.hid (trans0 hQ.out.2 hB9)
          obtain ⟨d0, d1, d2, d3, d4, d5, d6, d7, d8⟩ := R9.v9 hZ9.out
          obtain ⟨f0, f1, f2, f3, f4, f5, f6, f7, f8⟩ := R9.f9 hZ9.out
          clear hB9 c0 c1 c2 c3 c4 c5 c6 c7 c8
          rw [hr'.out]
          clear hr
          go_wp2
          exact bodyPost_ret (v := vV r) (by simp [results, Try.results18, go_sem, d0, d1, d2, d3, d4, d5, d6, d7, d8]) rfl ⟨by rw [← hr'.out]; rfl, put9_below hB10.out (by omega) r⟩
end Go.Proofs.Ytoeafdpknjeojaa.vecJ
