/- VecLeasts. -/
import Derived.Test.YtoeafdpknjeojaaVecQ
set_option linter.unusedVariables false
set_option linter.unusedSimpArgs false
namespace Go.Proofs.Ytoeafdpknjeojaa.vecR
open Go.ChangeShapes Go.WideShapes Go.ChangeAt Go.RowKit Go.Deep
open vecA vecB vecC vecD vecE vecF vecG vecH vecI vecJ vecK vecP

abbrev T9 : TypeId := 26
def setE (v : V) (e : Int) : V := ⟨e, v.h0, v.h1, v.h2, v.h3, v.t0, v.t1, v.t2, v.t3⟩
theorem R9.setE {b : Nat} {v : V} {w : World} (h : R9 T9 b v w) (e : Int) : R9 T9 b (setE v e) (w.setCell ⟨b, 0, none⟩ (.int .i64 e)) :=
  (h.set 0 _).congr fun i hi => by rcases nine hi with rfl | rfl | rfl | rfl | rfl | rfl | rfl | rfl | rfl <;> rfl
/-- the four boxes -/
abbrev Q4 (s : Nat) (a b c o : V) (w : World) : Prop := R9 T9 s a w ∧ R9 T9 (s + 1) b w ∧ R9 T9 (s + 2) c w ∧ R9 T9 (s + 3) o w
theorem Q4.below {s : Nat} {a b c o : V} {w w1 : World} (h : Q4 s a b c o w) (hB : Below w.heap.size w w1) : Q4 s a b c o w1 := ⟨R9.below h.1 hB, R9.below h.2.1 hB, R9.below h.2.2.1 hB, R9.below h.2.2.2 hB⟩
theorem Q4.blk {s : Nat} {a b c o : V} {w w1 : World} (h : Q4 s a b c o w) (hB : ∀ k, k < s + 4 → w1.heap[k]? = w.heap[k]?) : Q4 s a b c o w1 := ⟨h.1.of_block (hB _ (by omega)), h.2.1.of_block (hB _ (by omega)), h.2.2.1.of_block (hB _ (by omega)), h.2.2.2.of_block (hB _ (by omega))⟩
abbrev SL (W : World) (s : Nat) (a b c o : V) (w : World) : Prop := (V9 s a w ∧ V9 (s + 1) b w ∧ V9 (s + 2) c w) ∧ Q4 s a b c o w ∧ Below W.heap.size W w
theorem SL.mk {W w : World} {s : Nat} {a b c o : V} (h : Q4 s a b c o w) (hB : Below W.heap.size W w) : SL W s a b c o w := ⟨⟨R9.v9 h.1, R9.v9 h.2.1, R9.v9 h.2.2.1⟩, h, hB⟩
theorem SL.fo {W w w1 : World} {s : Nat} {a b c o : V} (hB : Below w.heap.size w w1) (h : SL W s a b c o w) : SL W s a b c o w1 := SL.mk (h.2.1.below hB) (trans0 h.2.2 hB)
theorem SL.put {W w : World} {s p : Nat} {a b c o : V} (h : SL W s a b c o w) (hs : s + 4 ≤ W.heap.size) (hp : W.heap.size ≤ p) (n : V) : SL W s a b c o (put9 w p n) := by
  have hb := put9_below (B := W.heap.size) h.2.2 hp n
  have hb0 : Below W.heap.size w (put9 w p n) := put9_below (Below.refl _ _) hp n
  exact SL.mk (h.2.1.blk fun k hk => hb0.block k (by omega)) hb
/-- all five boxes -/
abbrev SX (w0 : World) (p : Nat) (a b c o m : V) (w : World) : Prop := (V9 w0.heap.size a w ∧ V9 (w0.heap.size + 1) b w ∧ V9 (w0.heap.size + 2) c w ∧ V9 p m w) ∧ (Q4 w0.heap.size a b c o w ∧ R9 T9 p m w) ∧ Below w0.heap.size w0 w
theorem SX.mk {w0 w : World} {p : Nat} {a b c o m : V} (h : Q4 w0.heap.size a b c o w) (hm : R9 T9 p m w) (hB : Below w0.heap.size w0 w) : SX w0 p a b c o m w := ⟨⟨R9.v9 h.1, R9.v9 h.2.1, R9.v9 h.2.2.1, R9.v9 hm⟩, ⟨h, hm⟩, hB⟩
theorem SX.fo {w0 w w1 : World} {p : Nat} {a b c o m : V} (hB : Below w.heap.size w w1) (h : SX w0 p a b c o m w) : SX w0 p a b c o m w1 := SX.mk (h.2.1.1.below hB) (R9.below h.2.1.2 hB) (trans0 h.2.2 hB)
abbrev SY (w0 : World) (p : Nat) (q m : V) (w : World) : Prop := (V9 (w0.heap.size + 3) q w ∧ V9 p m w) ∧ (R9 T9 (w0.heap.size + 3) q w ∧ R9 T9 p m w) ∧ Below w0.heap.size w0 w
theorem SY.mk {w0 w : World} {p : Nat} {a b c q m : V} (h : SX w0 p a b c q m w) : SY w0 p q m w := ⟨⟨R9.v9 h.2.1.1.2.2.2, R9.v9 h.2.1.2⟩, ⟨h.2.1.1.2.2.2, h.2.1.2⟩, h.2.2⟩
theorem SY.fo {w0 w w1 : World} {p : Nat} {q m : V} (hB : Below w.heap.size w w1) (h : SY w0 p q m w) : SY w0 p q m w1 := ⟨⟨R9.v9 (R9.below h.2.1.1 hB), R9.v9 (R9.below h.2.1.2 hB)⟩, ⟨R9.below h.2.1.1 hB, R9.below h.2.1.2 hB⟩, trans0 h.2.2 hB⟩
set_option maxRecDepth 100000 in
set_option maxHeartbeats 4000000 in
theorem leasts_any (a b0 c0 o0 : V) (w : World) (ho : 0 ≤ o0.t0 ∧ 0 ≤ o0.t1 ∧ 0 ≤ o0.t2 ∧ 0 ≤ o0.t3) : Calls Try.prog 5 #[vV a, vV b0, vV c0, vV o0] w fun r w' => r = .returned (.bool true) ∧ Below w.heap.size w w' := by
  have hQ : Hid (Q4 w.heap.size a b0 c0 o0 ((((w.alloc (.cells (aV a) T9)).alloc (.cells (aV b0) T9)).alloc (.cells (aV c0) T9)).alloc (.cells (aV o0) T9))) := Lib.hid ⟨(((R9.new w a T9).alloc (.cells (aV b0) T9)).alloc (.cells (aV c0) T9)).alloc (.cells (aV o0) T9), by have h := ((R9.new (w.alloc (.cells (aV a) T9)) b0 T9).alloc (.cells (aV c0) T9)).alloc (.cells (aV o0) T9); simp at h; exact h, by have h := (R9.new ((w.alloc (.cells (aV a) T9)).alloc (.cells (aV b0) T9)) c0 T9).alloc (.cells (aV o0) T9); simp at h; exact h, by have h := R9.new (((w.alloc (.cells (aV a) T9)).alloc (.cells (aV b0) T9)).alloc (.cells (aV c0) T9)) o0 T9; simp at h; exact h⟩
  have hB := Lib.hid (bal4 w (.cells (aV a) T9) (.cells (aV b0) T9) (.cells (aV c0) T9) (.cells (aV o0) T9))
  have hz : Hid (w.heap.size + 4 ≤ ((((w.alloc (.cells (aV a) T9)).alloc (.cells (aV b0) T9)).alloc (.cells (aV c0) T9)).alloc (.cells (aV o0) T9)).heap.size) := Lib.hid (by simp)
  replace ho := Lib.hid ho
  go_enter Try.func5, Try.ntmps5
  go_wp2_with (fail)
  generalize (((w.alloc (.cells (aV a) 26)).alloc (.cells (aV b0) 26)).alloc (.cells (aV c0) 26)).alloc (.cells (aV o0) 26) = W0 at *
  have hD : Hid (Q4 w.heap.size a (setE b0 a.e) (setE c0 a.e) (setE o0 a.e) ((((W0.setCell ⟨w.heap.size + 1, 0, none⟩ (.int .i64 a.e)).setCell ⟨w.heap.size + 2, 0, none⟩ (.int .i64 a.e)).setCell ⟨w.heap.size + 3, 0, none⟩ (.int .i64 a.e)).drew)) := Lib.hid
    ⟨((hQ.out.1.setOther (a := ⟨w.heap.size + 1, 0, none⟩) (by simp) _).setOther (a := ⟨w.heap.size + 2, 0, none⟩) (by simp) _).setOther (a := ⟨w.heap.size + 3, 0, none⟩) (by simp) _,
     ((R9.setE hQ.out.2.1 a.e).setOther (a := ⟨w.heap.size + 2, 0, none⟩) (by simp) _).setOther (a := ⟨w.heap.size + 3, 0, none⟩) (by simp) _,
     (R9.setE (hQ.out.2.2.1.setOther (a := ⟨w.heap.size + 1, 0, none⟩) (by simp) _) a.e).setOther (a := ⟨w.heap.size + 3, 0, none⟩) (by simp) _,
     R9.setE ((hQ.out.2.2.2.setOther (a := ⟨w.heap.size + 1, 0, none⟩) (by simp) _).setOther (a := ⟨w.heap.size + 2, 0, none⟩) (by simp) _) a.e⟩
  have hBd : Hid (Below w.heap.size w ((((W0.setCell ⟨w.heap.size + 1, 0, none⟩ (.int .i64 a.e)).setCell ⟨w.heap.size + 2, 0, none⟩ (.int .i64 a.e)).setCell ⟨w.heap.size + 3, 0, none⟩ (.int .i64 a.e)).drew)) := Lib.hid (bdrN 1 (((hB.out.setCell (p := ⟨w.heap.size + 1, 0, none⟩) (by simp) _).setCell (p := ⟨w.heap.size + 2, 0, none⟩) (by simp) _).setCell (p := ⟨w.heap.size + 3, 0, none⟩) (by simp) _))
  have hzd : Hid (w.heap.size + 4 ≤ ((((W0.setCell ⟨w.heap.size + 1, 0, none⟩ (.int .i64 a.e)).setCell ⟨w.heap.size + 2, 0, none⟩ (.int .i64 a.e)).setCell ⟨w.heap.size + 3, 0, none⟩ (.int .i64 a.e)).drew).heap.size) := Lib.hid (by simp; exact hz.out)
  have x0 : W0.cell? ⟨w.heap.size, 0, none⟩ = some (.int .i64 a.e) := hQ.out.1.cell (i := 0) (by omega)
  have x1 : W0.cell? ⟨w.heap.size + 1, 0, none⟩ = some (.int .i64 b0.e) := hQ.out.2.1.cell (i := 0) (by omega)
  have x2 : W0.cell? ⟨w.heap.size + 1 + 1, 0, none⟩ = some (.int .i64 c0.e) := hQ.out.2.2.1.cell (i := 0) (by omega)
  have x3 : W0.cell? ⟨w.heap.size + 1 + 1 + 1, 0, none⟩ = some (.int .i64 o0.e) := hQ.out.2.2.2.cell (i := 0) (by omega)
  have f1 : W0.frozen? ⟨w.heap.size + 1, 0, none⟩ = false := hQ.out.2.1.fz 0
  have f2 : W0.frozen? ⟨w.heap.size + 1 + 1, 0, none⟩ = false := hQ.out.2.2.1.fz 0
  have f3 : W0.frozen? ⟨w.heap.size + 1 + 1 + 1, 0, none⟩ = false := hQ.out.2.2.2.fz 0
  have hQB : Hid (R9 T9 w.heap.size a W0) := Lib.hid hQ.out.1
  clear hQ hB hz
  go_upto_region 1 with (fail)
  go_cut [] from 11 to 19 (fun wx => Hid (Q4 w.heap.size a (setE b0 a.e) (setE c0 a.e) (setE o0 a.e) wx ∧ Below w.heap.size w wx ∧ w.heap.size + 4 ≤ wx.heap.size))
  case first =>
    go_region
    all_goals
      go_wp2
      go_meet
      first | with_reducible exact Lib.hid ⟨hD.out, hBd.out, hzd.out⟩ | (go_must (exact (0 : Nat)))
  case rest =>
    obtain ⟨hQ1, hB1, hz1⟩ := hcut.out
    replace hQ1 := Lib.hid hQ1
    replace hB1 := Lib.hid hB1
    clear hcut hD hBd hzd x0 x1 x2 x3 f1 f2 f3 hQB
    obtain ⟨b, hb⟩ : ∃ b, setE b0 a.e = b := ⟨_, rfl⟩
    obtain ⟨c, hc⟩ : ∃ c, setE c0 a.e = c := ⟨_, rfl⟩
    obtain ⟨o, hoo⟩ : ∃ o, setE o0 a.e = o := ⟨_, rfl⟩
    have he1 : Hid (a.e = b.e) := Lib.hid (by rw [← hb]; rfl)
    have he2 : Hid (b.e = c.e) := Lib.hid (by rw [← hb, ← hc]; rfl)
    have hop : Hid (0 ≤ (plain o).t0 ∧ 0 ≤ (plain o).t1 ∧ 0 ≤ (plain o).t2 ∧ 0 ≤ (plain o).t3) := Lib.hid (by rw [← hoo]; exact ⟨tm_nonneg ho.out.1, tm_nonneg ho.out.2.1, tm_nonneg ho.out.2.2.1, tm_nonneg ho.out.2.2.2⟩)
    rw [hb, hc, hoo] at hQ1
    clear hb hc hoo ho
    obtain ⟨m, hm⟩ : ∃ m, mgV (mgV a b) c = m := ⟨_, rfl⟩
    obtain ⟨x1, hx1⟩ : ∃ x, mgV a b = x := ⟨_, rfl⟩
    obtain ⟨x2, hx2⟩ : ∃ x, mgV b c = x := ⟨_, rfl⟩
    obtain ⟨q, hq⟩ : ∃ q, plain o = q := ⟨_, rfl⟩
    have hm2 : mgV a x2 = m := by rw [← hx2, ← hm]; exact (mg_assoc he1.out he2.out).symm
    have k1 := Lib.hid (fun wx => hx1 ▸ merge_any a b wx)
    have k2 := Lib.hid (fun wx => (hx1 ▸ hm : mgV x1 c = m) ▸ merge_any x1 c wx)
    have k3 := Lib.hid (fun wx => hx2 ▸ merge_any b c wx)
    have k4 := Lib.hid (fun wx => hm2 ▸ merge_any a x2 wx)
    have ka := Lib.hid (fun wx => (hm ▸ up_a he1.out he2.out : lq (plain a) m 4 = true) ▸ leq_any (plain a) m wx)
    have kb := Lib.hid (fun wx => (hm ▸ up_b he1.out he2.out : lq (plain b) m 4 = true) ▸ leq_any (plain b) m wx)
    have kc := Lib.hid (fun wx => (hm ▸ up_c he1.out he2.out : lq (plain c) m 4 = true) ▸ leq_any (plain c) m wx)
    have kq := Lib.hid (fun wx => hq ▸ plain_any o wx)
    have hlst : Hid (lq a q 4 = true → lq b q 4 = true → lq c q 4 = true → lq m q 4 = true) := Lib.hid (by rw [← hm, ← hq]; exact least3 he1.out he2.out hop.out)
    have e1 : ∀ wx, (binOp .neq 26 (vV m) (vV m)).run Try.prog wx = .ok (.bool false) wx := fun wx => by rw [neq_p]; simp
    clear hm hx1 hx2 hq hm2 he1 he2 hop
    obtain ⟨W, hW⟩ : ∃ W, wc = W := ⟨_, rfl⟩
    rw [hW] at hQ1 hB1 hz1
    rw [hW]
    clear hW
    have hz : Hid (w.heap.size + 4 ≤ W.heap.size) := Lib.hid hz1
    clear hz1
    have hnw : Hid (R9 26 W.heap.size z9 (W.alloc (.cells #[.int .i64 0, .bool false, .bool false, .bool false, .bool false, .int .u64 0, .int .u64 0, .int .u64 0, .int .u64 0] 26)).drew) := Lib.hid (R9.new W z9 _)
    have hs4 : Hid (SL W w.heap.size a b c o W.drew) := Lib.hid (SL.mk (hQ1.out.below (below_drew W)) (below_drew W))
    have hs5 : Hid (SL W w.heap.size a b c o (W.alloc (.cells #[.int .i64 0, .bool false, .bool false, .bool false, .bool false, .int .u64 0, .int .u64 0, .int .u64 0, .int .u64 0] 26)).drew) := Lib.hid (SL.mk (hQ1.out.below (bdr (al0 W _))) (bdr (al0 W _)))
    go_upto_region 2 with (fail)
    go_cut [9] from 9 to 24 (fun x wx => ∃ p, x = .pointer (some ⟨p, 0, none⟩) ∧ Hid (W.heap.size ≤ p ∧ SL W w.heap.size a b c o wx ∧ R9 T9 p m wx))
    case first =>
      go_region_held3 (SL W w.heap.size a b c o)
        (first | with_reducible exact hs4.out | with_reducible exact hs5.out | with_reducible exact s5.out | with_reducible exact s4.out | with_reducible exact t5.out m | with_reducible exact u5.out m | with_reducible exact y5.out | with_reducible exact s4a.out | (go_must (exact (0 : Nat))) | fail)
        (first
          | (go_at_call 18; ((with_reducible refine (k1.out _).mono ?_); rintro e w4 ⟨rfl, hB4⟩); have hnw4 : Hid (R9 26 w4.heap.size z9 (w4.alloc (.cells #[.int .i64 0, .bool false, .bool false, .bool false, .bool false, .int .u64 0, .int .u64 0, .int .u64 0, .int .u64 0] 26))) := Lib.hid (R9.new w4 z9 _); (first | (have q4 : Hid (R9 26 W.heap.size z9 w4) := Lib.hid (by with_reducible exact R9.below hnw.out hB4); have s4 : Hid (SL W w.heap.size a b c o w4) := Lib.hid (by with_reducible exact SL.fo hB4 hs5.out)) | (have s4 : Hid (SL W w.heap.size a b c o w4) := Lib.hid (by with_reducible exact SL.fo hB4 hs4.out); have s4a : Hid (SL W w.heap.size a b c o (w4.alloc (.cells #[.int .i64 0, .bool false, .bool false, .bool false, .bool false, .int .u64 0, .int .u64 0, .int .u64 0, .int .u64 0] 26))) := Lib.hid (SL.fo (al0 _ _) s4.out)) | fail))
          | (go_at_call 18; ((with_reducible refine (k2.out _).mono ?_); rintro e w5 ⟨rfl, hB5⟩); (first
            | (have q5 : R9 26 W.heap.size z9 w5 := (by with_reducible exact R9.below q4.out hB5); have s5 : Hid (SL W w.heap.size a b c o w5) := Lib.hid (by with_reducible exact SL.fo hB5 s4.out); obtain ⟨d0, d1, d2, d3, d4, d5, d6, d7, d8⟩ := R9.v9 q5; obtain ⟨f0, f1, f2, f3, f4, f5, f6, f7, f8⟩ := R9.f9 q5; have p5 := Lib.hid q5; have t5 := Lib.hid (fun (n : V) => SL.put s5.out hz.out (Nat.le_refl _) n); clear q5)
            | (have s5 : Hid (SL W w.heap.size a b c o w5) := Lib.hid (by with_reducible exact SL.fo hB5 s4.out); have y5 : Hid (SL W w.heap.size a b c o (w5.alloc (.cells #[.int .i64 0, .bool false, .bool false, .bool false, .bool false, .int .u64 0, .int .u64 0, .int .u64 0, .int .u64 0] 26))) := Lib.hid (SL.fo (al0 _ _) s5.out); have u5 := Lib.hid (fun (n : V) => SL.fo (al0 w5 (.cells #[.int .i64 n.e, .bool n.h0, .bool n.h1, .bool n.h2, .bool n.h3, .int .u64 n.t0, .int .u64 n.t1, .int .u64 n.t2, .int .u64 n.t3] 26)) s5.out))
            | (have q5 : R9 26 w4.heap.size z9 w5 := (by with_reducible exact R9.below hnw4.out hB5); have s5 : Hid (SL W w.heap.size a b c o w5) := Lib.hid (by with_reducible exact SL.fo hB5 s4a.out); obtain ⟨d0, d1, d2, d3, d4, d5, d6, d7, d8⟩ := R9.v9 q5; obtain ⟨f0, f1, f2, f3, f4, f5, f6, f7, f8⟩ := R9.f9 q5; have p5 := Lib.hid q5; have t5 := Lib.hid (fun (n : V) => SL.put s5.out hz.out (Below.size s4.out.2.2) n); clear q5)
            | fail))
          | fail)
      all_goals
        go_wp2
        go_meet
        first
          | with_reducible exact ⟨_, rfl, Lib.hid ⟨Nat.le_refl _, t5.out _, R9.put9 p5.out _⟩⟩
          | with_reducible exact ⟨_, rfl, Lib.hid ⟨s4.out.2.2.size, t5.out _, R9.put9 p5.out _⟩⟩
          | with_reducible exact ⟨_, rfl, Lib.hid ⟨s5.out.2.2.size, u5.out _, R9.new w5 _ _⟩⟩
          | fail
    case rest =>
      obtain ⟨p, rfl, hR⟩ := hcut
      have hpz : w.heap.size + 4 ≤ p := Nat.le_trans hz.out hR.out.1
      have hS0 := Lib.hid (show SX w p a b c o m wc.drew from SX.mk hR.out.2.1.2.1 hR.out.2.2 (trans0 (trans0 hB1.out hR.out.2.1.2.2) (below_drew wc)))
      clear hR hs4 hs5 hnw hz hB1 hQ1 k1 k2
      go_upto_region 3 with (fail)
      go_region_held3 (SX w p a b c o m)
        (first | with_reducible exact hS0.out | with_reducible assumption | with_reducible exact SX.fo (by assumption) (by assumption) | (go_must (exact (0 : Nat))) | fail)
        (first
          | (go_at_call 18; ((with_reducible refine (k3.out _).mono ?_); rintro e w' ⟨rfl, hB9⟩))
          | (go_at_call 18; ((with_reducible refine (k4.out _).mono ?_); rintro e w' ⟨rfl, hB9⟩))
          | (go_at_call 14; ((with_reducible refine (plain_any _ _).mono ?_); rintro e w' ⟨rfl, hB9⟩))
          | (go_at_call 20; ((with_reducible refine (ka.out _).mono ?_); rintro e w' ⟨rfl, hB9⟩))
          | (go_at_call 20; ((with_reducible refine (kb.out _).mono ?_); rintro e w' ⟨rfl, hB9⟩))
          | (go_at_call 20; ((with_reducible refine (kc.out _).mono ?_); rintro e w' ⟨rfl, hB9⟩))
          | fail)
      rename_i hH
      have hS := Lib.hid hH
      clear hH hS0 hB9
      obtain ⟨d0, d1, d2, d3, d4, d5, d6, d7, d8⟩ := R9.v9 hS.out.2.1.1.2.2.2
      go_wp2_with (fail)
      refine (kq.out _).mono ?_
      rintro e w2 ⟨rfl, hB2⟩
      have hS2 := Lib.hid (SX.fo hB2 hS.out)
      clear hB2 hS d0 d1 d2 d3 d4 d5 d6 d7 d8
      obtain ⟨d0, d1, d2, d3, d4, d5, d6, d7, d8⟩ := R9.v9 hS2.out.2.1.1.2.2.2
      obtain ⟨f0, f1, f2, f3, f4, f5, f6, f7, f8⟩ := R9.f9 hS2.out.2.1.1.2.2.2
      have hS3 := Lib.hid (show SX w p a b c q m (put9 w2 (w.heap.size + 3) q) from SX.mk ⟨R9.other9 hS2.out.2.1.1.1 (by omega) q, R9.other9 hS2.out.2.1.1.2.1 (by omega) q, R9.other9 hS2.out.2.1.1.2.2.1 (by omega) q, R9.put9 hS2.out.2.1.1.2.2.2 q⟩ (R9.other9 hS2.out.2.1.2 (by omega) q) (put9_below hS2.out.2.2 (by omega) q))
      go_upto_region 6 with (fail)
      obtain ⟨X, hX⟩ : ∃ X, put9 w2 (w.heap.size + 1 + 1 + 1) q = X := ⟨_, rfl⟩
      rw [show w.heap.size + 1 + 1 + 1 = w.heap.size + 3 from rfl] at hX
      rw [hX] at hS3
      unfold put9 at hX
      rw [show w.heap.size + 1 + 1 + 1 = w.heap.size + 3 from rfl]
      rw [hX]
      clear hX hS2 d0 d1 d2 d3 d4 d5 d6 d7 d8 f0 f1 f2 f3 f4 f5 f6 f7 f8
      obtain ⟨A, hA⟩ : ∃ A, lq a q 4 = A := ⟨_, rfl⟩
      obtain ⟨B, hBB⟩ : ∃ A, lq b q 4 = A := ⟨_, rfl⟩
      obtain ⟨C, hC⟩ : ∃ A, lq c q 4 = A := ⟨_, rfl⟩
      obtain ⟨D, hD⟩ : ∃ A, lq m q 4 = A := ⟨_, rfl⟩
      have lA := Lib.hid (fun wx => hA ▸ leq_any a q wx)
      have lB := Lib.hid (fun wx => hBB ▸ leq_any b q wx)
      have lC := Lib.hid (fun wx => hC ▸ leq_any c q wx)
      have lD := Lib.hid (fun wx => hD ▸ leq_any m q wx)
      rw [hA, hBB, hC, hD] at hlst
      clear hA hBB hC hD ka kb kc kq k3 k4 e1
      go_cut [10] from 55 to 67 (fun x wx => x = .bool (A && (B && C)) ∧ Hid (SX w p a b c q m wx))
      case first =>
        obtain ⟨a0, a1, a2, a3, a4, a5, a6, a7, a8⟩ := hS3.out.1.1
        obtain ⟨q0, q1, q2, q3, q4, q5, q6, q7, q8⟩ := R9.v9 hS3.out.2.1.1.2.2.2
        go_wp2_with (fail)
        refine (lA.out _).mono ?_
        rintro e w4 ⟨rfl, hB4⟩
        have hS4 := Lib.hid (SX.fo hB4 hS3.out)
        clear hS3 a0 a1 a2 a3 a4 a5 a6 a7 a8 q0 q1 q2 q3 q4 q5 q6 q7 q8 hB4
        cases A
        · go_wp2
          go_meet
          exact ⟨rfl, hS4⟩
        · obtain ⟨a0, a1, a2, a3, a4, a5, a6, a7, a8⟩ := hS4.out.1.2.1
          obtain ⟨q0, q1, q2, q3, q4, q5, q6, q7, q8⟩ := R9.v9 hS4.out.2.1.1.2.2.2
          go_wp2_with (fail)
          refine (lB.out _).mono ?_
          rintro e w5 ⟨rfl, hB5⟩
          have hS5 := Lib.hid (SX.fo hB5 hS4.out)
          clear hS4 a0 a1 a2 a3 a4 a5 a6 a7 a8 q0 q1 q2 q3 q4 q5 q6 q7 q8 hB5
          cases B
          · go_wp2
            go_meet
            exact ⟨rfl, hS5⟩
          · obtain ⟨a0, a1, a2, a3, a4, a5, a6, a7, a8⟩ := hS5.out.1.2.2.1
            obtain ⟨q0, q1, q2, q3, q4, q5, q6, q7, q8⟩ := R9.v9 hS5.out.2.1.1.2.2.2
            go_wp2_with (fail)
            refine (lC.out _).mono ?_
            rintro e w6 ⟨rfl, hB6⟩
            have hS6 := Lib.hid (SX.fo hB6 hS5.out)
            clear hS5 a0 a1 a2 a3 a4 a5 a6 a7 a8 q0 q1 q2 q3 q4 q5 q6 q7 q8 hB6
            go_wp2
            go_meet
            exact ⟨by cases C <;> rfl, hS6⟩
      case rest =>
        obtain ⟨rfl, hS7⟩ := hcut
        have hAD : Hid ((A && (B && C)) = true → D = true) := Lib.hid (by
          intro h
          simp only [Bool.and_eq_true] at h
          exact hlst.out h.1 h.2.1 h.2.2)
        clear hlst hS3 lA lB lC
        generalize (A && (B && C)) = Y at *
        go_wp2_with (fail)
        refine (awake_any _).mono ?_
        rintro e w8 ⟨rfl, hB8⟩
        have hS8 := Lib.hid (SX.fo hB8 hS7.out)
        clear hB8 hS7
        cases Y
        · go_wp2
          go_ret
          exact ⟨rfl, hS8.out.2.2⟩
        · have hDt := hAD.out rfl
          subst hDt
          obtain ⟨a0, a1, a2, a3, a4, a5, a6, a7, a8⟩ := hS8.out.1.2.2.2
          obtain ⟨q0, q1, q2, q3, q4, q5, q6, q7, q8⟩ := R9.v9 hS8.out.2.1.1.2.2.2
          go_wp2_with (fail)
          refine (lD.out _).mono ?_
          rintro e w9 ⟨rfl, hB9⟩
          have hE := Lib.hid (trans0 hS8.out.2.2 hB9)
          clear hB9 hS8
          go_wp2
          go_ret
          exact ⟨rfl, hE.out⟩
end Go.Proofs.Ytoeafdpknjeojaa.vecR
