/- few. -/
import Derived.Test.YtggoaglcffdcnaaNetSc
namespace Go.Proofs.Ytggoaglcffdcnaa.netSd
open Go.ChangeShapes Go.WideShapes Go.ChangeAt Go.RowKit Go.Deep
open numM rowA byt numA numB numC opn netA netB netC netD netE netG netS netT netL netP netQ netR netRa netRb netRc netRd netRe netSa netX netSb netSc

structure XO where
  m : netO.Op
  A : Option Addr
  c : Nat
def XO.cs (x : XO) : List Value := [.int .i64 x.m.kind, .int .i64 x.m.from_, .int .i64 x.m.to_, .int .i64 x.m.i, .int .i64 x.m.at_, .int .u8 x.m.mask, .slice x.A x.m.body.length x.c]
theorem XO.cs_len (x : XO) : x.cs.length = 7 := rfl
theorem XO.cs_one (x : XO) : ∀ u ∈ x.cs, u.oneCell' = true := by
  intro u hu
  simp only [XO.cs, List.mem_cons, List.not_mem_nil, or_false] at hu
  rcases hu with rfl | rfl | rfl | rfl | rfl | rfl | rfl <;> rfl
/-- what is known of each -/
def OKx (w : World) (x : XO) : Prop := netO.kOp w x.m x.A x.c ∧ x.m.body.length ≤ 200
theorem infoOp : (Try.prog.info? 32).map (fun i => (i.zero, i.size, i.bytes)) = some (some (.agg #[.int .i64 0, .int .i64 0, .int .i64 0, .int .i64 0, .int .i64 0, .int .u8 0, .slice none 0 0]), 7, 72) := by kernel_rfl
theorem row7 (w : World) (v0 v1 v2 v3 v4 v5 v6 : Value) (t : TypeId) : (w.alloc (.cells #[v0, v1, v2, v3, v4, v5, v6] t)).cell? ⟨w.heap.size, 0, none⟩ = some v0 ∧ (w.alloc (.cells #[v0, v1, v2, v3, v4, v5, v6] t)).cell? ⟨w.heap.size, 1, none⟩ = some v1 ∧ (w.alloc (.cells #[v0, v1, v2, v3, v4, v5, v6] t)).cell? ⟨w.heap.size, 2, none⟩ = some v2 ∧
    (w.alloc (.cells #[v0, v1, v2, v3, v4, v5, v6] t)).cell? ⟨w.heap.size, 3, none⟩ = some v3 ∧ (w.alloc (.cells #[v0, v1, v2, v3, v4, v5, v6] t)).cell? ⟨w.heap.size, 4, none⟩ = some v4 ∧ (w.alloc (.cells #[v0, v1, v2, v3, v4, v5, v6] t)).cell? ⟨w.heap.size, 5, none⟩ = some v5 ∧ (w.alloc (.cells #[v0, v1, v2, v3, v4, v5, v6] t)).cell? ⟨w.heap.size, 6, none⟩ = some v6 := by
  have h := fun (j : Nat) (v : Value) (hv : (#[v0, v1, v2, v3, v4, v5, v6] : Array Value)[j]? = some v) => (cell_of_row _ _ j _ t (0, 0) (heap_alloc_new w (.cells #[v0, v1, v2, v3, v4, v5, v6] t))).trans hv
  exact ⟨h 0 _ rfl, h 1 _ rfl, h 2 _ rfl, h 3 _ rfl, h 4 _ rfl, h 5 _ rfl, h 6 _ rfl⟩
/-- what few has gathered -/
def Few (w0 w : World) (k : Nat) (v : Value) (W : World) : Prop :=
  ∃ xs : List XO, xs.length = k ∧ W.ownsRow w.heap.size 32 7 v k (fl XO.cs xs) ∧ (∀ x ∈ xs, OKx w0 x) ∧ Below w.heap.size w W
theorem Few.more {w0 w W2 W3 : World} {k : Nat} {v v' : Value} {xs : List XO} (x : XO) (hl : xs.length = k) (hx : ∀ x ∈ xs, OKx w0 x) (hB : Below w.heap.size w W2) (hO : W2.ownsRow w.heap.size 32 7 v k (fl XO.cs xs)) (hk : OKx w0 x) (hr : W3.ownsRow w.heap.size 32 7 v' (k + 1) (fl XO.cs xs ++ x.cs)) (hg : W2.grownBy W3 v.ownBlock) : Few w0 w (k + 1) v' W3 :=
  ⟨xs ++ [x], by rw [List.length_append, hl]; rfl, by rw [fl_app, fl_one]; exact hr, fun y hy => by
    rcases List.mem_append.1 hy with hy | hy
    · exact hx y hy
    · rw [List.mem_singleton.1 hy]; exact hk, hB.grown hg hB.size (fun b e => (hO.lt b e).1)⟩
set_option maxRecDepth 100000 in
set_option maxHeartbeats 4000000 in
theorem few_any (A : Option Addr) (n c : Nat) (ops : List netO.Op) (most : Nat) (hm : most ≤ 120) (w0 w : World) (hB0 : Below w0.heap.size w0 w) (h1 : Rs w0 netO.QOp 7 A n ops) :
    Calls Try.prog 9 #[.slice A n c, .int .i64 most] w fun e w' => ∃ v k, e = .returned v ∧ k ≤ 120 ∧ Few w0 w k v w' := by
  have hn9 := h1.2.1
  replace h1 := Lib.hid h1
  replace hB0 := Lib.hid hB0
  obtain ⟨i0, hi0, hz0, hz1, hz2⟩ := info_parts infoOp
  go_enter Try.func9, Try.ntmps9
  go_wp2
  go_loopw [5, 6] (fun v i wr => ∃ (k : Nat) (xs : List XO), k ≤ n ∧ k ≤ most ∧ i = .int .i64 k ∧ xs.length = k ∧ Hid (wr.ownsRow w.heap.size 32 7 v k (fl XO.cs xs)) ∧ Hid (∀ x ∈ xs, OKx w0 x) ∧ Hid (Below w.heap.size w wr)) (fun _ i _ => n - (intOf i).toNat)
  case atStart => exact ⟨0, [], by omega, by omega, rfl, rfl, Lib.hid (World.ownsRow_nil _ _ _ 7), Lib.hid (fun x hx => by cases hx), Lib.hid (Below.refl _ _)⟩
  case round =>
    obtain ⟨k, xs, hk, hk3, rfl, hxl, hO, hX, hB⟩ := hrel
    by_cases hlt : k < n ∧ k < most
    · obtain ⟨hlt, h200⟩ := hlt
      obtain ⟨b, off, rfl, hbl, A6, c6, ⟨f0, f1, f2, f3, f4, f5, f6⟩, hkO⟩ : ∃ b off, A = some ⟨b, off, none⟩ ∧ b < w0.heap.size ∧ netO.QOp w0 b (off + k * 7) (ops.getD k default) := by
        rcases h1.out.2.2 with h0 | ⟨b, off, e, h3, h4⟩
        · omega
        · exact ⟨b, off, e, h3, h4 k hlt⟩
      generalize ops.getD k default = M at *
      have ge : ∀ o, wr.cell? ⟨b, o, none⟩ = w0.cell? ⟨b, o, none⟩ := fun o => (hB.out.cell (p := ⟨b, o, none⟩) (Nat.lt_of_lt_of_le hbl hB0.out.size)).trans (hB0.out.cell (p := ⟨b, o, none⟩) hbl)
      rw [← ge] at f0 f1 f2 f3 f4 f5 f6
      obtain ⟨kind, f, t, i, a, y, l⟩ := M
      simp only at f0 f1 f2 f3 f4 f5 f6
      have hl6 : l.length ≤ c6 := hkO.2.2.2.2.2.2.2.1
      have hc6 : c6 ≤ 140737488351232 := hkO.2.2.2.2.2.2.2.2
      have hkI : (k : Int) < (n : Int) := by omega
      have hkM : (k : Int) < (most : Int) := by omega
      obtain ⟨r0, r1, r2, r3, r4, r5, r6⟩ := row7 wr (.int .i64 kind) (.int .i64 f) (.int .i64 t) (.int .i64 i) (.int .i64 a) (.int .u8 y) (.slice A6 l.length c6) 32
      have fz : (wr.alloc (.cells #[.int .i64 kind, .int .i64 f, .int .i64 t, .int .i64 i, .int .i64 a, .int .u8 y, .slice A6 l.length c6] 32)).frozen? ⟨wr.heap.size, 6, none⟩ = false := by simp
      have hB2 := trans0 hB.out (al0 wr (.cells #[.int .i64 kind, .int .i64 f, .int .i64 t, .int .i64 i, .int .i64 a, .int .u8 y, .slice A6 l.length c6] 32))
      have hO2 := World.ownsRow.alloc hO.out (.cells #[.int .i64 kind, .int .i64 f, .int .i64 t, .int .i64 i, .int .i64 a, .int .u8 y, .slice A6 l.length c6] 32)
      have hs2 : wr.heap.size < (wr.alloc (.cells #[.int .i64 kind, .int .i64 f, .int .i64 t, .int .i64 i, .int .i64 a, .int .u8 y, .slice A6 l.length c6] 32)).heap.size := by simp
      generalize hW : wr.alloc (.cells #[.int .i64 kind, .int .i64 f, .int .i64 t, .int .i64 i, .int .i64 a, .int .u8 y, .slice A6 l.length c6] 32) = w2 at *
      have hls := Lib.hid (show k + 1 ≤ maxLen by unfold maxLen; omega)
      have hsw := hB.out.size
      clear ge
      by_cases h200l : l.length ≤ 200
      · have hkx : Hid (OKx w0 ⟨⟨kind, f, t, i, a, y, l⟩, A6, c6⟩) := Lib.hid ⟨hkO, h200l⟩
        have hO2' := Lib.hid hO2
        have hB2' := Lib.hid hB2
        have hI : ¬ (200 : Int) < (l.length : Int) := by omega
        clear hkO h1
        go_wp2_with (at_builtin; refine wpList_gen rfl (.tmp 31) (.tmp 33) 22 rfl w.heap.size 32 i0 _ 7 72 Try.underlying22 hi0 hz0 hz1 hz2 rfl (by decide) _ k (fl XO.cs xs) (by rfl) (World.ownsRow.alloc hO2'.out _) (some ⟨_, 0, none⟩) 1 1 [_, _, _, _, _, _, _] (by rfl) rfl (stand_new _ _ _ _) (by intro u hu; simp only [List.mem_cons, List.not_mem_nil, or_false] at hu; rcases hu with rfl | rfl | rfl | rfl | rfl | rfl | rfl <;> rfl) hls.out (by omega) (by rw [World.size_alloc]; omega) ?_; intro A9 c9 w9 hr9 hg9 hat9; have hF := Lib.hid (Few.more ⟨⟨kind, f, t, i, a, y, l⟩, A6, c6⟩ hxl hX.out (trans0 hB2'.out (al0 _ _)) (World.ownsRow.alloc hO2'.out _) hkx.out hr9 hg9); clear hr9 hg9 hat9)
        obtain ⟨xs9, q1, q2, q3, q4⟩ := hF.out
        replace q2 := Lib.hid q2
        replace q3 := Lib.hid q3
        replace q4 := Lib.hid q4
        clear hF hO2 hB2 hO hX hB hkx
        go_wp2
        go_roundw
        case rel => exact ⟨k + 1, xs9, by omega, by omega, by go_num, q1, q2, q3, q4⟩
        case measure => simp [intOf]; omega
      · obtain ⟨k0, k1, k2, k3, k4, k5, k6, k7, k8⟩ := hkO
        simp only at k0 k1 k2 k3 k4 k5 k6 k7 k8
        obtain ⟨bb, oo, rfl, -⟩ := k6.at (i := 0) (by omega)
        obtain ⟨T, hT, hbT⟩ : ∃ T : List Nat, T.length = 200 ∧ BL w0 (some ⟨bb, oo, none⟩) T.length T := ⟨l.take 200, by rw [List.length_take]; omega, by
          have h2 := k6.take 200 (by omega)
          rw [List.length_take, Nat.min_eq_left (by omega)]
          exact h2⟩
        have hkx : Hid (OKx w0 ⟨⟨kind, f, t, i, a, y, T⟩, some ⟨bb, oo, none⟩, c6⟩) := Lib.hid ⟨⟨k0, k1, k2, k3, k4, k5, hbT, by show T.length ≤ c6; omega, hc6⟩, by show T.length ≤ 200; omega⟩
        have hcs : Hid (XO.cs ⟨⟨kind, f, t, i, a, y, T⟩, some ⟨bb, oo, none⟩, c6⟩ = [.int .i64 kind, .int .i64 f, .int .i64 t, .int .i64 i, .int .i64 a, .int .u8 y, .slice (some ⟨bb, oo, none⟩) 200 c6]) := Lib.hid (by unfold XO.cs; simp only [hT])
        have hI : (200 : Int) < (l.length : Int) := by omega
        have hI2 : (200 : Int) ≤ (c6 : Int) := by omega
        clear k0 k1 k2 k3 k4 k5 k6 k7 k8 hbT h1
        obtain ⟨w3, hw3⟩ : ∃ w3, w2.setCell ⟨wr.heap.size, 6, none⟩ (.slice (some ⟨bb, oo, none⟩) 200 c6) = w3 := ⟨_, rfl⟩
        have hB3 : Below w.heap.size w w3 := by rw [← hw3]; exact hB2.setCell (p := ⟨wr.heap.size, 6, none⟩) hsw _
        have hO3 : w3.ownsRow w.heap.size 32 7 _ k (fl XO.cs xs) := own_block hO2 fun b e => by
          rw [← hw3]
          have := (hO.out.lt b e).2
          exact Below.heap_setCell w2 ⟨wr.heap.size, 6, none⟩ _ b (show b ≠ wr.heap.size by omega)
        have hs3 : wr.heap.size < w3.heap.size := by rw [← hw3, World.size_setCell]; exact hs2
        have g : ∀ j, j ≠ 6 → w3.cell? ⟨wr.heap.size, j, none⟩ = w2.cell? ⟨wr.heap.size, j, none⟩ := fun j hj => by rw [← hw3]; exact World.cell?_setCell_other _ _ _ _ fun e => hj (Addr.mk.inj e).2.1.symm
        have g6 : w3.cell? ⟨wr.heap.size, 6, none⟩ = some (.slice (some ⟨bb, oo, none⟩) 200 c6) := by rw [← hw3]; exact World.cell?_setCell_same _ _ _ r6
        have p0 := (g 0 (by decide)).trans r0
        have p1 := (g 1 (by decide)).trans r1
        have p2 := (g 2 (by decide)).trans r2
        have p3 := (g 3 (by decide)).trans r3
        have p4 := (g 4 (by decide)).trans r4
        have p5 := (g 5 (by decide)).trans r5
        have hO2' := Lib.hid hO3
        have hB2' := Lib.hid hB3
        clear hO2 hB2 hO3 hB3 g r0 r1 r2 r3 r4 r5
        go_wp2_with (at_builtin; refine wpList_gen rfl (.tmp 31) (.tmp 33) 22 rfl w.heap.size 32 i0 _ 7 72 Try.underlying22 hi0 hz0 hz1 hz2 rfl (by decide) _ k (fl XO.cs xs) (by rfl) (World.ownsRow.alloc hO2'.out _) (some ⟨_, 0, none⟩) 1 1 [_, _, _, _, _, _, _] (by rfl) rfl (stand_new _ _ _ _) (by intro u hu; simp only [List.mem_cons, List.not_mem_nil, or_false] at hu; rcases hu with rfl | rfl | rfl | rfl | rfl | rfl | rfl <;> rfl) hls.out (by omega) (by rw [World.size_alloc]; omega) ?_; intro A9 c9 w9 hr9 hg9 hat9; rw [← hcs.out] at hr9; have hF := Lib.hid (Few.more ⟨⟨kind, f, t, i, a, y, T⟩, some ⟨bb, oo, none⟩, c6⟩ hxl hX.out (trans0 hB2'.out (al0 _ _)) (World.ownsRow.alloc hO2'.out _) hkx.out hr9 hg9); clear hr9 hg9 hat9)
        obtain ⟨xs9, q1, q2, q3, q4⟩ := hF.out
        replace q2 := Lib.hid q2
        replace q3 := Lib.hid q3
        replace q4 := Lib.hid q4
        clear hF hO hX hB hkx hw3
        go_wp2
        go_roundw
        case rel => exact ⟨k + 1, xs9, by omega, by omega, by go_num, q1, q2, q3, q4⟩
        case measure => simp [intOf]; omega
    · have hq : k = n ∨ (k = most ∧ most < n) := by omega
      have hE := Lib.hid (show Few w0 w k _ wr from ⟨xs, hxl, hO.out, hX.out, hB.out⟩)
      have h120 : k ≤ 120 := by omega
      clear hO hX hB h1 hxl
      rcases hq with q1 | ⟨q1, q2⟩
      · subst q1
        go_wp2
        go_ret
        exact ⟨_, _, rfl, h120, hE.out⟩
      · subst q1
        have hkI : (k : Int) < (n : Int) := by omega
        go_wp2
        go_ret
        exact ⟨_, _, rfl, h120, hE.out⟩
end Go.Proofs.Ytggoaglcffdcnaa.netSd
