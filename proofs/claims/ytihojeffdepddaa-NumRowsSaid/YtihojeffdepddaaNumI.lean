/- The walk of the statement NumLeaves: a row that is left early has told just so many. -/
import Derived.Test.YtihojeffdepddaaNumH
namespace Go.Proofs.Ytihojeffdepddaa.numI
open Go.ChangeShapes Go.WideShapes Go.ChangeAt Go.RowKit Go.Shelf
open numM numR rowA byt numA numB numC numD numG numH
attribute [local go_sem] Oper.semAt_some

/-- The n numbers at a are ns. -/
def QL (w : World) (a : Option Addr) (n : Nat) (ns : List Nat) : Prop :=
  ns.length = n ∧ n ≤ 9223372036854775807 ∧ (∀ c ∈ ns, c < 18446744073709551616) ∧ (n = 0 ∨ ∃ b off, a = some ⟨b, off, none⟩ ∧ b < w.heap.size ∧ ∀ i, i < n → w.cell? ⟨b, off + i, none⟩ = some (.int .u64 (nth ns i)))
theorem QL.at {w : World} {a : Option Addr} {n : Nat} {l : List Nat} (h : QL w a n l) {i : Nat} (hi : i < n) :
    ∃ b off, a = some ⟨b, off, none⟩ ∧ w.cell? ⟨b, off + i, none⟩ = some (.int .u64 (nth l i)) := by
  rcases h.2.2.2 with h | ⟨b, off, h1, _, h2⟩
  · omega
  · exact ⟨b, off, h1, h2 i hi⟩
theorem QL.step {w w1 : World} {a : Option Addr} {n B : Nat} {l : List Nat} (h : QL w a n l) (hb : Below B w w1) (hB : w.heap.size ≤ B) : QL w1 a n l := by
  refine ⟨h.1, h.2.1, h.2.2.1, h.2.2.2.imp id ?_⟩
  rintro ⟨b, off, rfl, hlt, hc⟩
  refine ⟨b, off, rfl, by have := hb.size; omega, fun i hi => ?_⟩
  rw [hb.cell (p := ⟨b, off + i, none⟩) (show b < B by omega)]
  exact hc i hi
theorem QL.below {w w1 : World} {a : Option Addr} {n : Nat} {l : List Nat} (h : QL w a n l) (hb : Below w.heap.size w w1) : QL w1 a n l := h.step hb (Nat.le_refl _)
theorem row_ql {w : World} {a : Option Addr} {len cap : Nat} {zs : List Int} (h : IsRow .u64 w a len cap zs) : QL w a len ((zs.take len).map Int.toNat) := by
  have hl := row_len h
  have hwf : ∀ n ∈ zs, 0 ≤ n ∧ n < 18446744073709551616 := by
    rcases h with ⟨_, _, _, rfl⟩ | ⟨x, hx, h1, h2, h3, h4, h5⟩
    · simp
    · intro n hn
      have := bounds_u64 (h5 n hn)
      omega
  have hlen : ((zs.take len).map Int.toNat).length = len := by
    rw [List.length_map, List.length_take]
    rcases h with ⟨_, h, _, _⟩ | ⟨x, hx, h1, h2, h3, h4, h5⟩ <;> omega
  refine ⟨hlen, by omega, ?_, ?_⟩
  · intro c hc
    obtain ⟨n, hn, rfl⟩ := List.mem_map.1 hc
    have := hwf n (List.mem_of_mem_take hn)
    omega
  · by_cases h0 : len = 0
    · exact .inl h0
    · rcases h with ⟨_, h, _, _⟩ | ⟨x, hx, h1, h2, h3, h4, h5⟩
      · omega
      · obtain ⟨b, off, rfl, hc⟩ := ints_at h4 (by omega)
        have hc0 := hc 0 (by omega)
        refine .inr ⟨b, off, hx, World.block_lt_of_cell? _ _ hc0, fun i hi => ?_⟩
        have hp : i < zs.length := by omega
        rw [hc i hp]
        have hb := hwf (zs.getD i 0) (by simp [List.getD, hp])
        congr 2
        unfold nth
        rw [List.getD_eq_getElem?_getD, List.getD_eq_getElem?_getD, List.getElem?_map, List.getElem?_take_of_lt hi] at *
        rw [List.getElem?_eq_getElem hp] at *
        show zs[i] = ((zs[i].toNat : Nat) : Int)
        have h0 : 0 ≤ zs[i] := hb.1
        rw [Int.toNat_of_nonneg h0]
theorem uvs_step {ns : List Nat} {j : Nat} (h : j < ns.length) : uvs (ns.take (j + 1)) = uvs (ns.take j) ++ uv (nth ns j) := by
  rw [List.take_succ_eq_append_getElem h, uvs_snoc]
  unfold nth
  rw [List.getD_eq_getElem?_getD, List.getElem?_eq_getElem h]; rfl

/-- what awake answers in the world behind a call's first three boxes -/
theorem awake_at (w W : World) (hB : Below w.heap.size w W) : Calls Try.prog 15 #[] W fun e w' => e = .returned (.bool true) ∧ Below W.heap.size W w' ∧ Below w.heap.size w w' :=
  (awake_any W).mono fun _ _ ⟨he, h⟩ => ⟨he, h, trans0 hB h⟩
theorem keep_cell {W W' : World} (hB : Below W.heap.size W W') {b o : Nat} {v : Value} (h : W.cell? ⟨b, o, none⟩ = some v) : W'.cell? ⟨b, o, none⟩ = some v :=
  (hB.cell (p := ⟨b, o, none⟩) (World.block_lt_of_cell? _ _ h)).trans h
theorem keep_frozen {W W' : World} (hB : Below W.heap.size W W') {b o : Nat} {v : Value} (h : W.cell? ⟨b, o, none⟩ = some v) (hf : W.frozen? ⟨b, o, none⟩ = false) : W'.frozen? ⟨b, o, none⟩ = false :=
  (hB.frozen (p := ⟨b, o, none⟩) (World.block_lt_of_cell? _ _ h)).trans hf

theorem cell_box (w : World) (v : Value) (t : TypeId) : (w.alloc (.cells #[v] t)).cell? ⟨w.heap.size, 0, none⟩ = some v := cell_of_row _ _ 0 #[v] t (0, 0) (heap_alloc_new w _)
theorem frozen_box (w : World) (v : Value) (t : TypeId) : (w.alloc (.cells #[v] t)).frozen? ⟨w.heap.size, 0, none⟩ = false := by simp
theorem new_below (w : World) (o : Obj) : Below w.heap.size w (w.alloc o) := (Below.refl _ w).alloc (Nat.le_refl _) _
/-- three boxes, made one behind the other -/
theorem boxes3 (w : World) (x y z : Value) (s t u : TypeId) (w3 : World) (h : ((w.alloc (.cells #[x] s)).alloc (.cells #[y] t)).alloc (.cells #[z] u) = w3) :
    Below w.heap.size w w3 ∧ w3.cell? ⟨w.heap.size, 0, none⟩ = some x ∧ w3.cell? ⟨w.heap.size + 1, 0, none⟩ = some y ∧ w3.cell? ⟨w.heap.size + 1 + 1, 0, none⟩ = some z ∧ w3.frozen? ⟨w.heap.size + 1 + 1, 0, none⟩ = false ∧ w3.heap.size = w.heap.size + 1 + 1 + 1 := by
  subst h
  have h1 := cell_box w x s
  have h2 := cell_box (w.alloc (.cells #[x] s)) y t
  have h3 := cell_box ((w.alloc (.cells #[x] s)).alloc (.cells #[y] t)) z u
  have h4 := frozen_box ((w.alloc (.cells #[x] s)).alloc (.cells #[y] t)) z u
  have b2 := new_below (w.alloc (.cells #[x] s)) (.cells #[y] t)
  have b3 := new_below ((w.alloc (.cells #[x] s)).alloc (.cells #[y] t)) (.cells #[z] u)
  refine ⟨trans0 (trans0 (new_below w _) b2) b3, keep_cell b3 (keep_cell b2 h1), ?_, ?_, ?_, by simp⟩
  · rw [World.size_alloc] at h2; exact keep_cell b3 h2
  · rw [World.size_alloc, World.size_alloc] at h3; exact h3
  · rw [World.size_alloc, World.size_alloc] at h4; exact h4

set_option maxRecDepth 100000 in
set_option maxHeartbeats 2000000 in
theorem leaves_great (a : Option Addr) (L cap : Nat) (most : Int) (w : World) (hL9 : L ≤ 9223372036854775807) (hL : 10000 < L) :
    Calls Try.prog 10 #[.slice a L cap, .int .i64 most] w fun e w' => e = .returned (.bool true) ∧ Below w.heap.size w w' := by
  obtain ⟨w3, hw3⟩ : ∃ w3, ((w.alloc (.cells #[.slice a L cap] 44)).alloc (.cells #[.int .i64 most] 3)).alloc (.cells #[.bool false] 4) = w3 := ⟨_, rfl⟩
  obtain ⟨hB3, c2, c3, c4, f4, _⟩ := boxes3 w _ _ _ _ _ _ w3 hw3
  replace hw3 := Lib.hid hw3
  replace hB3 := Lib.hid hB3
  go_enter Try.func10, Try.ntmps10
  go_wp2_with (fail)
  rw [hw3.out]
  refine (awake_at w w3 hB3.out).mono ?_
  rintro e w4 ⟨rfl, hB, hB4⟩
  have d2 := keep_cell hB c2
  have d4 := keep_cell hB c4
  have e4 := keep_frozen hB c4 f4
  clear c2 c3 c4 f4 hB
  replace hB4 := Lib.hid hB4
  go_wp2_with (fail)
  refine (awake_at w w4 hB4.out).mono ?_
  rintro e w5 ⟨rfl, hB, hB5⟩
  have g4 := keep_cell hB d4
  have h4 := keep_frozen hB d4 e4
  clear d2 d4 e4 hB
  replace hB5 := Lib.hid hB5
  have hfin := Lib.hid (World.cell?_setCell_same' w5 ⟨w.heap.size + 1 + 1, 0, none⟩ (.bool true) (by rw [g4]; rfl))
  go_wp2
  exact bodyPost_ret (v := .bool true) (by simp [results, Try.f10, go_sem, hfin.out]) rfl ⟨rfl, hB5.out.setCell (p := ⟨w.heap.size + 1 + 1, 0, none⟩) (show w.heap.size ≤ w.heap.size + 1 + 1 by omega) _⟩

/-- the call's four boxes: what the slice and the bound were, the answer so far, how many are told -/
def Bx4 (B0 B8 : Nat) (a : Option Addr) (L cap : Nat) (most told : Int) (W : World) : Prop :=
  W.cell? ⟨B0, 0, none⟩ = some (.slice a L cap) ∧ W.cell? ⟨B0 + 1, 0, none⟩ = some (.int .i64 most) ∧ W.cell? ⟨B0 + 1 + 1, 0, none⟩ = some (.bool false) ∧ W.frozen? ⟨B0 + 1 + 1, 0, none⟩ = false ∧
  W.cell? ⟨B8, 0, none⟩ = some (.int .i64 told) ∧ W.frozen? ⟨B8, 0, none⟩ = false
theorem Bx4.kept {B0 B8 L cap : Nat} {a : Option Addr} {most told : Int} {W W' : World} {row : Option Nat} (h : Bx4 B0 B8 a L cap most told W) (hg : W.grownBy W' row) (hr : ∀ r, row = some r → ∃ o : Obj, W.heap[r]? = some o ∧ o.isCells = false) : Bx4 B0 B8 a L cap most told W' := by
  obtain ⟨q2, q3, q4, r4, q8, r8⟩ := h
  exact ⟨cell_kept q2 hg hr, cell_kept q3 hg hr, cell_kept q4 hg hr, (frozen_kept q4 hg hr).trans r4, cell_kept q8 hg hr, (frozen_kept q8 hg hr).trans r8⟩
/-- between two rounds -/
def LI (w : World) (B0 B8 : Nat) (a : Option Addr) (L cap : Nat) (ns : List Nat) (most : Int) (pre : List (Nat × Nat)) (W : World) : Prop :=
  (pre.map (·.2) <+: ns ∧ Bx4 B0 B8 a L cap most (pre.length : Nat) W) ∧ Below w.heap.size w W
/-- a round has left -/
def LX (w : World) (B0 B8 : Nat) (a : Option Addr) (L cap : Nat) (xs : List (Nat × Nat)) (most : Int) (c : Code) (pre : List (Nat × Nat)) (W : World) : Prop :=
  ((c = .ret ∧ ¬ pre <+: xs) ∨ (c = .exit 2 ∧ Bx4 B0 B8 a L cap most most W)) ∧ Below w.heap.size w W
theorem LI.from_ {w : World} {B0 B8 L cap C : Nat} {a : Option Addr} {ns : List Nat} {most : Int} (hC : w.heap.size ≤ C) : OwnFrom C (LI w B0 B8 a L cap ns most) :=
  fun _ _ _ _ hs hg hr => ⟨⟨hs.1.1, hs.1.2.kept hg (fun r e => (hr r e).2)⟩, hs.2.grown hg hs.2.size (fun k e => Nat.le_trans hC (hr k e).1)⟩
theorem LX.from_ {w : World} {B0 B8 L cap C : Nat} {a : Option Addr} {xs : List (Nat × Nat)} {most : Int} (hC : w.heap.size ≤ C) (c : Code) : OwnFrom C (LX w B0 B8 a L cap xs most c) :=
  OwnFrom.and (Own.from (I := fun (pre : List (Nat × Nat)) W => (c = .ret ∧ ¬ pre <+: xs) ∨ (c = .exit 2 ∧ Bx4 B0 B8 a L cap most most W)) (fun _ _ _ _ hs hg hr => hs.imp id fun h => ⟨h.1, h.2.kept hg hr⟩) _) (ownFrom_below (Nat.le_refl _) hC)
theorem Bx4.box {B0 B8 L cap : Nat} {a : Option Addr} {most told : Int} {W : World} (h : Bx4 B0 B8 a L cap most told W) (h8 : B0 + 1 + 1 < B8) (t : Int) : Bx4 B0 B8 a L cap most t (W.setCell ⟨B8, 0, none⟩ (.int .i64 t)) := by
  obtain ⟨q2, q3, q4, r4, q8, r8⟩ := h
  refine ⟨?_, ?_, ?_, by rw [World.frozen?_setCell]; exact r4, World.cell?_setCell_same' _ _ _ (by rw [q8]; rfl), by rw [World.frozen?_setCell]; exact r8⟩
  · rw [World.cell?_setCell_other _ _ _ _ (by intro e; injection e with e1; omega)]; exact q2
  · rw [World.cell?_setCell_other _ _ _ _ (by intro e; injection e with e1; omega)]; exact q3
  · rw [World.cell?_setCell_other _ _ _ _ (by intro e; injection e with e1; omega)]; exact q4
theorem prefix_snoc {ns pre : List Nat} (h : pre <+: ns) (hl : pre.length < ns.length) : pre ++ [nth ns pre.length] <+: ns := by
  obtain ⟨r, rfl⟩ := h
  rw [List.length_append] at hl
  rcases r with _ | ⟨y, r⟩
  · simp at hl
  · refine ⟨r, ?_⟩
    have e : nth (pre ++ y :: r) pre.length = y := by unfold nth; rw [List.getD_eq_getElem?_getD]; simp
    rw [e, List.append_assoc]; rfl
theorem prefix_last {ns pre : List Nat} {y : Nat} (h : pre ++ [y] <+: ns) : y = nth ns pre.length := by
  obtain ⟨r, rfl⟩ := h
  unfold nth; rw [List.getD_eq_getElem?_getD]; simp
theorem KR.setCell {lo hi B : Nat} (h : B < lo) (W : World) (v : Value) : KR lo hi W (W.setCell ⟨B, 0, none⟩ v) := fun k h1 _ => Below.heap_setCell W ⟨B, 0, none⟩ v k (show k ≠ B by omega)

set_option maxRecDepth 100000 in
set_option maxHeartbeats 4000000 in
theorem leaves_small (a : Option Addr) (L cap : Nat) (ns : List Nat) (most : Int) (w : World) (hq : QL w a L ns) (hL : L ≤ 10000) :
    Calls Try.prog 10 #[.slice a L cap, .int .i64 most] w fun e w' => e = .returned (.bool true) ∧ Below w.heap.size w w' := by
  obtain ⟨w3, hw3⟩ : ∃ w3, ((w.alloc (.cells #[.slice a L cap] 44)).alloc (.cells #[.int .i64 most] 3)).alloc (.cells #[.bool false] 4) = w3 := ⟨_, rfl⟩
  obtain ⟨hB3, c2, c3, c4, f4, s3⟩ := boxes3 w _ _ _ _ _ _ w3 hw3
  obtain ⟨i0, hi, hz0, hz1, hz2⟩ := info_parts bytes8
  have s3' := Lib.hid s3
  replace hw3 := Lib.hid hw3
  replace hB3 := Lib.hid hB3
  have hL' : (L : Int) ≤ 10000 := by omega
  clear s3
  refine (callsIn_wide (n := 6)).1 ?_
  refine callsIn_of_wp_marks Try.func10 rfl trivial ?_ rfl
  simp only [Try.ntmps10, List.size_toArray, List.length_cons, List.length_nil, Nat.reduceAdd, Nat.reduceSub, Array.replicate_succ, Array.replicate_zero, List.push_toArray, List.append_toArray, List.nil_append, List.cons_append]
  refine wpIn_wide.2 ?_
  go_wp2_with (fail)
  rw [hw3.out]
  refine (awake_at w w3 hB3.out).mono ?_
  rintro e w4 ⟨rfl, hB, hB4⟩
  have d2 := keep_cell hB c2
  have d3 := keep_cell hB c3
  have d4 := keep_cell hB c4
  have e4 := keep_frozen hB c4 f4
  have s4 : w.heap.size + 1 + 1 + 1 ≤ w4.heap.size := by have := hB.size; rw [s3'.out] at this; exact this
  clear c2 c3 c4 f4 hB
  replace hB4 := Lib.hid hB4
  go_wp2_with (fail)
  go_loopw [5, 19] (fun v i wr => ∃ j : Nat, j ≤ L ∧ i = .int .i64 j ∧ byt.Own wr w4.heap.size v (uvs (ns.take j)).length (uvs (ns.take j)) ∧ Below w4.heap.size w4 wr) (fun _ i _ => L - (intOf i).toNat)
  case atStart => exact ⟨0, by omega, rfl, byt.Own.nil_ w4 _, Below.refl _ _⟩
  case round =>
    obtain ⟨j, hj, rfl, hown, hBw⟩ := hrel
    have hqw : QL wr a L ns := hq.below (trans0 hB4.out hBw)
    have hsz := Lib.hid hBw.size
    have hlen : (uvs (ns.take j)).length ≤ 100000 := by
      have := uvs_len (ns.take j) (fun n hn => hq.2.2.1 n (List.mem_of_mem_take hn))
      rw [List.length_take] at this; omega
    by_cases hlt : j < L
    · obtain ⟨b, off, rfl, hc⟩ := hqw.at hlt
      have hn64 := Lib.hid (hq.2.2.1 _ (nth_mem (show j < ns.length by have := hq.1; omega)))
      have hst := Lib.hid (uvs_step (show j < ns.length by have := hq.1; omega))
      replace hown := Lib.hid hown
      have hX2 := uv_len10 hn64.out
      generalize hX : (uv (nth ns j)).length = X at *
      generalize hY : (uvs (ns.take j)).length = Y at *
      replace hX := Lib.hid hX
      replace hY := Lib.hid hY
      clear hqw
      replace hq := Lib.hid hq
      go_wp2_with (fail)
      refine (uvar_any (nth ns j) wr hn64.out).mono ?_
      rintro e w5 ⟨A5, c5, rfl, ho5, hB5⟩
      rw [hX.out] at ho5 ⊢
      have hb5 := Lib.hid (own_bl ho5)
      have ho6 := Lib.hid (byt.Own.below hown.out hB5 (Nat.le_refl _))
      have hB6 := Lib.hid (trans0 hBw hB5)
      clear ho5 hown hBw hB5
      go_wp2_with (at_builtin; (refine wpList_app rfl _ _ 23 rfl w4.heap.size i0 Try.underlying23 hi hz0 hz1 hz2 _ _ (uvs (ns.take j)) rfl ho6.out A5 X c5 (uv (nth ns j)) rfl hb5.out ?c1 ?c2 ?_))
      case c1 => omega
      case c2 => exact hB6.out.size
      intro v' w7 hown7 hgrow
      replace hown7 := Lib.hid hown7
      have hBn := Lib.hid (ho6.out.grown hB6.out hgrow hB6.out.size)
      clear hgrow
      go_wp2
      go_roundw
      case rel => exact ⟨j + 1, by omega, by go_num, by have h := hown7.out; rw [hst.out, List.length_append, hX.out, hY.out]; exact h, hBn.out⟩
      case measure => simp [intOf]; omega
    · obtain rfl : L = j := by omega
      have e1 : ns.take L = ns := List.take_of_length_le (by have := hq.1; omega)
      rw [e1] at hown hlen
      obtain ⟨A, c, rfl, p1, p2, p3, p4, hb⟩ := hown.form
      have hb5 := Lib.hid hb
      have hB5 := Lib.hid (trans0 hB4.out hBw)
      have g2 := keep_cell hBw d2
      have g3 := keep_cell hBw d3
      have g4 := keep_cell hBw d4
      have k4 := keep_frozen hBw d4 e4
      have p3' := Lib.hid p3
      replace hq := Lib.hid hq
      replace hlen := Lib.hid hlen
      clear hown hBw hb d2 d3 d4 e4 e1 hqw p3 p4
      go_wp2_with (fail)
      obtain ⟨wb, hwb⟩ : ∃ wb, wr.alloc (.cells #[.int .i64 0] 3) = wb := ⟨_, rfl⟩
      have hBb : Below wr.heap.size wr wb := by rw [← hwb]; exact new_below wr _
      have g8 : wb.cell? ⟨wr.heap.size, 0, none⟩ = some (.int .i64 0) := by rw [← hwb]; exact cell_box wr _ _
      have k8 : wb.frozen? ⟨wr.heap.size, 0, none⟩ = false := by rw [← hwb]; exact frozen_box wr _ _
      have sb : wb.heap.size = wr.heap.size + 1 := by rw [← hwb]; simp
      rw [hwb]
      refine (uvars_any A _ c (uvs ns) wb (hb5.out.below hBb) p3'.out p1 (by have := hlen.out; omega)).mono ?_
      rintro e w6 ⟨B, A6, c6, rfl, hI6, hB6⟩
      have hbb := hBb
      have m2 := keep_cell hB6 (keep_cell hBb g2)
      have m3 := keep_cell hB6 (keep_cell hBb g3)
      have m4 := keep_cell hB6 (keep_cell hBb g4)
      have n4 := keep_frozen hB6 (keep_cell hBb g4) (keep_frozen hBb g4 k4)
      have m8 := keep_cell hB6 g8
      have n8 := keep_frozen hB6 g8 k8
      have hB7 := Lib.hid (trans0 (trans0 hB5.out hBb) hB6)
      have sz := hsz.out
      have s6 := hB6.size
      rw [sb] at s6
      replace sb := Lib.hid sb
      replace hI6 := Lib.hid hI6
      clear hwb hBb g2 g3 g4 k4 g8 k8 hB6 hbb hsz
      have hxs : (rws (uvs ns) 0).map (·.2) = ns := rws_uvs ns hq.out.2.2.1 [] (by simp)
      replace hxs := Lib.hid hxs
      go_wp2
      refine (wpIn_wide (n := 6)).1 ?_
      have hwlt : w.heap.size + 1 + 1 < wr.heap.size := by omega
      have hlo : wr.heap.size < wb.heap.size := by have := sb.out; omega
      have hxl : (rws (uvs ns) 0).length = L := by have := congrArg List.length hxs.out; rw [List.length_map] at this; rw [this]; exact hq.out.1
      refine' wpIn_rangeFunc_ownF rfl (by omega) (gf := 29) (lb := #[.pointer (some ⟨B, 0, none⟩)]) rfl trivial (enters_of Try.func29 (by kernel_rfl) rfl)
        (iter_stops 5 (by omega) wb.heap.size w6.heap.size B _ c6 A6 (uvs ns) w6 (Nat.le_refl _) hI6.out) KR.trans (KR.book (Nat.le_refl _)) (Below.refl _ _) (fun _ => rfl)
        (LI w w.heap.size wr.heap.size a L cap ns most) (LX w w.heap.size wr.heap.size a L cap (rws (uvs ns) 0) most) (LI.from_ (by omega)) (LX.from_ (by omega))
        ⟨⟨by simp, m2, m3, m4, n4, m8, n8⟩, hB7.out⟩ _ ?assign ?body ?done ?stop
      case assign =>
        intro l x W K hK
        simp only [encs]
        gi_wp2
        exact hK
      case body =>
        rintro l pre x W ⟨⟨hpre, hbx⟩, hB⟩ hplen
        have hbx' := Lib.hid hbx
        obtain ⟨q2, q3, q4, r4, q8, r8⟩ := hbx
        replace hpre := Lib.hid hpre
        replace hB := Lib.hid hB
        replace hxl := Lib.hid hxl
        replace hplen := Lib.hid hplen
        by_cases hm : (pre.length : Int) = most
        · have hmb : ((pre.length : Int) == most) = true := beq_iff_eq.2 hm
          replace hm := Lib.hid hm
          gi_wp2
          exact ⟨KeepsOthers.refl _, .inr ⟨rfl, by have h := hbx'.out; rw [hm.out] at h; exact h⟩, hB.out⟩
        · have hmb : ((pre.length : Int) == most) = false := beq_eq_false_iff_ne.2 hm
          have hlt2 : pre.length < L := by have := hplen.out; rw [hxl.out] at this; exact this
          obtain ⟨b, off, rfl, hc⟩ := QL.at (QL.below hq.out hB.out) hlt2
          by_cases hx : x.2 = nth ns pre.length
          · have hxb : ((x.2 : Int) != (nth ns pre.length : Nat)) = false := by rw [bne_eq_false_iff_eq, hx]
            have hpn := Lib.hid (prefix_snoc hpre.out (show (pre.map (·.2)).length < ns.length by rw [List.length_map, hq.out.1]; exact hlt2))
            have hbn := Lib.hid (hbx'.out.box hwlt ((pre.length : Int) + 1))
            replace hx := Lib.hid hx
            clear hm
            gi_wp2
            exact ⟨KeepsOthers.setCell _ _ _, KR.setCell hlo _ _, ⟨by have h := hpn.out; rw [List.length_map, ← hx.out] at h; rw [List.map_append]; exact h, by have h := hbn.out; rw [List.length_append]; exact h⟩, hB.out.setCell (p := ⟨wr.heap.size, 0, none⟩) (show w.heap.size ≤ wr.heap.size by omega) _⟩
          · have hxb : ((x.2 : Int) != (nth ns pre.length : Nat)) = true := by rw [bne_iff_ne]; omega
            have hno := Lib.hid (show ¬ pre ++ [x] <+: rws (uvs ns) 0 from fun h => hx (by
              have h2 : (pre ++ [x]).map (·.2) <+: (rws (uvs ns) 0).map (·.2) := h.map _
              rw [hxs.out, List.map_append] at h2
              have := prefix_last h2
              rw [List.length_map] at this
              exact this))
            clear hm hx
            gi_wp2
            exact ⟨KeepsOthers.setCell _ _ _, .inl ⟨rfl, hno.out⟩, hB.out.setCell (p := ⟨w.heap.size + 1 + 1, 0, none⟩) (show w.heap.size ≤ w.heap.size + 1 + 1 by omega) _⟩
      case done =>
        rintro D ys W hD rfl ⟨⟨hpre, q2, q3, q4, r4, q8, r8⟩, hB⟩ hK
        rw [hxl] at q8
        go_wp2_with (fail)
        refine (awake_at w W hB).mono ?_
        rintro e W1 ⟨rfl, hB1, hB2⟩
        have t2 := keep_cell hB1 q2
        have t3 := keep_cell hB1 q3
        have t4 := keep_cell hB1 q4
        have v4 := keep_frozen hB1 q4 r4
        have t8 := keep_cell hB1 q8
        have hKb : W1.heap[D]? = some (.deferred (some [])) := (hB1.block D (Array.getElem?_eq_some_iff.1 hK).1).trans hK
        replace hKb := Lib.hid hKb
        replace hB2 := Lib.hid hB2
        have hfin := Lib.hid (World.cell?_setCell_same' W1 ⟨w.heap.size + 1 + 1, 0, none⟩ (.bool true) (by rw [t4]; rfl))
        clear hB1 hK q2 q3 q4 r4 q8 r8 hpre
        go_wp2
        have hK' := (KeepsOthers.setCell W1 ⟨w.heap.size + 1 + 1, 0, none⟩ (.bool true)).same D _ hKb.out rfl
        refine ⟨by simp, .inl ⟨_, _, rfl, run_takeDeferred hK', ?_⟩⟩
        have hc5 := cell_kept hfin.out (grownBy_putObj' _ D (.deferred none)) (fun r e => by cases e; exact ⟨_, hK', rfl⟩)
        refine ⟨.bool true, ?_, rfl, (hB2.out.setCell (p := ⟨w.heap.size + 1 + 1, 0, none⟩) (show w.heap.size ≤ w.heap.size + 1 + 1 by omega) _).trans (belowK_b (w := w) (Nat.le_refl _) _ D _ _ (by have := hB7.out.size; omega) hK' rfl rfl)⟩
        simp [results, Try.f10, go_sem, hc5]
      case stop =>
        rintro D c pre W hD hpre ⟨(⟨rfl, hno⟩ | ⟨rfl, q2, q3, q4, r4, q8, r8⟩), hB⟩ hK
        · exact absurd hpre hno
        · refine wpIn_wide.2 ?_
          go_wp2_with (fail)
          refine (awake_at w W hB).mono ?_
          rintro e W1 ⟨rfl, hB1, hB2⟩
          have t2 := keep_cell hB1 q2
          have t3 := keep_cell hB1 q3
          have t4 := keep_cell hB1 q4
          have v4 := keep_frozen hB1 q4 r4
          have t8 := keep_cell hB1 q8
          have hKb : W1.heap[D]? = some (.deferred (some [])) := (hB1.block D (Array.getElem?_eq_some_iff.1 hK).1).trans hK
          replace hKb := Lib.hid hKb
          replace hB2 := Lib.hid hB2
          have hfin := Lib.hid (World.cell?_setCell_same' W1 ⟨w.heap.size + 1 + 1, 0, none⟩ (.bool true) (by rw [t4]; rfl))
          clear hB1 hK q2 q3 q4 r4 q8 r8 hpre
          go_wp2
          all_goals
            have hK' := (KeepsOthers.setCell W1 ⟨w.heap.size + 1 + 1, 0, none⟩ (.bool true)).same D _ hKb.out rfl
            refine ⟨by simp, .inl ⟨_, _, rfl, run_takeDeferred hK', ?_⟩⟩
            have hc5 := cell_kept hfin.out (grownBy_putObj' _ D (.deferred none)) (fun r e => by cases e; exact ⟨_, hK', rfl⟩)
            refine ⟨.bool true, ?_, rfl, (hB2.out.setCell (p := ⟨w.heap.size + 1 + 1, 0, none⟩) (show w.heap.size ≤ w.heap.size + 1 + 1 by omega) _).trans (belowK_b (w := w) (Nat.le_refl _) _ D _ _ (by have := hB7.out.size; omega) hK' rfl rfl)⟩
            simp [results, Try.f10, go_sem, hc5]
theorem leaves (a : Option Addr) (L cap : Nat) (ns : List Nat) (most : Int) (w : World) (hq : QL w a L ns) :
    Calls Try.prog 10 #[.slice a L cap, .int .i64 most] w fun e w' => e = .returned (.bool true) ∧ Below w.heap.size w w' := by
  by_cases h : L ≤ 10000
  · exact leaves_small a L cap ns most w hq h
  · exact leaves_great a L cap most w hq.2.1 (by omega)
theorem leaves_row (a0 : Option Addr) (len0 cap0 : Nat) (z0 : List Int) (a1 : Int) (w : World) (w0 : IsRow .u64 w a0 len0 cap0 z0) :
    Calls Try.prog 10 #[.slice a0 len0 cap0, .int .i64 a1] w fun e w' => e = .returned (.bool true) ∧ Below w.heap.size w w' :=
  leaves a0 len0 cap0 _ a1 w (row_ql w0)
end Go.Proofs.Ytihojeffdepddaa.numI
