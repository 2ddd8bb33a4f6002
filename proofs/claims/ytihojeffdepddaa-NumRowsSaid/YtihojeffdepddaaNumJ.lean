/- The walk of the statement NumRows: short numbers that stand one behind the other are gone through, each at its place, up to the first that isn't one. -/
import Derived.Test.YtihojeffdepddaaNumI
import Derived.Deep.RegionLaw
import Derived.Deep.DeepCutAuto
namespace Go.Proofs.Ytihojeffdepddaa.numJ
open Go.ChangeShapes Go.WideShapes Go.ChangeAt Go.RowKit Go.Shelf
open numM numR rowA byt numA numB numC numD numG numH numI
attribute [local go_sem] Oper.semAt_some

/-- append of bytes onto a row of the call's own, as a step of a region that draws its order -/
theorem step_app {P : Program} {ops : Array Oper} {o : Oper} {a : Act} {w : World} {K : Act → World → Prop} {Q : Exit → Act → World → Prop} {E : Prop} (hgd : o.guard = none) (s x : Operand) (t : TypeId)
    (ho : o.op = .call { callee := .builtin .append, args := #[s, x], argTypes := #[t, t] })
    (base : Nat) (i : TypeInfo) (ht : P.underlying t = some (.slice 5)) (hi : P.info? 5 = some i) (hz : i.zero = some (.int .u8 0)) (h1 : i.size = 1) (h2 : i.bytes = 1)
    (v : Value) (n : Nat) (l : List Nat) (hs : a.eval s = v) (hown : byt.Own w base v n l) (A : Option Addr) (m c : Nat) (k : List Nat) (hx : a.eval x = .slice A m c) (hb : BL w A m k)
    (hroom : n + m + (n + m) / 4 + 192 ≤ 281474976710656) (hbase : base ≤ w.heap.size)
    (h : ∀ A' c' w', byt.Own w' base (.slice A' (n + m) c') (n + m) (l ++ k) → w.grownBy w' v.ownBlock → K (a.put o.dst (.slice A' (n + m) c')) w') :
    if Region.wanted o (yielded ops a.tmps) = true then Oper.wp P o a w K Q else E := by
  have hw : Region.wanted o (yielded ops a.tmps) = true := by simp [Region.wanted, hgd]
  rw [if_pos hw]
  obtain ⟨v', w', hr, h3, h4⟩ := run_app (P := P) w base t o.type i ht hi hz h1 h2 hown A m c hb hroom hbase
  unfold Oper.wp execOp
  simp only [ho, resolve, invoke, builtin, Sem.run_bind, Sem.run_pure, Result.andThen_ok, List.map_toArray, List.map_cons, List.map_nil, hs, hx, hr]
  obtain ⟨A', c', rfl, _⟩ := h3.form
  exact h A' c' w' h3 h4
theorem grown_cell {W W' : World} {B n : Nat} {v x : Value} {l : List Nat} (ho : byt.Own W (B + 1) v n l) (hg : W.grownBy W' v.ownBlock) (h : W.cell? ⟨B, 0, none⟩ = some x) : W'.cell? ⟨B, 0, none⟩ = some x :=
  hg.cell h (fun e => by have := (ho.2.2.2.lt B e.symm).1; omega)
theorem grown_frozen {W W' : World} {B n : Nat} {v x : Value} {l : List Nat} (ho : byt.Own W (B + 1) v n l) (hg : W.grownBy W' v.ownBlock) (h : W.cell? ⟨B, 0, none⟩ = some x) (hf : W.frozen? ⟨B, 0, none⟩ = false) : W'.frozen? ⟨B, 0, none⟩ = false :=
  (World.frozen?_of_block (a := ⟨B, 0, none⟩) (hg.block B (World.block_lt_of_cell? _ _ h) (fun e => by have := (ho.2.2.2.lt B e.symm).1; omega))).trans hf
theorem own_other {w : World} {base n B : Nat} {v x : Value} {l : List Nat} (h : byt.Own w base v n l) (hB : B < base) : byt.Own (w.setCell ⟨B, 0, none⟩ x) base v n l := by
  refine ⟨h.1, h.2.1, h.2.2.1, h.2.2.2.1, ?_⟩
  rcases h.2.2.2.2 with h | ⟨g, cap, cur, rfl, h2, h3, h4⟩
  · exact .inl h
  · exact .inr ⟨g, cap, cur, rfl, h2, (Below.heap_setCell w ⟨B, 0, none⟩ x g (show g ≠ B by omega)).trans h3, h4⟩

/-- what Uvar answers, by its length -/
theorem uvar_bl (n X : Nat) (w : World) (hn : n < 18446744073709551616) (hX : (uv n).length = X) :
    Calls Try.prog 19 #[.int .u64 n] w fun e w' => ∃ A c, e = .returned (.slice A X c) ∧ BL w' A X (uv n) ∧ Below w.heap.size w w' := by
  subst hX
  exact (uvar_any n w hn).mono fun e w' ⟨A, c, he, ho, hB⟩ => ⟨A, c, he, own_bl ho, hB⟩

/-- what stands behind a statement that doesn't panic -/
def Calm (Q : Exit → Act → World → Prop) : Exit → Act → World → Prop
  | .panic _, _, _ => False
  | e, a, w => Q e a w
theorem wp_calm {P : Program} {c : Code} {Q : Exit → Act → World → Prop} {a : Act} {w : World} (h : c.wp P (Calm Q) a w) : c.wp P Q a w :=
  wp_mono h (fun e a w hq => by cases e <;> first | exact hq | exact False.elim hq)
theorem calm_normal {Q : Exit → Act → World → Prop} {a : Act} {w : World} (h : Q .normal a w) : Calm Q .normal a w := h

/-- one round of the first loop: the box B, its row, and what else lies -/
def RB (w0 : World) (B : Nat) (l : List Nat) (w : World) : Prop := ∃ v, w.cell? ⟨B, 0, none⟩ = some v ∧ w.frozen? ⟨B, 0, none⟩ = false ∧ byt.Own w (B + 1) v l.length l ∧ Below B w0 w

theorem RB.next {w0 wr w5 w7 : World} {B Y n : Nat} {v x y : Value} {l l' : List Nat} (hBw : Below B w0 wr) (hB5 : Below wr.heap.size wr w5) (hown5 : byt.Own w5 (B + 1) v Y l) (hg7 : w5.grownBy w7 v.ownBlock)
    (hown7 : byt.Own w7 (B + 1) x n l') (hc7 : w7.cell? ⟨B, 0, none⟩ = some y) (hf7 : w7.frozen? ⟨B, 0, none⟩ = false) (hlt : B < wr.heap.size) : RB w0 B l' (w7.setCell ⟨B, 0, none⟩ x) := by
  have hn := hown7.1
  have h1 : Below B w0 w5 := hBw.trans (hB5.mono (Nat.le_of_lt hlt))
  have h2 : Below B w0 w7 := h1.grown hg7 (by have := hB5.size; omega) (fun k e => by have := (hown5.2.2.2.lt k e).1; omega)
  refine ⟨x, World.cell?_setCell_same' _ _ _ (by rw [hc7]; rfl), by rw [World.frozen?_setCell]; exact hf7, ?_, h2.setCell (p := ⟨B, 0, none⟩) (Nat.le_refl _) _⟩
  rw [hn]
  exact own_other hown7 (by omega)

set_option maxRecDepth 100000 in
set_option maxHeartbeats 2000000 in
theorem rows_great (a : Option Addr) (L cap : Nat) (t : Option Addr) (M tcap : Nat) (w : World) (hL9 : L ≤ 9223372036854775807) (hL : 10000 < L) :
    Calls Try.prog 9 #[.slice a L cap, .slice t M tcap] w fun e w' => e = .returned (.bool true) ∧ Below w.heap.size w w' := by
  obtain ⟨w3, hw3⟩ : ∃ w3, w.alloc (.cells #[.bool false] 4) = w3 := ⟨_, rfl⟩
  have hB3 : Below w.heap.size w w3 := by rw [← hw3]; exact new_below w _
  have c4 : w3.cell? ⟨w.heap.size, 0, none⟩ = some (.bool false) := by rw [← hw3]; exact cell_box w _ _
  have f4 : w3.frozen? ⟨w.heap.size, 0, none⟩ = false := by rw [← hw3]; exact frozen_box w _ _
  replace hw3 := Lib.hid hw3
  replace hB3 := Lib.hid hB3
  go_enter Try.func9, Try.ntmps9
  go_wp2_with (fail)
  rw [hw3.out]
  refine (awake_at w w3 hB3.out).mono ?_
  rintro e w4 ⟨rfl, hB, hB4⟩
  have d4 := keep_cell hB c4
  have e4 := keep_frozen hB c4 f4
  clear c4 f4 hB
  replace hB4 := Lib.hid hB4
  go_wp2_with (fail)
  refine (awake_at w w4 hB4.out).mono ?_
  rintro e w5 ⟨rfl, hB, hB5⟩
  have g4 := keep_cell hB d4
  have h4 := keep_frozen hB d4 e4
  clear d4 e4 hB
  replace hB5 := Lib.hid hB5
  have hfin := Lib.hid (World.cell?_setCell_same' w5 ⟨w.heap.size, 0, none⟩ (.bool true) (by rw [g4]; rfl))
  go_wp2
  exact bodyPost_ret (v := .bool true) (by simp [results, Try.f9, go_sem, hfin.out]) rfl ⟨rfl, hB5.out.setCell (p := ⟨w.heap.size, 0, none⟩) (Nat.le_refl _) _⟩

theorem BL.kept {W W' : World} {row : Option Nat} {A : Option Addr} {n : Nat} {l : List Nat} (h : BL W A n l) (hg : W.grownBy W' row) (hr : ∀ r, row = some r → ∃ o : Obj, W.heap[r]? = some o ∧ o.isCells = false) : BL W' A n l := by
  refine ⟨h.1, h.2.1, h.2.2.1, ?_⟩
  by_cases h0 : n = 0
  · exact .inl h0
  · rcases h.2.2.2 with h | ⟨b, off, e, hlt, hc⟩
    · exact absurd h h0
    · exact .inr ⟨b, off, e, by have := hg.size; omega, fun i hi => cell_kept (hc i hi) hg hr⟩
/-- the call's boxes: the answer so far, the bytes, the place -/
def Bx5 (B0 B5 B8 : Nat) (A : Option Addr) (N c : Nat) (bs : List Nat) (p : Nat) (W : World) : Prop :=
  W.cell? ⟨B0, 0, none⟩ = some (.bool false) ∧ W.frozen? ⟨B0, 0, none⟩ = false ∧ W.cell? ⟨B5, 0, none⟩ = some (.slice A N c) ∧ W.cell? ⟨B8, 0, none⟩ = some (.int .i64 p) ∧ W.frozen? ⟨B8, 0, none⟩ = false ∧ BL W A N bs
theorem Bx5.kept {B0 B5 B8 N c p : Nat} {A : Option Addr} {bs : List Nat} {W W' : World} {row : Option Nat} (h : Bx5 B0 B5 B8 A N c bs p W) (hg : W.grownBy W' row) (hr : ∀ r, row = some r → ∃ o : Obj, W.heap[r]? = some o ∧ o.isCells = false) : Bx5 B0 B5 B8 A N c bs p W' := by
  obtain ⟨q4, r4, q5, q8, r8, hb⟩ := h
  exact ⟨cell_kept q4 hg hr, (frozen_kept q4 hg hr).trans r4, cell_kept q5 hg hr, cell_kept q8 hg hr, (frozen_kept q8 hg hr).trans r8, BL.kept hb hg hr⟩
theorem Bx5.box {B0 B5 B8 N c p : Nat} {A : Option Addr} {bs : List Nat} {W : World} (h : Bx5 B0 B5 B8 A N c bs p W) (h0 : B0 ≠ B8) (h5 : B5 ≠ B8) (hA : ∀ b off, A = some ⟨b, off, none⟩ → b ≠ B8) (q : Nat) : Bx5 B0 B5 B8 A N c bs q (W.setCell ⟨B8, 0, none⟩ (.int .i64 q)) := by
  obtain ⟨q4, r4, q5, q8, r8, hb⟩ := h
  refine ⟨?_, by rw [World.frozen?_setCell]; exact r4, ?_, World.cell?_setCell_same' _ _ _ (by rw [q8]; rfl), by rw [World.frozen?_setCell]; exact r8, hb.1, hb.2.1, hb.2.2.1, hb.2.2.2.imp id ?_⟩
  · rw [World.cell?_setCell_other _ _ _ _ (by intro e; injection e with e1; omega)]; exact q4
  · rw [World.cell?_setCell_other _ _ _ _ (by intro e; injection e with e1; omega)]; exact q5
  · rintro ⟨b, off, e, hlt, hc⟩
    have hne := hA b off e
    refine ⟨b, off, e, by simp; exact hlt, fun i hi => ?_⟩
    rw [World.cell?_setCell_other _ _ _ _ (by intro e; injection e with e1; omega)]
    exact hc i hi
/-- between two rounds -/
def RI (w : World) (B0 B5 B8 : Nat) (A : Option Addr) (N c : Nat) (bs : List Nat) (pre : List (Nat × Nat)) (W : World) : Prop :=
  (∃ p : Nat, p ≤ N ∧ rws bs 0 = pre ++ rws bs p ∧ Bx5 B0 B5 B8 A N c bs p W) ∧ Below w.heap.size w W
/-- a round has left: what came isn't what stands there -/
def RX (w : World) (bs : List Nat) (c : Code) (pre : List (Nat × Nat)) (W : World) : Prop := (c = .ret ∧ ¬ pre <+: rws bs 0) ∧ Below w.heap.size w W
theorem RI.from_ {w : World} {B0 B5 B8 N c C : Nat} {A : Option Addr} {bs : List Nat} (hC : w.heap.size ≤ C) : OwnFrom C (RI w B0 B5 B8 A N c bs) :=
  fun _ _ _ _ hs hg hr => ⟨by obtain ⟨p, hp, e, h⟩ := hs.1; exact ⟨p, hp, e, h.kept hg (fun r e => (hr r e).2)⟩, hs.2.grown hg hs.2.size (fun k e => Nat.le_trans hC (hr k e).1)⟩
theorem RX.from_ {w : World} {C : Nat} {bs : List Nat} (hC : w.heap.size ≤ C) (c : Code) : OwnFrom C (RX w bs c) :=
  fun _ _ _ _ hs hg hr => ⟨hs.1, hs.2.grown hg hs.2.size (fun k e => Nat.le_trans hC (hr k e).1)⟩

set_option maxRecDepth 100000 in
set_option maxHeartbeats 4000000 in
theorem rows_small (a : Option Addr) (L cap : Nat) (ns : List Nat) (t : Option Addr) (M tcap : Nat) (tl : List Nat) (w : World) (hq : QL w a L ns) (hL : L ≤ 10000) (ht : BL w t M tl) (hM : M ≤ 140737488351232) :
    Calls Try.prog 9 #[.slice a L cap, .slice t M tcap] w fun e w' => e = .returned (.bool true) ∧ Below w.heap.size w w' := by
  obtain ⟨w3, hw3⟩ : ∃ w3, w.alloc (.cells #[.bool false] 4) = w3 := ⟨_, rfl⟩
  have hB3 : Below w.heap.size w w3 := by rw [← hw3]; exact new_below w _
  have c4 : w3.cell? ⟨w.heap.size, 0, none⟩ = some (.bool false) := by rw [← hw3]; exact cell_box w _ _
  have f4 : w3.frozen? ⟨w.heap.size, 0, none⟩ = false := by rw [← hw3]; exact frozen_box w _ _
  have s3 : w3.heap.size = w.heap.size + 1 := by rw [← hw3]; simp
  obtain ⟨i0, hi, hz0, hz1, hz2⟩ := info_parts bytes8
  have s3' := Lib.hid s3
  replace hw3 := Lib.hid hw3
  replace hB3 := Lib.hid hB3
  have hL' : (L : Int) ≤ 10000 := by omega
  replace ht := Lib.hid ht
  clear s3
  refine (callsIn_wide (n := 6)).1 ?_
  refine callsIn_of_wp_marks Try.func9 rfl trivial ?_ rfl
  simp only [Try.ntmps9, List.size_toArray, List.length_cons, List.length_nil, Nat.reduceAdd, Nat.reduceSub, Array.replicate_succ, Array.replicate_zero, List.push_toArray, List.append_toArray, List.nil_append, List.cons_append]
  refine wpIn_wide.2 ?_
  go_wp2_with (fail)
  rw [hw3.out]
  refine (awake_at w w3 hB3.out).mono ?_
  rintro e w4 ⟨rfl, hB, hB4⟩
  have d4 := keep_cell hB c4
  have e4 := keep_frozen hB c4 f4
  have s4 : w.heap.size + 1 ≤ w4.heap.size := by have := hB.size; rw [s3'.out] at this; exact this
  clear c4 f4 hB
  replace hB4 := Lib.hid hB4
  obtain ⟨wb, hwb⟩ : ∃ wb, w4.alloc (.cells #[.slice none 0 0] 23) = wb := ⟨_, rfl⟩
  have hBb : Below w4.heap.size w4 wb := by rw [← hwb]; exact new_below w4 _
  have b5 : wb.cell? ⟨w4.heap.size, 0, none⟩ = some (.slice none 0 0) := by rw [← hwb]; exact cell_box w4 _ _
  have l5 : wb.frozen? ⟨w4.heap.size, 0, none⟩ = false := by rw [← hwb]; exact frozen_box w4 _ _
  have hRB : RB w4 w4.heap.size [] wb := ⟨_, b5, l5, byt.Own.nil_ wb _, hBb⟩
  replace hRB := Lib.hid hRB
  have hsb : w4.heap.size < wb.heap.size := by rw [← hwb]; simp
  clear hBb b5 l5
  replace hwb := Lib.hid hwb
  go_wp2_with (fail)
  rw [hwb.out]
  go_loopw [25] (fun i wr => ∃ j : Nat, j ≤ L ∧ i = .int .i64 j ∧ RB w4 w4.heap.size (uvs (ns.take j)) wr) (fun i _ => L - (intOf i).toNat)
  case atStart => exact ⟨0, by omega, rfl, hRB.out⟩
  case round =>
    obtain ⟨j, hj, rfl, v, hcell, hfro, hown, hBw⟩ := hrel
    have hqw : QL wr a L ns := hq.below (trans0 hB4.out hBw)
    have hlen : (uvs (ns.take j)).length ≤ 100000 := by
      have := uvs_len (ns.take j) (fun n hn => hq.2.2.1 n (List.mem_of_mem_take hn))
      rw [List.length_take] at this; omega
    obtain ⟨A, c, rfl, p1, p2, p3, p4, hbl⟩ := hown.form
    by_cases hlt : j < L
    · obtain ⟨b, off, rfl, hc⟩ := hqw.at hlt
      have hn64 := Lib.hid (hq.2.2.1 _ (nth_mem (show j < ns.length by have := hq.1; omega)))
      have hst := Lib.hid (uvs_step (show j < ns.length by have := hq.1; omega))
      have hX2 := uv_len10 hn64.out
      have hX : (uv (nth ns j)).length = (uv (nth ns j)).length := rfl
      generalize hXe : (uv (nth ns j)).length = X at *
      generalize hY : (uvs (ns.take j)).length = Y at *
      replace hXe := Lib.hid hXe
      replace hY := Lib.hid hY
      clear hqw hX
      replace hq := Lib.hid hq
      replace hown := Lib.hid hown
      replace hBw := Lib.hid hBw
      clear hbl p1 p2 p3 p4
      have hlt5 : w4.heap.size < wr.heap.size := World.block_lt_of_cell? _ _ hcell
      go_wp2
      refine wp_calm ?_
      go_region_law (first
        | (refine step_app (by rfl) _ _ _ (by rfl) (w4.heap.size + 1) i0 Try.underlying23 hi hz0 hz1 hz2 (.slice A Y c) Y (uvs (ns.take j)) (by rfl) hown5 A5 X c5 (uv (nth ns j)) (by rfl) hb5 (by omega) hsz5 ?_; intro A7 c7 w7 hown7 hg7; have hc7 := grown_cell hown5 hg7 hc5; have hf7 := grown_frozen hown5 hg7 hc5 hf5)
        | (go_simp; go_at_call 19; (refine (uvar_bl _ X _ hn64.out hXe.out).mono ?_; rintro e w5 ⟨A5, c5, rfl, hb5, hB5⟩; have hc5 := keep_cell hB5 hcell; have hf5 := keep_frozen hB5 hcell hfro; have hown5 := byt.Own.below (byt.Own.drew hown.out) hB5 (Nat.le_refl _); have hsz5 : w4.heap.size + 1 ≤ w5.heap.size := Nat.le_trans hlt5 hB5.size)))
      all_goals
        have hRBn := Lib.hid (RB.next (wr := wr.drew) hBw.out.drew hB5 hown5 hg7 hown7 hc7 hf7 hlt5)
        refine calm_normal ?_
        clear hB5 hb5 hc5 hf5 hown5 hsz5 hown7 hg7 hc7 hf7 hcell hfro
        go_wp2
        go_roundw
        case rel => exact ⟨j + 1, by omega, by go_num, by have h := hRBn.out; rw [← hst.out] at h; exact h⟩
        case measure => simp [intOf]; omega
    · obtain rfl : L = j := by omega
      have e1 : ns.take L = ns := List.take_of_length_le (by have := hq.1; omega)
      rw [e1] at hown hlen
      have hlt5 : w4.heap.size < wr.heap.size := World.block_lt_of_cell? _ _ hcell
      have htr := Lib.hid (ht.out.below (trans0 hB4.out hBw))
      have hBr := Lib.hid (trans0 hB4.out hBw)
      replace hown := Lib.hid hown
      rw [e1] at hbl hcell p1
      generalize hY : (uvs ns).length = Y at *
      replace hY := Lib.hid hY
      replace hq := Lib.hid hq
      replace hBw := Lib.hid hBw
      have d4' := Lib.hid d4
      have e4' := Lib.hid e4
      clear hqw hbl p1 p2 p3 p4 e1 d4 e4
      go_wp2_with (at_builtin; (refine wpList_app rfl _ _ 23 rfl (w4.heap.size + 1) i0 Try.underlying23 hi hz0 hz1 hz2 _ Y (uvs ns) rfl hown.out t M tcap tl rfl htr.out ?c1 ?c2 ?_))
      case c1 => omega
      case c2 => exact hlt5
      intro v6 w6 hown6 hg6
      have hc6 := grown_cell hown.out hg6 hcell
      have hf6 := grown_frozen hown.out hg6 hcell hfro
      have hl6 : (uvs ns ++ tl).length = Y + M := by rw [List.length_append, hY.out, ht.out.1]
      have hN9 : Y + M ≤ 150000000000000 := by omega
      have hbs : ∀ c ∈ uvs ns ++ tl, c < 256 := hown6.2.1
      generalize hbse : uvs ns ++ tl = bs at *
      generalize hNe : Y + M = N at *
      have hRB6 := RB.next (wr := wr) hBw.out (Below.refl _ _) hown.out hg6 hown6 hc6 hf6 hlt5
      obtain ⟨A6, c6, rfl, y1, y2, _⟩ := hown6.form
      replace hc6 := World.block_lt_of_cell? _ _ hc6
      obtain ⟨wc, hwc⟩ : ∃ wc, w6.setCell ⟨w4.heap.size, 0, none⟩ (.slice A6 N c6) = wc := ⟨_, rfl⟩
      rw [hwc] at hRB6
      obtain ⟨v6, q5, r5, ho6, hB6⟩ := hRB6
      have q4 := hB6.cell (p := ⟨w.heap.size, 0, none⟩) (show w.heap.size < w4.heap.size by omega)
      rw [d4'.out] at q4
      have r4 := hB6.frozen (p := ⟨w.heap.size, 0, none⟩) (show w.heap.size < w4.heap.size by omega)
      rw [e4'.out] at r4
      have hc6' : w6.cell? ⟨w4.heap.size, 0, none⟩ = some (.slice A Y c) := grown_cell hown.out hg6 hcell
      have q6 : wc.cell? ⟨w4.heap.size, 0, none⟩ = some (.slice A6 N c6) := by rw [← hwc]; exact World.cell?_setCell_same' _ _ _ (by rw [hc6']; rfl)
      cases q5.symm.trans q6
      have hlt6 := World.block_lt_of_cell? _ _ q6
      obtain ⟨wd, hwd⟩ : ∃ wd, wc.alloc (.cells #[.int .i64 0] 3) = wd := ⟨_, rfl⟩
      have hBd : Below wc.heap.size wc wd := by rw [← hwd]; exact new_below wc _
      have m8 : wd.cell? ⟨wc.heap.size, 0, none⟩ = some (.int .i64 0) := by rw [← hwd]; exact cell_box wc _ _
      have n8 : wd.frozen? ⟨wc.heap.size, 0, none⟩ = false := by rw [← hwd]; exact frozen_box wc _ _
      have sd : wd.heap.size = wc.heap.size + 1 := by rw [← hwd]; simp
      have m5 := keep_cell hBd q6
      have m4 := keep_cell hBd q4
      have n4 := keep_frozen hBd q4 r4
      have hAlt := Lib.hid (show ∀ b off, A6 = some ⟨b, off, none⟩ → b ≠ wc.heap.size from fun b off e => by
        subst e
        have := (ho6.2.2.2.lt b rfl).2
        omega)
      obtain ⟨_, _, e0, p1, p2, p3, _, hb6⟩ := ho6.form
      cases e0
      have hbd := Lib.hid (hb6.below hBd)
      have hBd' := Lib.hid (trans0 (trans0 hB4.out (hB6.mono (Nat.le_refl _))) hBd)
      have p1' := Lib.hid p1
      have p3' := Lib.hid p3
      replace hNe := Lib.hid hNe
      replace hl6 := Lib.hid hl6
      replace hbse := Lib.hid hbse
      replace hbs := Lib.hid hbs
      replace sd := Lib.hid sd
      have m5' : (wc.alloc (.cells #[.int .i64 0] 3)).cell? ⟨w4.heap.size, 0, none⟩ = some (.slice A6 bs.length c6) := by rw [hwd]; exact m5
      replace hwd := Lib.hid hwd
      clear hg6 hown6 hc6 q4 r4 q5 r5 ho6 hB6 hBd q6 hb6 p1 p2 p3
      go_wp2_with (fail)
      rw [hwd.out]
      refine (uvars_any A6 _ c6 bs wd hbd.out p3'.out p1'.out hN9).mono ?_
      rintro e w7 ⟨B, A7, c7, rfl, hI7, hB7⟩
      have n4 := keep_frozen hB7 m4 n4
      have m5 := keep_cell hB7 m5
      have m4 := keep_cell hB7 m4
      have n8 := keep_frozen hB7 m8 n8
      have m8 := keep_cell hB7 m8
      have hb7 := Lib.hid (hbd.out.below hB7)
      have hBx7 := Lib.hid (trans0 hBd'.out hB7)
      have s7 := hB7.size
      rw [sd.out] at s7
      have hA6 : ∀ b off, A6 = some ⟨b, off, none⟩ → b ≠ wc.heap.size := hAlt.out
      replace hA6 := Lib.hid hA6
      replace hI7 := Lib.hid hI7
      clear hB7 m5' hl6 hcell hfro hf6 hc6' hAlt
      generalize hNb : bs.length = N at *
      replace hNb := Lib.hid hNb
      go_wp2
      refine (wpIn_wide (n := 6)).1 ?_
      refine' wpIn_rangeFunc_ownF rfl (by omega) (gf := 29) (lb := #[.pointer (some ⟨B, 0, none⟩)]) rfl trivial (enters_of Try.func29 (by kernel_rfl) rfl)
        (iter_stops 5 (by omega) wd.heap.size w7.heap.size B _ c7 A7 bs w7 (Nat.le_refl _) hI7.out) KR.trans (KR.book (Nat.le_refl _)) (Below.refl _ _) (fun _ => rfl)
        (RI w w.heap.size w4.heap.size wc.heap.size A6 N c6 bs) (RX w bs) (RI.from_ (by omega)) (RX.from_ (by omega))
        ⟨⟨0, by omega, rfl, m4, n4, m5, m8, n8, hb7.out⟩, hBx7.out⟩ _ ?assign ?body ?done ?stop
      case assign =>
        intro l x W K hK
        simp only [encs]
        gi_wp2
        exact hK
      case body =>
        rintro l pre x W ⟨⟨p, hp, hpre, hbx⟩, hB⟩ hplen
        have hbx' := Lib.hid hbx
        obtain ⟨q4, r4, q5, q8, r8, hb⟩ := hbx
        have hsub := Lib.hid (BL.from_ hb p hp p1'.out)
        have hsl := sl_at A6 N c6 p hp
        have htu := Lib.hid (rtuv_any (frm A6 c6 p) (N - p) (c6 - p) (bs.drop p) W hsub.out)
        have hpre' := Lib.hid hpre
        replace hB := Lib.hid hB
        have hlo : wc.heap.size < wd.heap.size := by have := sd.out; omega
        clear hb hpre hplen hwc y1 hNe hbd m5 m4 n4 m8 n8
        by_cases he : tke (bs.drop p) = 0
        · have hnx := rws_next hbs.out he
          have hst := rws_step hbs.out (show p ≤ bs.length by have := hNb.out; omega) he
          have hlv := tkv_lt hsub.out.lt
          rw [he] at htu
          generalize tkv (bs.drop p) = v at *
          generalize tkn (bs.drop p) = k at *
          rw [hNb.out] at hst
          have hnx' := Lib.hid hnx
          have hbn := Lib.hid (hbx'.out.box (show w.heap.size ≠ wc.heap.size by omega) (show w4.heap.size ≠ wc.heap.size by omega) hA6.out (p + k))
          have hno : x ≠ (p, v) → ¬ pre ++ [x] <+: rws bs 0 := by
            intro hx h
            rw [hpre'.out, hnx'.out] at h
            obtain ⟨r, hr⟩ := h
            rw [List.append_assoc] at hr
            have := List.append_cancel_left hr
            simp at this
            exact hx this.1
          replace hno := Lib.hid hno
          clear hnx he
          by_cases h1 : x.1 = p
          · have b1 : ((x.1 : Int) != (p : Int)) = false := by rw [bne_eq_false_iff_eq, h1]
            by_cases h2 : x.2 = v
            · have b2 : ((x.2 : Int) != (v : Int)) = false := by rw [bne_eq_false_iff_eq, h2]
              have hxe := Lib.hid (show x = (p, v) from Prod.ext h1 h2)
              clear h1 h2
              gi_wp2
              refine ⟨trivial, ?_⟩
              refine (CallsIn.inRound l (callsIn_wide.2 htu.out)).mono ?_
              rintro e w' ⟨rfl, rfl⟩
              gi_wp2
              exact ⟨KeepsOthers.setCell _ _ _, KR.setCell hlo _ _, ⟨p + k, hst, by rw [hpre'.out, hnx'.out, hxe.out, List.append_assoc]; rfl, hbn.out⟩, hB.out.setCell (p := ⟨wc.heap.size, 0, none⟩) (show w.heap.size ≤ wc.heap.size by omega) _⟩
            · have b2 : ((x.2 : Int) != (v : Int)) = true := by rw [bne_iff_ne]; omega
              have hxe := Lib.hid (show x ≠ (p, v) from fun h => h2 (by rw [h]))
              clear h1 h2
              gi_wp2
              refine ⟨trivial, ?_⟩
              refine (CallsIn.inRound l (callsIn_wide.2 htu.out)).mono ?_
              rintro e w' ⟨rfl, rfl⟩
              gi_wp2
              exact ⟨KeepsOthers.setCell _ _ _, ⟨rfl, hno.out hxe.out⟩, hB.out.setCell (p := ⟨w.heap.size, 0, none⟩) (Nat.le_refl _) _⟩
          · have b1 : ((x.1 : Int) != (p : Int)) = true := by rw [bne_iff_ne]; omega
            have hxe := Lib.hid (show x ≠ (p, v) from fun h => h1 (by rw [h]))
            clear h1
            gi_wp2
            refine ⟨trivial, ?_⟩
            refine (CallsIn.inRound l (callsIn_wide.2 htu.out)).mono ?_
            rintro e w' ⟨rfl, rfl⟩
            gi_wp2
            exact ⟨KeepsOthers.setCell _ _ _, ⟨rfl, hno.out hxe.out⟩, hB.out.setCell (p := ⟨w.heap.size, 0, none⟩) (Nat.le_refl _) _⟩
        · have hne : ((tke (bs.drop p) : Int) != 0) = true := by rw [bne_iff_ne]; omega
          have hno := Lib.hid (show ¬ pre ++ [x] <+: rws bs 0 from fun h => by
            rw [hpre'.out, rws_end he, List.append_nil] at h
            have := h.length_le
            rw [List.length_append] at this
            have h1 : [x].length = 1 := rfl
            omega)
          clear he
          gi_wp2
          refine ⟨trivial, ?_⟩
          refine (CallsIn.inRound l (callsIn_wide.2 htu.out)).mono ?_
          rintro e w' ⟨rfl, rfl⟩
          gi_wp2
          exact ⟨KeepsOthers.setCell _ _ _, ⟨rfl, hno.out⟩, hB.out.setCell (p := ⟨w.heap.size, 0, none⟩) (Nat.le_refl _) _⟩
      case done =>
        rintro D ys W hD rfl ⟨⟨p, hp, hpre, q4, r4, q5, q8, r8, hb⟩, hB⟩ hK
        have hsub := Lib.hid (BL.from_ hb p hp p1'.out)
        have hsl := sl_at A6 N c6 p hp
        have htu := Lib.hid (rtuv_any (frm A6 c6 p) (N - p) (c6 - p) (bs.drop p) W hsub.out)
        have hend : rws bs p = [] := by
          have := congrArg List.length hpre
          rw [List.length_append] at this
          exact List.eq_nil_of_length_eq_zero (by omega)
        have hne : ((tke (bs.drop p) : Int) != 0) = true := by
          rw [bne_iff_ne]
          intro h
          rw [rws_next hbs.out (by omega)] at hend
          cases hend
        clear hb hpre hend hwc y1 hNe hbd m5 m4 n4 m8 n8
        go_wp2_with (fail)
        refine htu.out.mono ?_
        rintro e w' ⟨rfl, rfl⟩
        go_wp2_with (fail)
        refine (awake_at w W hB).mono ?_
        rintro e W1 ⟨rfl, hB1, hB2⟩
        have t4 := keep_cell hB1 q4
        have v4 := keep_frozen hB1 q4 r4
        have hKb : W1.heap[D]? = some (.deferred (some [])) := (hB1.block D (Array.getElem?_eq_some_iff.1 hK).1).trans hK
        replace hKb := Lib.hid hKb
        replace hB2 := Lib.hid hB2
        have hfin := Lib.hid (World.cell?_setCell_same' W1 ⟨w.heap.size, 0, none⟩ (.bool true) (by rw [t4]; rfl))
        clear hB1 hK q4 r4 q5 q8 r8
        go_wp2
        have hK' := (KeepsOthers.setCell W1 ⟨w.heap.size, 0, none⟩ (.bool true)).same D _ hKb.out rfl
        refine ⟨by simp, .inl ⟨_, _, rfl, run_takeDeferred hK', ?_⟩⟩
        have hc5 := cell_kept hfin.out (grownBy_putObj' _ D (.deferred none)) (fun r e => by cases e; exact ⟨_, hK', rfl⟩)
        refine ⟨.bool true, ?_, rfl, (hB2.out.setCell (p := ⟨w.heap.size, 0, none⟩) (Nat.le_refl _) _).trans (belowK_b (w := w) (Nat.le_refl _) _ D _ _ (by have := hBx7.out.size; omega) hK' rfl rfl)⟩
        simp [results, Try.f9, go_sem, hc5]
      case stop =>
        rintro D c pre W hD hpre ⟨⟨rfl, hno⟩, _⟩ _
        exact absurd hpre hno
theorem rows_all (a : Option Addr) (L cap : Nat) (ns : List Nat) (t : Option Addr) (M tcap : Nat) (tl : List Nat) (w : World) (hq : QL w a L ns) (ht : BL w t M tl) (hM : M ≤ 140737488351232) :
    Calls Try.prog 9 #[.slice a L cap, .slice t M tcap] w fun e w' => e = .returned (.bool true) ∧ Below w.heap.size w w' := by
  by_cases h : L ≤ 10000
  · exact rows_small a L cap ns t M tcap tl w hq h ht hM
  · exact rows_great a L cap t M tcap w hq.2.1 (by omega)
theorem rows_row (a0 : Option Addr) (len0 cap0 : Nat) (z0 : List Int) (a1 : Option Addr) (len1 cap1 : Nat) (z1 : List Int) (w : World) (w0 : IsRow .u64 w a0 len0 cap0 z0) (w1 : IsRow .u8 w a1 len1 cap1 z1) (m1 : cap1 * 1 ≤ 140737488351232) :
    Calls Try.prog 9 #[.slice a0 len0 cap0, .slice a1 len1 cap1] w fun e w' => e = .returned (.bool true) ∧ Below w.heap.size w w' :=
  rows_all a0 len0 cap0 _ a1 len1 cap1 _ w (row_ql w0) (row_bl w1) (by have := (row_len w1).1; omega)
end Go.Proofs.Ytihojeffdepddaa.numJ
