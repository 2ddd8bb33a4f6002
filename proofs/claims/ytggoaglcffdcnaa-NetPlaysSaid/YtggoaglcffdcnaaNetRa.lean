/- The document's calls, where they refuse; its Look. -/
import Derived.Test.YtggoaglcffdcnaaNetR
namespace Go.Proofs.Ytggoaglcffdcnaa.netRa
open Go.ChangeShapes Go.WideShapes Go.ChangeAt Go.RowKit Go.Deep
open numM rowA byt numA numB numC netA netB netC netE netG netS netL netP netQ netR

/-- find refuses, whatever was made since w -/
def FErr (p : Value) (f t a : Int) (E : Nat) (w : World) : Prop := ∀ w', Below w.heap.size w w' → Calls Try.prog 40 #[p, .int .i64 f, .int .i64 t, .int .i64 a] w' fun e w'' => e = .returned (.tuple #[.int .i64 0, .int .i64 E]) ∧ w' = w''
theorem ferr_way (p : Value) (f t a : Int) (w : World) (h : ¬ IsWay f t) : FErr p f t a 1 w := fun w' _ => find_bad f t a p w' h
/-- four cells that may be written -/
abbrev Z4 (b : Nat) (w : World) : Prop := w.rowIs b 66 4 (fun i => if i = 0 then .int .i64 0 else if i = 1 then .int .i64 0 else if i = 2 then .slice none 0 0 else .bool false)
theorem Z4.cells {b : Nat} {w : World} (h : Z4 b w) : (w.cell? ⟨b, 0, none⟩ = some (.int .i64 0) ∧ w.cell? ⟨b, 1, none⟩ = some (.int .i64 0) ∧ w.cell? ⟨b, 2, none⟩ = some (.slice none 0 0) ∧ w.cell? ⟨b, 3, none⟩ = some (.bool false)) ∧
    w.frozen? ⟨b, 0, none⟩ = false ∧ w.frozen? ⟨b, 1, none⟩ = false ∧ w.frozen? ⟨b, 2, none⟩ = false ∧ w.frozen? ⟨b, 3, none⟩ = false :=
  ⟨⟨h.cell (i := 0) (by omega), h.cell (i := 1) (by omega), h.cell (i := 2) (by omega), h.cell (i := 3) (by omega)⟩, h.frozen 0, h.frozen 1, h.frozen 2, h.frozen 3⟩
theorem Z4.below {b : Nat} {w w1 : World} (h : Z4 b w) (hB : Below w.heap.size w w1) : Z4 b w1 := h.of_block (hB.block b h.lt)
theorem Z4.new (w : World) : Z4 w.heap.size (w.alloc (.cells #[.int .i64 0, .int .i64 0, .slice none 0 0, .bool false] 66)) := by
  have h := World.rowIs_alloc w #[.int .i64 0, .int .i64 0, .slice none 0 0, .bool false] 66 (fun i => if i = 0 then .int .i64 0 else if i = 1 then .int .i64 0 else if i = 2 then .slice none 0 0 else .bool false) (fun i hi => ?_)
  · exact h
  · have : i = 0 ∨ i = 1 ∨ i = 2 ∨ i = 3 := by simp at hi; omega
    rcases this with rfl | rfl | rfl | rfl <;> rfl
/-- a packet's four cells -/
def c4 (x : Dk) (A : Option Addr) (c : Nat) : Array Value := #[.int .i64 x.f, .int .i64 x.t, .slice A x.b.length c, .bool x.sp]
abbrev zero4 : Array Value := #[.int .i64 0, .int .i64 0, .slice none 0 0, .bool false]
theorem box4 (w : World) (x0 x1 x2 x3 : Value) : (w.alloc (.cells #[x0, x1, x2, x3] 66)).rowIs w.heap.size 66 4 (fun i => if i = 0 then x0 else if i = 1 then x1 else if i = 2 then x2 else x3) := by
  have h := World.rowIs_alloc w #[x0, x1, x2, x3] 66 (fun i => if i = 0 then x0 else if i = 1 then x1 else if i = 2 then x2 else x3) (fun i hi => ?_)
  · exact h
  · have : i = 0 ∨ i = 1 ∨ i = 2 ∨ i = 3 := by simp at hi; omega
    rcases this with rfl | rfl | rfl | rfl <;> rfl
theorem below4 {B b : Nat} {w0 w : World} (h : Below B w0 w) (hb : B ≤ b) (x0 x1 x2 x3 : Value) :
    Below B w0 ((((w.setCell ⟨b, 0, none⟩ x0).setCell ⟨b, 1, none⟩ x1).setCell ⟨b, 2, none⟩ x2).setCell ⟨b, 3, none⟩ x3) :=
  (((h.setCell (p := ⟨b, 0, none⟩) hb x0).setCell (p := ⟨b, 1, none⟩) hb x1).setCell (p := ⟨b, 2, none⟩) hb x2).setCell (p := ⟨b, 3, none⟩) hb x3
theorem own4 {base b n : Nat} {v : Value} {l : List Nat} {w : World} (h : Own w base v n l) (hb : v.ownBlock ≠ some b) (x0 x1 x2 x3 : Value) :
    Own ((((w.setCell ⟨b, 0, none⟩ x0).setCell ⟨b, 1, none⟩ x1).setCell ⟨b, 2, none⟩ x2).setCell ⟨b, 3, none⟩ x3) base v n l :=
  own_blk h fun k e => by
    have hk : k ≠ b := fun e2 => hb (by rw [e, e2])
    rw [Below.heap_setCell _ _ _ _ hk, Below.heap_setCell _ _ _ _ hk, Below.heap_setCell _ _ _ _ hk, Below.heap_setCell _ _ _ _ hk]
set_option maxRecDepth 100000 in
theorem dlook_err {p : Value} {f t a : Int} {E : Nat} (w : World) (h : FErr p f t a E w) (hE : E ≠ 0) : Calls Try.prog 32 #[p, .int .i64 f, .int .i64 t, .int .i64 a] w fun e w' => e = .returned (.tuple #[.agg zero4, .int .i64 E]) ∧ Below w.heap.size w w' := by
  have hB := al0 w (.cells #[.int .i64 0, .int .i64 0, .slice none 0 0, .bool false] 66)
  have hq := Lib.hid (h _ hB)
  have hB2 := Lib.hid hB
  have h0 : ((E : Int) != 0) = true := by rw [bne_iff_ne]; omega
  obtain ⟨⟨z0, z1, z2, z3⟩, y0, y1, y2, y3⟩ := (Z4.new w).cells
  clear hB h
  go_enter Try.func32, Try.ntmps32
  go_wp2_with (go_at_call 40; ((with_reducible refine (hq.out).mono ?_); rintro e w' ⟨rfl, rfl⟩))
  refine bodyPost_ret (v := .tuple #[.agg zero4, .int .i64 E]) ?_ rfl ⟨rfl, ?_⟩
  · simp [results, Try.results32, go_sem, z0, z1, z2, z3]
  · exact hB2.out
set_option maxRecDepth 100000 in
theorem dtake_err {p : Value} {f t a : Int} {E : Nat} (w : World) (h : FErr p f t a E w) (hE : E ≠ 0) : Calls Try.prog 27 #[p, .int .i64 f, .int .i64 t, .int .i64 a] w fun e w' => e = .returned (.tuple #[.agg zero4, .int .i64 E]) ∧ Below w.heap.size w w' := by
  have hB := al0 w (.cells #[.int .i64 0, .int .i64 0, .slice none 0 0, .bool false] 66)
  have hq := Lib.hid (dlook_err (w.alloc (.cells #[.int .i64 0, .int .i64 0, .slice none 0 0, .bool false] 66)) (fun w' hw' => h w' (trans0 hB hw')) hE)
  have hB2 := Lib.hid hB
  have h0 : ((E : Int) != 0) = true := by rw [bne_iff_ne]; omega
  have hz := Lib.hid (Z4.new w)
  clear hB h
  go_enter Try.func27, Try.ntmps27
  go_wp2_with (fail)
  refine hq.out.mono ?_
  rintro e w2 ⟨rfl, hB3⟩
  have hz2 := hz.out.below hB3
  obtain ⟨⟨z0, z1, z2, z3⟩, y0, y1, y2, y3⟩ := hz2.cells
  have hlt := hz2.lt
  have hB4 := Lib.hid (trans0 hB2.out hB3)
  clear hB3 hq hz2 hz
  go_wp2
  refine bodyPost_ret (v := .tuple #[.agg zero4, .int .i64 E]) ?_ rfl ⟨rfl, ?_⟩
  · simp [results, Try.results27, go_sem, z0, z1, z2, z3, hlt]
  · exact (below4 hB4.out (Nat.le_refl _) _ _ _ _).alloc (by rw [World.size_setCell, World.size_setCell, World.size_setCell, World.size_setCell]; exact hB4.out.size) _
set_option maxRecDepth 100000 in
theorem dlose_err {p : Value} {f t a : Int} {E : Nat} (w : World) (h : FErr p f t a E w) (hE : E ≠ 0) : Calls Try.prog 28 #[p, .int .i64 f, .int .i64 t, .int .i64 a] w fun e w' => e = .returned (.int .i64 E) ∧ Below w.heap.size w w' := by
  have hq := Lib.hid (dtake_err w h hE)
  have h0 : ((E : Int) == 0) = false := by rw [beq_eq_false_iff_ne]; omega
  clear h
  go_enter Try.func28, Try.ntmps28
  go_wp2_with (fail)
  refine hq.out.mono ?_
  rintro e w2 ⟨rfl, hB3⟩
  replace hB3 := Lib.hid hB3
  clear hq
  go_wp2
  go_ret
  first
    | exact ⟨rfl, hB3.out⟩
    | exact ⟨rfl, trans0 hB3.out (al0 _ _)⟩
set_option maxRecDepth 100000 in
theorem dtwice_err {p : Value} {f t a : Int} {E : Nat} (w : World) (h : FErr p f t a E w) (hE : E ≠ 0) : Calls Try.prog 29 #[p, .int .i64 f, .int .i64 t, .int .i64 a] w fun e w' => e = .returned (.int .i64 E) ∧ Below w.heap.size w w' := by
  have hq := Lib.hid (dlook_err w h hE)
  have h0 : ((E : Int) == 0) = false := by rw [beq_eq_false_iff_ne]; omega
  clear h
  go_enter Try.func29, Try.ntmps29
  go_wp2_with (fail)
  refine hq.out.mono ?_
  rintro e w2 ⟨rfl, hB3⟩
  replace hB3 := Lib.hid hB3
  clear hq
  go_wp2
  go_ret
  exact ⟨rfl, trans0 hB3.out (al0 _ _)⟩
set_option maxRecDepth 100000 in
theorem dback_err {p : Value} {f t a : Int} {E : Nat} (w : World) (h : FErr p f t a E w) (hE : E ≠ 0) : Calls Try.prog 30 #[p, .int .i64 f, .int .i64 t, .int .i64 a] w fun e w' => e = .returned (.int .i64 E) ∧ Below w.heap.size w w' := by
  have hq := Lib.hid (dtake_err w h hE)
  have h0 : ((E : Int) == 0) = false := by rw [beq_eq_false_iff_ne]; omega
  clear h
  go_enter Try.func30, Try.ntmps30
  go_wp2_with (fail)
  refine hq.out.mono ?_
  rintro e w2 ⟨rfl, hB3⟩
  replace hB3 := Lib.hid hB3
  clear hq
  go_wp2
  go_ret
  exact ⟨rfl, trans0 hB3.out (al0 _ _)⟩
set_option maxRecDepth 100000 in
theorem dspoil_err {p : Value} {f t a : Int} {E : Nat} (x y : Value) (w : World) (h : FErr p f t a E w) (hE : E ≠ 0) : Calls Try.prog 31 #[p, .int .i64 f, .int .i64 t, .int .i64 a, x, y] w fun e w' => e = .returned (.int .i64 E) ∧ w = w' := by
  have hq := Lib.hid (h w (Below.refl _ _))
  have h0 : ((E : Int) != 0) = true := by rw [bne_iff_ne]; omega
  clear h
  go_enter Try.func31, Try.ntmps31
  go_wp2_with (go_at_call 40; ((with_reducible refine (hq.out).mono ?_); rintro e w' ⟨rfl, rfl⟩))
  go_ret
  exact ⟨rfl, rfl⟩
section
variable {col : Nat → Nat} {c : Nat} {w w1 w2 w4 : World} {q : Nat} {v : Value} {ds : List DP} {lost : Nat} {d : Dn} {f t : Int}
theorem ferr_i {a : Int} (w : World) (h : DocAt col c w q d) (hw : IsWay f t) (ha : a < 0 ∨ (cnt f t d.row : Int) ≤ a) (h1 : -9223372036854775808 ≤ a) (h2 : a ≤ 9223372036854775807) : FErr (.pointer (some ⟨q, 0, none⟩)) f t a 7 w := by
  intro w' hB
  by_cases h0 : a < 0
  · exact find_neg f t a w' hw (h.below hB) h0 h1
  · obtain ⟨i, rfl⟩ : ∃ i : Nat, a = i := ⟨a.toNat, by omega⟩
    have := find_nat f t i w' hw (h.below hB) h2
    rw [idx_none (by omega)] at this
    exact this
theorem find_ok {i j : Nat} (w : World) (h : DocAt col c w q d) (hw : IsWay f t) (hj : idx f t d.row i = some j) (hi9 : (i : Int) ≤ 9223372036854775807) : Calls Try.prog 40 #[.pointer (some ⟨q, 0, none⟩), .int .i64 f, .int .i64 t, .int .i64 i] w fun e w' => e = .returned (.tuple #[.int .i64 j, .int .i64 0]) ∧ w = w' := by
  have := find_nat f t i w hw h hi9
  rw [hj] at this
  exact this
theorem doc_open (h : DocAt col c w q d) {j : Nat} {x : Dk} (hx : d.row[j]? = some x) : ∃ v ds m, DocIs col c w q v ds d.lost ∧ ds.map DP.k = d.row ∧ ds[j]? = some m ∧ m.k = x ∧ ds.length = d.row.length := by
  obtain ⟨v, ds, h, e⟩ := h
  have hl : ds.length = d.row.length := by rw [← e, List.length_map]
  have hj := (List.getElem?_eq_some_iff.1 hx).1
  have hj' : j < ds.length := by omega
  refine ⟨v, ds, ds[j], h, e, List.getElem?_eq_getElem hj', ?_, hl⟩
  have : (ds.map DP.k)[j]? = some x := by rw [e]; exact hx
  rw [List.getElem?_map, List.getElem?_eq_getElem hj'] at this
  simpa using this
/-- What the document's Look answers. -/
def DLooked (w : World) (x : Dk) (e : Ending) (w' : World) : Prop :=
  ∃ A cp, e = .returned (.tuple #[.agg (c4 x A cp), .int .i64 0]) ∧ Own w' w.heap.size (.slice A x.b.length cp) x.b.length x.b ∧ Below w.heap.size w w'
set_option maxRecDepth 100000 in
set_option maxHeartbeats 1000000 in
theorem dlook_ok {i j : Nat} {x : Dk} (w : World) (h : DocAt col c w q d) (hw : IsWay f t) (hj : idx f t d.row i = some j) (hx : d.row[j]? = some x) (hi9 : (i : Int) ≤ 9223372036854775807) :
    Calls Try.prog 32 #[.pointer (some ⟨q, 0, none⟩), .int .i64 f, .int .i64 t, .int .i64 i] w (DLooked w x) := by
  obtain ⟨w1, hw1⟩ : ∃ w1, w.alloc (.cells #[.int .i64 0, .int .i64 0, .slice none 0 0, .bool false] 66) = w1 := ⟨_, rfl⟩
  have hB1 : Below w.heap.size w w1 := by rw [← hw1]; exact al0 _ _
  have hz1 : Z4 w.heap.size w1 := by rw [← hw1]; exact Z4.new w
  have hs1 : w1.heap.size = w.heap.size + 1 := by rw [← hw1]; simp
  have h1 := h.below hB1
  have hfi := Lib.hid (find_ok w1 h1 hw hj hi9)
  obtain ⟨v, ds, m, hI, hk, hm, rfl, hln⟩ := doc_open h1 hx
  obtain ⟨g, cp, rfl, hgl, c0, c1, c2, c3, hgq, hcp, hcp9⟩ := hI.at_ hm
  obtain ⟨k0, -, -, -, -⟩ := hI.cells
  have hmem := List.mem_of_getElem? hm
  have hown := hI.byt m hmem
  have hbl := hI.bl m hmem
  have hle := hI.le
  have hjl := (List.getElem?_eq_some_iff.1 hm).1
  have hjI : (j : Int) < (ds.length : Int) := by omega
  have hjN : (0 : Int) ≤ (j : Int) := by omega
  have hqlt := hI.row.lt
  obtain ⟨i0, hi0, hy0, hy1, hy2⟩ := info_parts bytes8
  have hbm := Lib.hid (own_bl (n := m.k.b.length) (c := m.c) (A := m.A) hown)
  replace hB1 := Lib.hid hB1
  replace hw1 := Lib.hid hw1
  replace hz1 := Lib.hid hz1
  replace hs1 := Lib.hid hs1
  clear hI h1 h hown hk hm hln hj hx hjl hmem
  generalize ds.length = n at *
  go_enter Try.func32, Try.ntmps32
  go_wp2_with (fail)
  rw [hw1.out]
  refine hfi.out.mono ?_
  rintro e w2 ⟨rfl, rfl⟩
  clear hfi
  obtain ⟨w2, hw2⟩ : ∃ w2, w1.alloc (.cells #[.int .i64 m.k.f, .int .i64 m.k.t, .slice m.A m.k.b.length m.c, .bool m.k.sp] 66) = w2 := ⟨_, rfl⟩
  have hB2 : Below w1.heap.size w1 w2 := by rw [← hw2]; exact al0 _ _
  have hb2 := box4 w1 (.int .i64 m.k.f) (.int .i64 m.k.t) (.slice m.A m.k.b.length m.c) (.bool m.k.sp)
  rw [hw2] at hb2
  obtain ⟨w3, hw3⟩ : ∃ w3, w2.alloc (.cells #[] 5) = w3 := ⟨_, rfl⟩
  have hB3 : Below w2.heap.size w2 w3 := by rw [← hw3]; exact al0 _ _
  have hb3 := hb2.of_block (hB3.block _ hb2.lt)
  have hz3 := (hz1.out.below hB2).below hB3
  have hm3 : Own w3 w2.heap.size (.slice (some ⟨w2.heap.size, 0, none⟩) 0 0) 0 [] := by rw [← hw3]; exact Own.made w2 w2.heap.size (Nat.le_refl _) [] (by simp) (by simp) #[] rfl
  have hbm3 := Lib.hid (hbm.out.below (trans0 hB2 hB3))
  have e2 := hb3.cell (i := 2) (by omega)
  have hs2 : w2.heap.size = w1.heap.size + 1 := by rw [← hw2]; simp
  have hs3 : w2.heap.size ≤ w3.heap.size := hB3.size
  simp only [show (2 : Nat) ≠ 0 from by decide, show (2 : Nat) ≠ 1 from by decide, if_false, if_true] at e2
  replace hm3 := Lib.hid hm3
  have hB03 := Lib.hid (trans0 (trans0 hB1.out hB2) hB3)
  have hb3' := Lib.hid hb3
  have hz3' := Lib.hid hz3
  replace hs2 := Lib.hid hs2
  replace hs3 := Lib.hid hs3
  clear hb2 hz1 hb3 hz3 hB2 hB3 hw1 hbm
  go_wp2_with (at_builtin; (refine wpList_app rfl _ _ 30 rfl w2.heap.size i0 Try.underlying30 hi0 hy0 hy1 hy2 _ 0 [] rfl hm3.out m.A m.k.b.length m.c m.k.b rfl hbm3.out ?c1 ?c2 ?_))
  case c1 => omega
  case c2 => exact hs3.out
  intro v5 w5 ho5 hg5
  obtain ⟨A5, c5, rfl, -⟩ := ho5.form
  have hkeep : ∀ k, k < w2.heap.size → w5.heap[k]? = w3.heap[k]? := fun k hk => hg5.block k (Nat.lt_of_lt_of_le hk hs3.out) (fun e => by cases e; exact Nat.lt_irrefl _ hk)
  have hb5 := hb3'.out.of_block (hkeep _ (by rw [hs2.out]; omega))
  have hz5 : Z4 w.heap.size w5 := hz3'.out.of_block (hkeep _ (by rw [hs2.out, hs1.out]; omega))
  obtain ⟨⟨z0, z1, z2, z3⟩, y4, y5, y6, y7⟩ := hz5.cells
  have d0 := hb5.cell (i := 0) (by omega)
  have d1 := hb5.cell (i := 1) (by omega)
  have d2 := hb5.cell (i := 2) (by omega)
  have d3 := hb5.cell (i := 3) (by omega)
  have d4 := hb5.frozen 2
  simp only [show (2 : Nat) ≠ 0 from by decide, show (2 : Nat) ≠ 1 from by decide, show (1 : Nat) ≠ 0 from by decide, show (3 : Nat) ≠ 0 from by decide, show (3 : Nat) ≠ 1 from by decide, show (3 : Nat) ≠ 2 from by decide, if_false, if_true] at d0 d1 d2 d3
  have hB5 : Below w.heap.size w w5 := hB03.out.grown hg5 hB03.out.size (fun k e => by cases e; show w.heap.size ≤ w2.heap.size; have := hs2.out; have := hs1.out; omega)
  have hne : w.heap.size ≠ w1.heap.size := by rw [hs1.out]; omega
  have hlb := hb5.lt
  have hS : Hid (∀ x0 x1 x2 x3 x4, DLooked w m.k (.returned (.tuple #[.agg (c4 m.k A5 c5), .int .i64 0])) (((((w5.setCell ⟨w1.heap.size, 2, none⟩ x4).setCell ⟨w.heap.size, 0, none⟩ x0).setCell ⟨w.heap.size, 1, none⟩ x1).setCell ⟨w.heap.size, 2, none⟩ x2).setCell ⟨w.heap.size, 3, none⟩ x3)) := Lib.hid fun x0 x1 x2 x3 x4 => by
    refine ⟨A5, c5, rfl, own4 (own_blk (ho5.more (by rw [hs2.out, hs1.out]; omega)) fun k e => Below.heap_setCell _ _ _ _ ?_) (fun e => ?_) _ _ _ _, below4 (hB5.setCell (p := ⟨w1.heap.size, 2, none⟩) (by show _ ≤ w1.heap.size; rw [hs1.out]; omega) _) (Nat.le_refl _) _ _ _ _⟩
    · have := (own_ge ho5 e).1
      rw [hs2.out] at this
      show k ≠ w1.heap.size
      omega
    · have := (own_ge ho5 e).1
      rw [hs2.out, hs1.out] at this
      omega
  clear ho5 hg5 hkeep hb5 hz5 hB5 hm3 hbm3 hb3' hz3' hB03
  go_wp2
  refine bodyPost_ret (v := .tuple #[.agg (c4 m.k A5 c5), .int .i64 0]) ?_ rfl (hS.out _ _ _ _ _)
  simp [results, Try.results32, go_sem, z0, z1, z2, z3, c4]
end
end Go.Proofs.Ytggoaglcffdcnaa.netRa
