/- The document's Spoil. -/
import Derived.Test.YtggoaglcffdcnaaNetRc
namespace Go.Proofs.Ytggoaglcffdcnaa.netRd
open Go.ChangeShapes Go.WideShapes Go.ChangeAt Go.RowKit Go.Deep
open numM rowA byt numA numB numC netA netB netC netE netG netS netL netP netQ netR netRa netRb netRc

section
variable {col : Nat → Nat} {c : Nat} {w w1 w2 w3 wa : World} {q : Nat} {d : Dn} {f t : Int}
def spD (d : Dn) (j : Nat) (x : Dk) (a mask : Int) : Dn := if spE x.pk a mask = 0 then setD d j ⟨x.f, x.t, turned x.b a.toNat mask.toNat, true⟩ else d
theorem dspoil_stay {w w' : World} (h : DocAt col c w q d) {j : Nat} {x : Dk} {a : Int} {y : Nat} {E : Nat} (hE : spE x.pk a y = E) (h0 : E ≠ 0) (hB : Below w.heap.size w w') : DDid col c q (spE x.pk a y) (spD d j x a y) w (.returned (.int .i64 E)) w' := by
  refine ⟨by rw [hE], Cg.of_below _ hB, ?_⟩
  unfold spD
  rw [hE, if_neg h0]
  exact (h.ext (rec_ext col w c)).below hB
theorem fl_set4 (ls : List DP) {i : Nat} {m m' : DP} (hm : ls[i]? = some m) : fl DP.cs (ls.set i m') = (((((fl DP.cs ls).set (i * 4) (.int .i64 m'.k.f)).set (i * 4 + 1) (.int .i64 m'.k.t)).set (i * 4 + 2) m'.v).set (i * 4 + 3) (.bool m'.k.sp)) := by
  have hi := (List.getElem?_eq_some_iff.1 hm).1
  have h0 := (List.getElem?_eq_some_iff.1 hm).2
  have e1 : ls = ls.take i ++ (m :: ls.drop (i + 1)) := by rw [← h0, ← List.drop_eq_getElem_cons hi, List.take_append_drop]
  have e2 : ls.set i m' = ls.take i ++ (m' :: ls.drop (i + 1)) := by rw [List.set_eq_take_append_cons_drop, if_pos hi]
  have e3 : (fl DP.cs (ls.take i)).length = i * 4 := by rw [fl_len DP.cs_len, List.length_take, Nat.min_eq_left (by omega)]
  rw [e2]
  conv => rhs; rw [e1]
  rw [fl_app, fl_app, fl_cons, fl_cons]
  have h4 : m'.cs = [.int .i64 m'.k.f, .int .i64 m'.k.t, m'.v, .bool m'.k.sp] := rfl
  have h5 : m.cs = [.int .i64 m.k.f, .int .i64 m.k.t, m.v, .bool m.k.sp] := rfl
  rw [h4, h5]
  rw [List.set_append_right _ _ (by omega), List.set_append_right _ _ (by omega), List.set_append_right _ _ (by omega), List.set_append_right _ _ (by omega), e3]
  rw [show i * 4 - i * 4 = 0 by omega, show i * 4 + 1 - i * 4 = 1 by omega, show i * 4 + 2 - i * 4 = 2 by omega, show i * 4 + 3 - i * 4 = 3 by omega]
  rfl
theorem own_store {w : World} {A : Option Addr} {n c : Nat} {l : List Nat} (h : Own w 0 (.slice A n c) n l) {i y : Nat} (hi : i < n) (hy : y < 256) : ∃ g, A = some ⟨g, 0, none⟩ ∧ w.cell? ⟨g, i, none⟩ = some (.int .u8 (nth l i)) ∧ w.frozen? ⟨g, i, none⟩ = false ∧ nth l i < 256 ∧ g < w.heap.size ∧ Own (w.setCell ⟨g, i, none⟩ (.int .u8 y)) 0 (.slice A n c) n (l.set i y) := by
  obtain ⟨A', c', e, _, _, _, hA, hb⟩ := h.form
  cases e
  obtain ⟨g, off, rfl, hc⟩ := hb.at hi
  obtain ⟨g', e'⟩ := hA _ rfl
  obtain rfl : off = 0 := by cases e'; rfl
  rw [Nat.zero_add] at hc
  have hl : i < l.length := by rw [h.1]; exact hi
  refine ⟨g, rfl, hc, h.2.2.2.frozenAt i, h.2.1 _ (nth_mem hl), World.block_lt_of_cell? _ _ hc, by rw [List.length_set]; exact h.1, fun x hx => ?_, h.2.2.1, ?_⟩
  · rcases List.mem_or_eq_of_mem_set hx with hx | rfl
    · exact h.2.1 x hx
    · exact hy
  · rw [ub_set]; exact (h.2.2.2.stored i (.int .u8 y)).1
/-- One packet stands anew, in a row of its own. -/
theorem doc_set {v v' : Value} {ds : List DP} {w9 : World} {j : Nat} {m : DP} (h : DocIs col c w q v ds d.lost) (hk : ds.map DP.k = d.row) (hm : ds[j]? = some m) (m' : DP) (e1 : m'.k.f = m.k.f) (e2 : m'.k.t = m.k.t) (hB : Below w.heap.size w w9)
    (hr : w9.ownsRow 0 66 4 v' ds.length (fl DP.cs (ds.set j m'))) (hv : ∀ b, v'.ownBlock = some b → w.heap.size ≤ b) (ho : Own w9 0 m'.v m'.k.b.length m'.k.b) (hc : ∀ b, m'.v.ownBlock = some b → w.heap.size ≤ b) (hl : m'.k.b.length ≤ 100000) :
    DDid col c q 0 (setD d j m'.k) w (.returned (.int .i64 (0 : Nat))) (w9.setCell ⟨q, 0, none⟩ v') := by
  have hmem := List.mem_of_getElem? hm
  obtain ⟨h1, h2⟩ := h.put (ds' := ds.set j m') (w2 := w9) (v' := v') ⟨hB.os, hB.tape, hB.output, hB.size, fun k hk _ => hB.block k hk⟩ (by rw [List.length_set]; exact hr) (fun b e => .inr (hv b e)) (fun x hx => by
      rcases List.mem_or_eq_of_mem_set hx with hx | rfl
      · exact own_blk (h.byt x hx) fun b e => hB.block b (h.blt hx e)
      · exact ho) (fun x hx b e => by
      rcases List.mem_or_eq_of_mem_set hx with hx | rfl
      · exact .inr (h.cb x hx b e)
      · exact .inl (hc b e)) (fun x hx => by
      rcases List.mem_or_eq_of_mem_set hx with hx | rfl
      · exact h.ok x hx
      · rw [e1, e2]; exact h.ok m hmem) (by rw [List.length_set]; exact h.le) (fun x hx => by
      rcases List.mem_or_eq_of_mem_set hx with hx | rfl
      · exact h.bl x hx
      · exact hl)
  exact ⟨rfl, h1, v', ds.set j m', h2, by rw [List.map_set, hk]; rfl⟩
set_option maxRecDepth 100000 in
set_option maxHeartbeats 2000000 in
theorem dspoil_good {i j : Nat} {x : Dk} (p : Nat) (y : Nat) (w : World) (h : DocAt col c w q d) (hw : IsWay f t) (hj : idx f t d.row i = some j) (hx : d.row[j]? = some x) (hi9 : (i : Int) ≤ 9223372036854775807) (hy : y < 256) (hpl : p < x.b.length) (hy1 : (y : Int) ≠ 0) (hsp : x.sp = false) :
    Calls Try.prog 31 #[.pointer (some ⟨q, 0, none⟩), .int .i64 f, .int .i64 t, .int .i64 i, .int .i64 p, .int .u8 y] w (DDid col c q 0 (setD d j ⟨x.f, x.t, turned x.b p y, true⟩) w) := by
  have hfi := Lib.hid (find_ok w h hw hj hi9)
  obtain ⟨v, ds, m, hI, hk, hm, rfl, hln⟩ := doc_open h hx
  obtain ⟨g, cp, rfl, hgl, c0, c1, c2, c3, hgq, hcp, hcp9⟩ := hI.at_ hm
  obtain ⟨k0, -, kf, -, -⟩ := hI.cells
  have hqlt := hI.row.lt
  have hmem := List.mem_of_getElem? hm
  have hown := hI.byt m hmem
  have hbl := hI.bl m hmem
  have hle := hI.le
  have hjl := (List.getElem?_eq_some_iff.1 hm).1
  have hjI : (j : Int) < (ds.length : Int) := by omega
  have hjN : (0 : Int) ≤ (j : Int) := by omega
  obtain ⟨w1, hw1⟩ : ∃ w1, w.alloc (.cells #[.int .i64 m.k.f, .int .i64 m.k.t, .slice m.A m.k.b.length m.c, .bool m.k.sp] 66) = w1 := ⟨_, rfl⟩
  have hB1 : Below w.heap.size w w1 := by rw [← hw1]; exact al0 _ _
  have hb1 := box4 w (.int .i64 m.k.f) (.int .i64 m.k.t) (.slice m.A m.k.b.length m.c) (.bool m.k.sp)
  rw [hw1] at hb1
  obtain ⟨d0, d1, d2, d3⟩ := row4_cells hb1
  have hs1 : w1.heap.size = w.heap.size + 1 := by rw [← hw1]; simp
  have a3' : ((y : Int) == 0) = false := by rw [beq_eq_false_iff_ne]; exact hy1
  have hpI : (p : Int) < (m.k.b.length : Int) := by omega
  have hpN : (0 : Int) ≤ (p : Int) := by omega
  obtain ⟨i1, hi1, hy0, hy1', hy2⟩ := info_parts bytes8
  obtain ⟨i0, hi0, hz0, hz1, hz2⟩ := info_parts infoK
  -- the copy of its bytes
  obtain ⟨w2, hw2⟩ : ∃ w2, w1.alloc (.cells #[] 5) = w2 := ⟨_, rfl⟩
  have hB2 : Below w1.heap.size w1 w2 := by rw [← hw2]; exact al0 _ _
  have hm2 : Own w2 (w.heap.size + 1) (.slice (some ⟨w.heap.size + 1, 0, none⟩) 0 0) 0 [] := by rw [← hs1, ← hw2]; exact Own.made w1 w1.heap.size (Nat.le_refl _) [] (by simp) (by simp) #[] rfl
  have hbm2 := Lib.hid ((own_bl (n := m.k.b.length) (c := m.c) (A := m.A) hown).below (trans0 hB1 hB2))
  have hs2 : w.heap.size + 1 ≤ w2.heap.size := by rw [← hs1]; exact hB2.size
  have hBm := hB2
  rw [hs1] at hBm
  replace hBm := Lib.hid hBm
  have hb2 := hb1.of_block (hB2.block _ hb1.lt)
  have l2 := hb2.lt
  obtain ⟨e0, e1, e2, e3⟩ := row4_cells hb2
  have e4 := hb2.frozen 2
  rw [hsp] at d3 c3 hw1 e3
  replace hm2 := Lib.hid hm2
  have hB02 := Lib.hid (trans0 hB1 hB2)
  have hne : Hid (w.heap.size ≠ w.heap.size + 1) := Lib.hid (by omega)
  have hs1' := Lib.hid hs1
  have hI' := Lib.hid hI
  have hk' := Lib.hid hk
  have hm' := Lib.hid hm
  have hlbm := hbl
  replace hs2 := Lib.hid hs2
  replace hb2 := Lib.hid hb2
  clear hI hk hm hln h hj hx hB1 hB2 hb1 d0 d1 d2 d3 e0 e1 e2 e3 e4 hmem hown hs1 l2
  subst hw2
  subst hw1
  go_enter Try.func31, Try.ntmps31
  go_wp2_with (first
    | (go_at_call 40; ((with_reducible refine (hfi.out).mono ?_); rintro e w' ⟨rfl, rfl⟩))
    | (at_builtin; refine wpList_app rfl _ _ 30 rfl _ i1 Try.underlying30 hi1 hy0 hy1' hy2 _ 0 [] rfl hm2.out m.A m.k.b.length m.c m.k.b rfl hbm2.out (by omega) hs2.out ?_; intro v3 w3 ho3 hg3; simp only [Nat.zero_add, List.nil_append] at ho3; have hb3 := hb2.out.of_block (hg3.block _ hb2.out.lt (fun e => hne.out (Option.some.inj e))); obtain ⟨z0, z1, z2, z3⟩ := row4_cells hb3; have z4 := hb3.frozen 2; have z5 := hb3.lt; obtain ⟨A3, c3', rfl, -⟩ := ho3.form; obtain ⟨w4, hw4⟩ : ∃ w4, w3.setCell ⟨w.heap.size, 2, none⟩ (.slice A3 m.k.b.length c3') = w4 := ⟨_, rfl⟩; have hb4 := Lib.hid hb3; have ho3' := Lib.hid ho3; have hB3' := Lib.hid (hm2.out.grown hBm.out hg3 hs2.out); clear ho3 hg3 hb3))
  have hb5 := (hb4.out.set 2 (.slice A3 m.k.b.length c3')).congr (g := fun i => if i = 0 then .int .i64 m.k.f else if i = 1 then .int .i64 m.k.t else if i = 2 then .slice A3 m.k.b.length c3' else .bool false) (fun i hi => by
    have : i = 0 ∨ i = 1 ∨ i = 2 ∨ i = 3 := by omega
    rcases this with rfl | rfl | rfl | rfl <;> simp [hsp])
  rw [hw4] at hb5
  have hBw4 : Below w.heap.size w w4 := by
    rw [← hw4]
    exact (((al0 w _).trans (hB3'.out.mono (by omega)))).setCell (p := ⟨w.heap.size, 2, none⟩) (Nat.le_refl _) _
  have hge := fun b (e : (Value.slice A3 m.k.b.length c3').ownBlock = some b) => own_ge ho3'.out e
  have ho4 : Own w4 0 (.slice A3 m.k.b.length c3') m.k.b.length m.k.b := by
    rw [← hw4]
    exact own_blk (own_lo ho3'.out) fun b e => Below.heap_setCell _ ⟨w.heap.size, 2, none⟩ _ b (show b ≠ w.heap.size by have := (hge b e).1; omega)
  have hY : nth m.k.b p ^^^ y < 256 := Nat.xor_lt_two_pow (n := 8) (ho4.2.1 _ (nth_mem hpl)) hy
  obtain ⟨g3, rfl, v0, v1, v2, v3, v4⟩ := own_store ho4 hpl hY
  have hx : bits .xor .u8 (nth m.k.b p : Int) (y : Int) = ((nth m.k.b p ^^^ y : Nat) : Int) := u8_xor_nat _ _ v2 hy
  have hg3 := (hge g3 rfl).1
  have hBw5 := hBw4.setCell (p := ⟨g3, p, none⟩) (show w.heap.size ≤ g3 by omega) (.int .u8 (nth m.k.b p ^^^ y : Nat))
  have hb6 := hb5.of_block (w' := w4.setCell ⟨g3, p, none⟩ (.int .u8 (nth m.k.b p ^^^ y : Nat))) (Below.heap_setCell _ ⟨g3, p, none⟩ _ w.heap.size (show w.heap.size ≠ g3 by omega))
  obtain ⟨f0, f1, f2, f3⟩ := row4_cells hb5
  replace v4 := Lib.hid v4
  replace hb6 := Lib.hid hb6
  replace hBw5 := Lib.hid hBw5
  clear hb5 ho4 hge hw4 hBw4 hb4 hB3' ho3' hY z0 z1 z2 z3 z4 z5 hm2 hbm2 hb2 hB02 hfi hBm
  generalize hYe : nth m.k.b p ^^^ y = Y at *
  replace hYe := Lib.hid hYe
  generalize hZe : nth m.k.b p = Z at *
  replace hZe := Lib.hid hZe
  go_region
  have hb5d := hb6.out.of_block (w' := (w4.setCell ⟨g3, p, none⟩ (.int .u8 (Y : Nat))).drew) rfl
  have hBd := hBw5.out.drew
  have hod : Own (w4.setCell ⟨g3, p, none⟩ (.int .u8 (Y : Nat))).drew 0 (.slice (some ⟨g3, 0, none⟩) m.k.b.length c3') m.k.b.length (m.k.b.set p Y) := v4.out
  clear hb6 hBw5 v4 f0 f1 f2 f3 v0 v1 v2 v3 hx
  generalize (w4.setCell ⟨g3, p, none⟩ (.int .u8 (Y : Nat))).drew = w5 at *
  have hl5 := hb5d.lt
  obtain ⟨w6, hw6⟩ : ∃ w6, w5.setCell ⟨w.heap.size, 3, none⟩ (.bool true) = w6 := ⟨_, rfl⟩
  have hb6 := (hb5d.set 3 (.bool true)).congr (g := fun i => if i = 0 then .int .i64 m.k.f else if i = 1 then .int .i64 m.k.t else if i = 2 then .slice (some ⟨g3, 0, none⟩) m.k.b.length c3' else .bool true) (fun i hi => by
    have : i = 0 ∨ i = 1 ∨ i = 2 ∨ i = 3 := by omega
    rcases this with rfl | rfl | rfl | rfl <;> simp)
  rw [hw6] at hb6
  have hB6 : Below w.heap.size w w6 := by rw [← hw6]; exact hBd.setCell (p := ⟨w.heap.size, 3, none⟩) (Nat.le_refl _) _
  have ho6 : Own w6 0 (.slice (some ⟨g3, 0, none⟩) m.k.b.length c3') m.k.b.length (m.k.b.set p Y) := by
    rw [← hw6]
    exact own_blk hod fun b e => Below.heap_setCell _ ⟨w.heap.size, 3, none⟩ _ b (show b ≠ w.heap.size by have e2 : g3 = b := Option.some.inj e; omega)
  have hs6 : w6.heap.size = w5.heap.size := by rw [← hw6, World.size_setCell]
  obtain ⟨f0, f1, f2, f3⟩ := row4_cells hb5d
  have f4 := hb5d.frozen 3
  obtain ⟨w7, hw7⟩ : ∃ w7, w6.alloc (.cells #[] 66) = w7 := ⟨_, rfl⟩
  have hB67 : Below w6.heap.size w6 w7 := by rw [← hw7]; exact al0 _ _
  have hm7 : w7.ownsRow w5.heap.size 66 4 (.slice (some ⟨w5.heap.size, 0, none⟩) 0 0) 0 [] := by rw [← hs6, ← hw7]; exact World.ownsRow_made w6 #[] 0 (Nat.le_refl _) (by decide) rfl
  have hB7 := trans0 hB6 hB67
  rw [hs6] at hB67
  have hs7 : w5.heap.size ≤ w7.heap.size := by rw [← hs6]; exact hB67.size
  have k7 : w7.cell? ⟨q, 0, none⟩ = some (.slice (some ⟨g, 0, none⟩) ds.length cp) := (hB7.cell (p := ⟨q, 0, none⟩) hqlt).trans k0
  have l7 : q < w7.heap.size := Nat.lt_of_lt_of_le hqlt hB7.size
  have hst7 : Hid (Stand w7 (some ⟨g, 0, none⟩) ds.length (fl DP.cs ds)) := Lib.hid (.inr ⟨_, rfl, fun a u hu => by
    have ha := (List.getElem?_eq_some_iff.1 hu).1
    rw [fl_len DP.cs_len] at ha
    rw [add_plain, Nat.zero_add, hB7.cell (p := ⟨g, a, none⟩) hgl, hI'.out.own.cellAt a ha]
    exact hu⟩)
  have hfl := Lib.hid (fl_len DP.cs_len ds)
  have hone := Lib.hid (fl_all DP.cs_one ds)
  have hls := Lib.hid (show ds.length ≤ maxLen by unfold maxLen; omega)
  have hAp : Hid (∀ A8 c8 w8, w8.ownsRow w5.heap.size 66 4 (.slice A8 ds.length c8) ds.length (fl DP.cs ds) → w7.grownBy w8 (some w5.heap.size) →
      ∃ g8, A8 = some ⟨g8, 0, none⟩ ∧
        (w8.cell? ⟨w.heap.size, 0, none⟩ = some (.int .i64 m.k.f) ∧ w8.cell? ⟨w.heap.size, 1, none⟩ = some (.int .i64 m.k.t) ∧ w8.cell? ⟨w.heap.size, 2, none⟩ = some (.slice (some ⟨g3, 0, none⟩) m.k.b.length c3') ∧ w8.cell? ⟨w.heap.size, 3, none⟩ = some (.bool true)) ∧
        (w8.cell? ⟨g8, j * 4, none⟩ = some (.int .i64 m.k.f) ∧ w8.cell? ⟨g8, j * 4 + 1, none⟩ = some (.int .i64 m.k.t) ∧ w8.cell? ⟨g8, j * 4 + 2, none⟩ = some (.slice m.A m.k.b.length m.c) ∧ w8.cell? ⟨g8, j * 4 + 3, none⟩ = some (.bool m.k.sp)) ∧
        (w8.frozen? ⟨g8, j * 4, none⟩ = false ∧ w8.frozen? ⟨g8, j * 4 + 1, none⟩ = false ∧ w8.frozen? ⟨g8, j * 4 + 2, none⟩ = false ∧ w8.frozen? ⟨g8, j * 4 + 3, none⟩ = false) ∧
        (w8.cell? ⟨q, 0, none⟩ = some (.slice (some ⟨g, 0, none⟩) ds.length cp) ∧ w8.frozen? ⟨q, 0, none⟩ = false ∧ q < w8.heap.size ∧ q ≠ g8 ∧ w.heap.size < w8.heap.size ∧ g8 < w8.heap.size) ∧
        DDid col c q 0 (setD d j ⟨m.k.f, m.k.t, turned m.k.b p y, true⟩) w (.returned (.int .i64 (0 : Nat)))
      (((((w8.setCell ⟨g8, j * 4, none⟩ (.int .i64 m.k.f)).setCell ⟨g8, j * 4 + 1, none⟩ (.int .i64 m.k.t)).setCell ⟨g8, j * 4 + 2, none⟩ (.slice (some ⟨g3, 0, none⟩) m.k.b.length c3')).setCell ⟨g8, j * 4 + 3, none⟩ (.bool true)).setCell ⟨q, 0, none⟩ (.slice (some ⟨g8, 0, none⟩) ds.length c8))) := Lib.hid (by
    intro A8 c8 w8 hr8 hg8
    have hB8 := hB67.grown hg8 hs7 (fun k e => by cases e; exact Nat.le_refl _)
    have hgx : ∃ g8, A8 = some ⟨g8, 0, none⟩ ∧ w5.heap.size ≤ g8 ∧ g8 < w8.heap.size := by
      have hh := hr8
      rcases hh.2 with ⟨e, -⟩ | ⟨g8, cap', cur, e, -⟩
      · exfalso
        have : ds.length = 0 := (Value.slice.inj e).2.1
        omega
      · have e1 : A8 = some ⟨g8, 0, none⟩ := by cases e; rfl
        have := hh.lt g8 (by rw [e1]; rfl)
        exact ⟨g8, e1, this.1, this.2⟩
    obtain ⟨g8, rfl, hg1, hg2⟩ := hgx
    have u0 := hr8.cellAt (j * 4) (by omega)
    have u1 := hr8.cellAt (j * 4 + 1) (by omega)
    have u2 := hr8.cellAt (j * 4 + 2) (by omega)
    have u3 := hr8.cellAt (j * 4 + 3) (by omega)
    rw [show j * 4 = j * 4 + 0 by rfl, fl_get DP.cs_len hm'.out (j := 0) (u := .int .i64 m.k.f) rfl] at u0
    rw [fl_get DP.cs_len hm'.out (j := 1) (u := .int .i64 m.k.t) rfl] at u1
    rw [fl_get DP.cs_len hm'.out (j := 2) (u := .slice m.A m.k.b.length m.c) rfl] at u2
    rw [fl_get DP.cs_len hm'.out (j := 3) (u := .bool m.k.sp) rfl] at u3
    have n0 := hr8.frozenAt (j * 4)
    have n1 := hr8.frozenAt (j * 4 + 1)
    have n2 := hr8.frozenAt (j * 4 + 2)
    have n3 := hr8.frozenAt (j * 4 + 3)
    have hb8 := hb6.of_block (hB8.block _ hl5)
    obtain ⟨x0, x1, x2, x3⟩ := row4_cells hb8
    have hl8 := hb8.lt
    have hB68 := (hB6.trans (hB8.mono (Nat.le_of_lt hl5)))
    have q0 := (hB68.cell (p := ⟨q, 0, none⟩) hqlt).trans k0
    have q1 := (hB68.frozen (p := ⟨q, 0, none⟩) hqlt).trans kf
    have ql := Nat.lt_of_lt_of_le hqlt hB68.size
    have hq8 : q ≠ g8 := by omega
    refine ⟨g8, rfl, ⟨x0, x1, x2, x3⟩, ⟨u0, u1, u2, u3⟩, ⟨n0, n1, n2, n3⟩, ⟨q0, q1, ql, hq8, hl8, hg2⟩, ?_⟩
    have r1 := (hr8.stored (j * 4) (.int .i64 m.k.f)).1
    have r2 := (r1.stored (j * 4 + 1) (.int .i64 m.k.t)).1
    have r3 := (r2.stored (j * 4 + 2) (.slice (some ⟨g3, 0, none⟩) m.k.b.length c3')).1
    have r4 := (r3.stored (j * 4 + 3) (.bool true)).1
    have hg0 : w.heap.size ≤ g8 := by omega
    have hBf := (((hB68.setCell (p := ⟨g8, j * 4, none⟩) hg0 (.int .i64 m.k.f)).setCell (p := ⟨g8, j * 4 + 1, none⟩) hg0 (.int .i64 m.k.t)).setCell (p := ⟨g8, j * 4 + 2, none⟩) hg0 (.slice (some ⟨g3, 0, none⟩) m.k.b.length c3')).setCell (p := ⟨g8, j * 4 + 3, none⟩) hg0 (.bool true)
    have hg36 : g3 < w6.heap.size := ((own_ge ho6 rfl)).2
    have hg38 : g3 ≠ g8 := by omega
    have o8 : Own w8 0 (.slice (some ⟨g3, 0, none⟩) m.k.b.length c3') m.k.b.length (m.k.b.set p Y) := own_blk ho6 fun b e => by
      have e2 : g3 = b := Option.some.inj e
      exact hB8.block b (by omega)
    have of := own_blk o8 (w' := (((w8.setCell ⟨g8, j * 4, none⟩ (.int .i64 m.k.f)).setCell ⟨g8, j * 4 + 1, none⟩ (.int .i64 m.k.t)).setCell ⟨g8, j * 4 + 2, none⟩ (.slice (some ⟨g3, 0, none⟩) m.k.b.length c3')).setCell ⟨g8, j * 4 + 3, none⟩ (.bool true)) fun b e => by
      have e2 : g3 = b := Option.some.inj e
      subst e2
      rw [Below.heap_setCell _ ⟨g8, _, none⟩ _ g3 hg38, Below.heap_setCell _ ⟨g8, _, none⟩ _ g3 hg38, Below.heap_setCell _ ⟨g8, _, none⟩ _ g3 hg38, Below.heap_setCell _ ⟨g8, _, none⟩ _ g3 hg38]
    have hlen : (m.k.b.set p Y).length = m.k.b.length := List.length_set
    have key := doc_set hI'.out hk'.out hm'.out (w9 := (((w8.setCell ⟨g8, j * 4, none⟩ (.int .i64 m.k.f)).setCell ⟨g8, j * 4 + 1, none⟩ (.int .i64 m.k.t)).setCell ⟨g8, j * 4 + 2, none⟩ (.slice (some ⟨g3, 0, none⟩) m.k.b.length c3')).setCell ⟨g8, j * 4 + 3, none⟩ (.bool true)) (v' := .slice (some ⟨g8, 0, none⟩) ds.length c8) ⟨⟨m.k.f, m.k.t, m.k.b.set p Y, true⟩, some ⟨g3, 0, none⟩, c3'⟩ rfl rfl hBf (by
        rw [fl_set4 ds hm'.out]
        simp only [DP.v, hlen]
        exact own_low r4) (fun b e => by have e2 : g8 = b := Option.some.inj e; omega) (by simp only [DP.v, hlen]; exact of) (fun b e => by
        have e2 : g3 = b := Option.some.inj e
        omega) (by rw [hlen]; exact hlbm)
    unfold turned
    rw [hZe.out, hYe.out]
    exact key)
  replace hB67 := Lib.hid hB67
  replace hm7 := Lib.hid hm7
  clear hb5d hBd hod hB7 hb6 hB6 ho6 c0 c1 c2 c3 k0 kf
  go_wp2_with (at_builtin; refine wpList_gen rfl (.tmp 67) (.tmp 71) 26 rfl w5.heap.size 66 i0 _ 4 48 Try.underlying26 hi0 hz0 hz1 hz2 rfl (by decide) (.slice (some ⟨w5.heap.size, 0, none⟩) 0 0) 0 [] (by rfl) hm7.out (some ⟨g, 0, none⟩) ds.length cp (fl DP.cs ds) (by rfl) hfl.out hst7.out hone.out (by have := hls.out; rw [Nat.zero_add]; exact this) (by omega) hs7 ?_; intro A8 c8 w8 hr8 hg8 hat8; simp only [Nat.zero_add, List.nil_append] at hr8; obtain ⟨g8, rfl, ⟨x0, x1, x2, x3⟩, ⟨u0, u1, u2, u3⟩, ⟨n0, n1, n2, n3⟩, ⟨q0, q1, ql, hq8, hl8, hg88⟩, hFin⟩ := hAp.out A8 c8 w8 hr8 hg8; replace hFin := Lib.hid hFin; clear hr8 hg8 hat8)
  go_ret
  exact hFin.out
end
end Go.Proofs.Ytggoaglcffdcnaa.netRd
