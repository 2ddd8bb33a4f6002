/- LinkOwns: two ends, and rows of the law's own that are written. -/
import Derived.Test.YthiadkpndemeeaaLnkJ
namespace Go.Proofs.Ythiadkpndemeeaa.lnkK
open Go.ChangeShapes Go.WideShapes Go.ChangeAt Go.RowKit Go.Deep
open numM rowA byt numA numB numC lnkA lnkB lnkC lnkD lnkE lnkF lnkG lnkH lnkI lnkJ

theorem xor255 (a : Nat) (ha : a < 256) : bits .xor .u8 (a : Int) 255 = ((a ^^^ 255 : Nat) : Int) := by
  have hx : a ^^^ 255 < 2 ^ 8 := Nat.xor_lt_two_pow (by omega) (by omega)
  have h1 : (BitVec.ofInt 8 (a : Int)).toNat = a := by
    rw [BitVec.ofInt_natCast, BitVec.toNat_ofNat]; exact Nat.mod_eq_of_lt (by omega)
  have h2 : (BitVec.ofInt 8 (255 : Int)).toNat = 255 := by decide
  show IntKind.u8.wrap ((BitVec.ofInt 8 (a : Int) ^^^ BitVec.ofInt 8 (255 : Int)).toNat : Int) = _
  rw [BitVec.toNat_xor, h1, h2, IntKind.wrap_u8]
  omega
theorem xor_lt (a : Nat) (ha : a < 256) : a ^^^ 255 < 256 := Nat.xor_lt_two_pow (n := 8) ha (by decide)
theorem own_store {w : World} {base b9 n cap : Nat} {l : List Nat} (h : Own w base (.slice (some ⟨b9, 0, none⟩) n cap) n l) (j c : Nat) (hc : c < 256) : Own (w.setCell ⟨b9, j, none⟩ (.int .u8 c)) base (.slice (some ⟨b9, 0, none⟩) n cap) n (l.set j c) := by
  refine ⟨by rw [List.length_set]; exact h.1, ?_, h.2.2.1, ?_⟩
  · intro x hx
    rcases List.mem_or_eq_of_mem_set hx with hx | rfl
    · exact h.2.1 x hx
    · exact hc
  · have e : ub (l.set j c) = (ub l).set j (.int .u8 c) := by unfold ub; rw [List.map_set]
    rw [e]
    exact (h.2.2.2.stored j (.int .u8 c)).1
theorem own_same {w w1 : World} {base n : Nat} {v : Value} {l : List Nat} (h : Own w base v n l) (e : ∀ k, v.ownBlock = some k → w1.heap[k]? = w.heap[k]?) : Own w1 base v n l :=
  ⟨h.1, h.2.1, h.2.2.1, own_block h.2.2.2 e⟩

/-- Two ends, of colors 1 and 2; what the law owns besides has color 9. -/
structure Ends (col : Nat → Nat) (w0 w : World) (pa : Nat) (sa : St) (pb : Nat) (sb : St) : Prop where
  a : EndAt col 1 w pa sa
  b : EndAt col 2 w pb sb
  fresh : Fresh col w
  below : Below w0.heap.size w0 w
  zero : ∀ i, i < w0.heap.size → col i = 0
theorem Ends.step {col : Nat → Nat} {w0 w w1 : World} {pa pb : Nat} {sa sb : St} (h : Ends col w0 w pa sa pb sb) (hB : Below w.heap.size w w1) : Ends col w0 w1 pa sa pb sb :=
  ⟨h.a.below hB, h.b.below hB, h.fresh.below hB, h.below.trans (hB.mono h.below.size), h.zero⟩
/-- what has been made since gets color 9 -/
def paint (col : Nat → Nat) (a b : Nat) (k : Nat) : Nat := if a ≤ k ∧ k < b then 9 else col k
theorem paint_in {col : Nat → Nat} {a b k : Nat} (h1 : a ≤ k) (h2 : k < b) : paint col a b k = 9 := if_pos ⟨h1, h2⟩
theorem paint_lo {col : Nat → Nat} {a b k : Nat} (h1 : k < a) : paint col a b k = col k := if_neg (by omega)
theorem paint_hi {col : Nat → Nat} {a b k : Nat} (h1 : b ≤ k) : paint col a b k = col k := if_neg (by omega)
theorem Ends.paint {col : Nat → Nat} {w0 w w1 : World} {pa pb : Nat} {sa sb : St} (h : Ends col w0 w pa sa pb sb) (hB : Below w.heap.size w w1) : Ends (paint col w.heap.size w1.heap.size) w0 w1 pa sa pb sb := by
  have he : Ext w col (lnkK.paint col w.heap.size w1.heap.size) := fun k hk => paint_lo hk
  exact ⟨(h.a.ext he).below hB, (h.b.ext he).below hB, fun k hk => by rw [paint_hi hk]; exact h.fresh k (by have := hB.size; omega), h.below.trans (hB.mono h.below.size),
    fun i hi => by rw [paint_lo (by have := h.below.size; omega)]; exact h.zero i hi⟩
theorem Ends.chg9 {col : Nat → Nat} {w0 w w1 : World} {pa pb : Nat} {sa sb : St} (h : Ends col w0 w pa sa pb sb) (hg : Chg col 9 w w1) : Ends col w0 w1 pa sa pb sb :=
  ⟨h.a.other hg (by decide) (by decide) (Ext.refl _ _), h.b.other hg (by decide) (by decide) (Ext.refl _ _), h.fresh.size hg.size,
    h.below.trans (hg.below h.below.size (fun i hi => by rw [h.zero i hi]; decide)), h.zero⟩
theorem Ends.sent {col : Nat → Nat} {w0 w w1 : World} {pa pb : Nat} {sa sb : St} {l : List Nat} {e : Ending} (h : Ends col w0 w pa sa pb sb) (hs : Sent col 1 pa sa l w e w1) :
    e = .returned (.int .i64 (sendE sa l)) ∧ ∃ col', Ext w col col' ∧ Chg col 1 w w1 ∧ Ends col' w0 w1 pa (sendS sa l) pb sb := by
  obtain ⟨h1, col', h2, h3, h4, h5⟩ := hs
  refine ⟨h1, col', h2, h4, h5, h.b.other h4 (by decide) (by decide) h2, h3, h.below.trans (h4.below h.below.size (fun i hi => by rw [h.zero i hi]; decide)), fun i hi => ?_⟩
  rw [h2 i (by have := h.below.size; omega)]; exact h.zero i hi
theorem Ends.inb {col : Nat → Nat} {w0 w w1 : World} {pa pb : Nat} {sa sb : St} {f : Fm} {e : Ending} (h : Ends col w0 w pa sa pb sb) (hs : Inned col 2 pb sb f w e w1) :
    ∃ b us, e = .returned (.tuple #[b, .int .i64 (inE sb f)]) ∧ w1.ownsRow w.heap.size 29 1 b (inL sb f).length us ∧ Dats col w1 us (inL sb f) ∧ Chg col 2 w w1 ∧ Ends col w0 w1 pa sa pb (inS sb f) := by
  obtain ⟨b, us, h1, h2, h3, h4, h5⟩ := hs
  exact ⟨b, us, h1, h2, h3, h4, h.a.other h4 (by decide) (by decide) (Ext.refl _ _), h5, h.fresh.size h4.size, h.below.trans (h4.below h.below.size (fun i hi => by rw [h.zero i hi]; decide)), h.zero⟩
theorem Ends.new {w w1 w2 : World} {ep : Int} {pa pb : Nat} (hB1 : Below w.heap.size w w1) (hB2 : Below w1.heap.size w1 w2)
    (h1 : ∀ (col : Nat → Nat) (c : Nat), (∀ i, w.heap.size ≤ i → i < w1.heap.size → col i = c) → EndAt col c w1 pa (St.new ep)) (h2 : ∀ (col : Nat → Nat) (c : Nat), (∀ i, w1.heap.size ≤ i → i < w2.heap.size → col i = c) → EndAt col c w2 pb (St.new ep)) :
    ∃ col, Ends col w w2 pa (St.new ep) pb (St.new ep) := by
  refine ⟨fun k => if w.heap.size ≤ k ∧ k < w1.heap.size then 1 else if w1.heap.size ≤ k ∧ k < w2.heap.size then 2 else 0, ?_, ?_, ?_, ?_, ?_⟩
  · exact (h1 _ 1 fun i q1 q2 => if_pos ⟨q1, q2⟩).below hB2
  · exact h2 _ 2 fun i q1 q2 => by rw [if_neg (by omega), if_pos ⟨q1, q2⟩]
  · intro k hk
    have := hB2.size
    show (if _ then _ else _) = _
    rw [if_neg (by omega), if_neg (by omega)]
  · exact hB1.trans (hB2.mono hB1.size)
  · intro i hi
    have := hB1.size
    show (if _ then _ else _) = _
    rw [if_neg (by omega), if_neg (by omega)]
/-- what comes of the second body, and then of the first one -/
theorem two_in (ep : Int) (l : List Nat) : inE (inS (St.new ep) ⟨0, ep, 2, 0, l⟩) ⟨0, ep, 1, 0, l⟩ = 0 ∧ inL (inS (St.new ep) ⟨0, ep, 2, 0, l⟩) ⟨0, ep, 1, 0, l⟩ = [l, l] ∧ (inS (St.new ep) ⟨0, ep, 2, 0, l⟩).cnt = 2 := by
  have e1 : inS (St.new ep) ⟨0, ep, 2, 0, l⟩ = ⟨ep, 0, [], 0, fun k => if k ≤ 0 then none else if k = 2 then some l else none, 2⟩ := by
    simp [inS, St.new, outN, ackS, keepS, turnS, turnN, takeN, runLen]
  rw [e1]
  refine ⟨?_, ?_, rfl⟩
  · simp [inE, outN]
  · have h3 : (List.range 2) = [0, 1] := rfl
    simp [inL, outN, ackS, keepS, turnL, turnN, takeL, runLen, h3]
theorem set_far {w : World} {b g j : Nat} (o : Nat) (x : Value) (h : b ≠ g) : (w.setCell ⟨g, j, none⟩ x).cell? ⟨b, o, none⟩ = w.cell? ⟨b, o, none⟩ := World.cell?_of_block (a := ⟨b, o, none⟩) (Below.heap_setCell w ⟨g, j, none⟩ x b h)
set_option maxRecDepth 100000 in
set_option maxHeartbeats 4000000 in
theorem owns (ep : Int) (A : Option Addr) (n cap : Nat) (l : List Nat) (w : World) (hb : BL w A n l) :
    Calls Try.prog 8 #[.int .i64 ep, .slice A n cap] w fun e w' => e = .returned (.bool true) ∧ Below w.heap.size w w' := by
  obtain ⟨i0, hi, hz0, hz1, hz2⟩ := info_parts bytes8
  have hn9 := hb.2.1
  replace hb := Lib.hid hb
  by_cases hlong : 2000 < n
  · go_enter Try.func8, Try.ntmps8
    go_wp2_with (fail)
    refine (new_any ep w).mono ?_
    rintro e w1 ⟨pa, rfl, hB1, -, -, -⟩
    replace hB1 := Lib.hid hB1
    go_wp2_with (fail)
    refine (new_any ep w1).mono ?_
    rintro e w2 ⟨pb, rfl, hB2, -, -, -⟩
    have hB := Lib.hid (trans0 hB1.out hB2)
    clear hB1 hB2
    go_wp2
    go_ret
    exact ⟨rfl, hB.out⟩
  · have hn : n ≤ 2000 := by omega
    clear hlong
    go_enter Try.func8, Try.ntmps8
    go_wp2_with (fail)
    refine (new_any ep w).mono ?_
    rintro e w1 ⟨pa, rfl, hB1, -, -, hc1⟩
    replace hB1 := Lib.hid hB1
    replace hc1 := Lib.hid hc1
    go_wp2_with (fail)
    refine (new_any ep w1).mono ?_
    rintro e w2 ⟨pb, rfl, hB2, -, -, hc2⟩
    obtain ⟨col2, hE2⟩ := Ends.new hB1.out hB2 hc1.out hc2
    replace hE2 := Lib.hid hE2
    clear hB1 hc1 hB2 hc2
    have hmd := Lib.hid (Own.made w2 w2.heap.size (Nat.le_refl _) [] (by simp) (by simp) #[] rfl)
    have hb2 := Lib.hid (hb.out.below (hE2.out.step (al0 w2 (.cells #[] 5))).below)
    have hal := Lib.hid (al0 w2 (.cells #[] 5))
    go_wp2_with (at_builtin; (refine wpList_app rfl _ _ 29 rfl w2.heap.size i0 Try.underlying29 hi hz0 hz1 hz2 _ 0 [] rfl hmd.out A n cap l rfl hb2.out ?d1 ?d2 ?_))
    case d1 => omega
    case d2 => simp
    intro v3 w3 hown3 hgrow3
    have hB3 := Own.grown hmd.out hal.out hgrow3 (by simp)
    have hE3 := Lib.hid (hE2.out.paint hB3)
    obtain ⟨A3, c3, rfl, h31, h32, h33, h34, hl3⟩ := hown3.form
    have hl3' : Hid (BL w3 A3 l.length l) := Lib.hid (by rw [hl3.1]; exact hl3)
    have hc3 := Lib.hid (show ∀ k, (Value.slice A3 n c3).ownBlock = some k → lnkK.paint col2 w2.heap.size w3.heap.size k = 9 from fun k e => paint_in (hown3.2.2.2.lt k e).1 (hown3.2.2.2.lt k e).2)
    have hll : Hid (l.length = n) := Lib.hid hl3.1
    replace hown3 := Lib.hid hown3
    clear hmd hb2 hal hgrow3 hB3 hl3 hE2 h31 h33
    generalize lnkK.paint col2 w2.heap.size w3.heap.size = col3 at *
    go_wp2_with (fail)
    rw [← hll.out]
    refine (send_any A3 c3 l w3 hE3.out.a hl3'.out (by decide) hE3.out.fresh (by show (0 : Nat) < 1000000; decide)).mono ?_
    rintro e w4 hs
    obtain ⟨rfl, col4, hx4, hg4, hE4⟩ := hE3.out.sent hs
    have hsE : sendE (St.new ep) l = 0 := by unfold sendE; rw [if_neg (by rw [hll.out]; omega), if_neg (by simp [St.new])]
    have hsS : sendS (St.new ep) l = stPut (St.new ep) l := by unfold sendS; rw [if_neg (by rw [hll.out]; omega), if_neg (by simp [St.new])]
    rw [hsE]
    rw [hsS] at hE4
    have hown4 := Lib.hid (own_same hown3.out (fun k e => hg4.block k (hown3.out.2.2.2.lt k e).2 (by rw [hc3.out k e]; decide)))
    have hc4 := Lib.hid (show ∀ k, (Value.slice A3 n c3).ownBlock = some k → col4 k = 9 from fun k e => (hx4 k (hown3.out.2.2.2.lt k e).2).trans (hc3.out k e))
    replace hE4 := Lib.hid hE4
    clear hs hx4 hg4 hown3 hc3 hE3 hl3' hsE hsS
    rw [hll.out]
    go_wp2
    go_loopw [45] (fun i wr => ∃ (j : Nat) (M : List Nat), j ≤ n ∧ i = .int .i64 j ∧ Hid (Own wr w2.heap.size (.slice A3 n c3) n M) ∧ Hid (Ends col4 w wr pa (stPut (St.new ep) l) pb (St.new ep))) (fun i _ => n - (intOf i).toNat)
    case atStart => exact ⟨0, l, by omega, rfl, hown4, hE4⟩
    case round =>
      clear hown4 hE4
      obtain ⟨j, M, hj, rfl, hown, hE⟩ := hrel
      by_cases hlt : j < n
      · obtain ⟨b9, off9, rfl, -⟩ := (own_bl hown.out).at (show 0 < n by omega)
        obtain ⟨_, _, e0, _, _, _, hy, _⟩ := hown.out.form
        cases e0
        obtain ⟨g', e1⟩ := hy _ rfl
        cases e1
        clear hy
        have hml : j < M.length := by have := hown.out.1; omega
        have hm8 := nth_lt hown.out.2.1 hml
        have cw : wr.cell? ⟨b9, j, none⟩ = some (.int .u8 (nth M j)) := by
          rw [hown.out.2.2.2.cellAt j (by omega), ub_get M hml]
        have fw := hown.out.2.2.2.frozenAt j
        have hx := xor255 (nth M j) hm8
        have hst := Lib.hid (own_store hown.out j (nth M j ^^^ 255) (xor_lt _ hm8))
        have hE' := Lib.hid (hE.out.chg9 ((Chg.refl col4 9 wr).setCell (p := ⟨b9, j, none⟩) (hc4.out b9 rfl) (.int .u8 ((nth M j ^^^ 255 : Nat)))))
        clear hown hE hml
        generalize nth M j = y at *
        go_wp2
        go_roundw
        case rel => exact ⟨j + 1, _, by omega, by go_num, hst, hE'⟩
        case measure => simp [intOf]; omega
      · obtain rfl : j = n := by omega
        clear hown hc4
        go_wp2_with (fail)
        refine (out_any wr hE.out.a).mono ?_
        rintro e w5 ⟨v5, rfl, hR5, hB5⟩
        change FR w5 wr.heap.size v5 1 (outF (stPut (St.new ep) l)) at hR5
        obtain ⟨g5, rfl, hlo5, hlt5, hat⟩ := FR.at hR5
        obtain ⟨B5, c5, ⟨k0, k1, k2, k3, k4⟩, hO5⟩ := hat 0 (by omega)
        simp only [Nat.zero_mul, Nat.zero_add] at k0 k1 k2 k3 k4
        change w5.cell? ⟨g5, 0, none⟩ = some (.int .i64 0) at k0
        change w5.cell? ⟨g5, 1, none⟩ = some (.int .i64 ep) at k1
        change w5.cell? ⟨g5, 2, none⟩ = some (.int .i64 1) at k2
        change w5.cell? ⟨g5, 3, none⟩ = some (.int .i64 0) at k3
        change w5.cell? ⟨g5, 4, none⟩ = some (.slice B5 l.length c5) at k4
        change Own w5 (g5 + 1) (.slice B5 l.length c5) l.length l at hO5
        rw [hll.out] at k4 hO5
        have hb5 := Lib.hid (hb.out.below (hE.out.step hB5).below)
        have hR5' := Lib.hid hR5
        have hO5' := Lib.hid hO5
        have hob5 := Lib.hid (own_bl hO5)
        replace hB5 := Lib.hid hB5
        have hk4 := Lib.hid k4
        clear hR5 hO5 hat
        have hf6 := Lib.hid (cfrow w5 ⟨0, ep, 1, 0, l⟩ B5 c5)
        have hal6 := trans0 (al0 w5 (.cells (cf ⟨0, ep, 1, 0, l⟩ B5 c5) 31)) (al0 _ (.cells #[] 5))
        have hob6 := Lib.hid (hob5.out.below hal6)
        have hmd6 := Own.made (w5.alloc (.cells (cf ⟨0, ep, 1, 0, l⟩ B5 c5) 31)) (w5.alloc (.cells (cf ⟨0, ep, 1, 0, l⟩ B5 c5) 31)).heap.size (Nat.le_refl _) [] (by simp) (by simp) #[] rfl
        have hkeep : ∀ w7, ((w5.alloc (.cells (cf ⟨0, ep, 1, 0, l⟩ B5 c5) 31)).alloc (.cells #[] 5)).grownBy w7 (Value.slice (some ⟨w5.heap.size + 1, 0, none⟩) 0 0).ownBlock → FB w7 w5.heap.size ⟨0, ep, 1, 0, l⟩ B5 c5 := fun w7 hg =>
          (hf6.out.alloc (.cells #[] 5)).of_block (hg.block w5.heap.size (by simp; omega) (by simp [Value.ownBlock]))
        unfold cf at hkeep
        dsimp only at hkeep
        rw [hll.out] at hkeep
        replace hkeep := Lib.hid hkeep
        have hws6 : (w5.alloc (.cells (cf ⟨0, ep, 1, 0, l⟩ B5 c5) 31)).heap.size = w5.heap.size + 1 := by simp
        rw [hws6] at hmd6
        unfold cf at hob6 hmd6 hal6
        dsimp only at hob6 hmd6 hal6
        rw [hll.out] at hob6 hmd6 hal6
        replace hmd6 := Lib.hid hmd6
        replace hal6 := Lib.hid hal6
        clear hws6
        go_wp2_with (first
          | (go_at_call 18; ((with_reducible refine (same_any _ _ _ l _ _ _ _ hob5.out hb5.out).mono ?_); rintro e w' ⟨rfl, rfl⟩))
          | (at_builtin; (refine wpList_app rfl (.tmp 72) (.tmp 74) 29 rfl (w5.heap.size + 1) i0 Try.underlying29 hi hz0 hz1 hz2 _ 0 [] rfl hmd6.out B5 _ c5 l rfl hob6.out ?d1 ?d2 ?_)))
        case d1 => omega
        case d2 => simp
        intro v7 w7 hown7 hgrow7
        have hB7 := Own.grown (base := w5.heap.size) (hmd6.out.more (by omega)) hal6.out hgrow7 (by simp; omega)
        have r7 := hkeep.out w7 hgrow7
        obtain ⟨A7, c7, rfl, -, -, -, -, hl7⟩ := hown7.form
        obtain ⟨z0, z1, z2, z3, z4⟩ := FB.cells r7
        have y4 := World.rowIs.frozen r7 4
        dsimp only at z0 z1 z2 z3 z4
        replace r7 := Lib.hid r7
        replace hB7 := Lib.hid hB7
        replace hown7 := Lib.hid hown7
        replace hl7 := Lib.hid hl7
        clear hgrow7 hmd6 hal6 hob6 hf6 k0 k1 k2 k3 k4 hob5 hb5
        go_wp2_with (fail)
        have hB8 : Below wr.heap.size wr (w7.setCell ⟨w5.heap.size, 4, none⟩ (.slice A7 j c7)) := (hB5.out.trans (hB7.out.mono hB5.out.size)).setCell (p := ⟨w5.heap.size, 4, none⟩) hB5.out.size _
        have hB9 : Below wr.heap.size wr ((w7.setCell ⟨w5.heap.size, 4, none⟩ (.slice A7 j c7)).alloc (.cells #[.int .i64 0, .int .i64 ep, .int .i64 2, .int .i64 0, .slice A7 j c7] 31)) := hB8.alloc hB8.size _
        have hE9 := hE.out.paint hB9
        have o7 : Own ((w7.setCell ⟨w5.heap.size, 4, none⟩ (.slice A7 j c7)).alloc (.cells #[.int .i64 0, .int .i64 ep, .int .i64 2, .int .i64 0, .slice A7 j c7] 31)) (w5.heap.size + 1) (.slice A7 j c7) j l :=
          (own_same hown7.out (fun k e => Below.heap_setCell _ _ _ _ (by have := (hown7.out.2.2.2.lt k e).1; simp; omega))).alloc _
        have o5 : Own ((w7.setCell ⟨w5.heap.size, 4, none⟩ (.slice A7 j c7)).alloc (.cells #[.int .i64 0, .int .i64 ep, .int .i64 2, .int .i64 0, .slice A7 j c7] 31)) (g5 + 1) (.slice B5 j c5) j l :=
          (own_same (own_same hO5'.out (fun k e => hB7.out.block k (hO5'.out.2.2.2.lt k e).2)) (fun k e => Below.heap_setCell _ _ _ _ (by have := (hO5'.out.2.2.2.lt k e).2; simp; omega))).alloc _
        have x4 : ((w7.setCell ⟨w5.heap.size, 4, none⟩ (.slice A7 j c7)).alloc (.cells #[.int .i64 0, .int .i64 ep, .int .i64 2, .int .i64 0, .slice A7 j c7] 31)).cell? ⟨w5.heap.size, 4, none⟩ = some (.slice A7 j c7) :=
          ((World.rowIs.set r7.out 4 (.slice A7 j c7)).alloc _).cell (i := 4) (by omega)
        have x5 : ((w7.setCell ⟨w5.heap.size, 4, none⟩ (.slice A7 j c7)).alloc (.cells #[.int .i64 0, .int .i64 ep, .int .i64 2, .int .i64 0, .slice A7 j c7] 31)).cell? ⟨g5, 4, none⟩ = some (.slice B5 j c5) := by
          rw [World.cell?_of_block (a := ⟨g5, 4, none⟩) (Below.heap_alloc _ _ g5 (by rw [World.size_setCell]; have := hB7.out.size; omega)), set_far 4 _ (by omega), hB7.out.cell (p := ⟨g5, 4, none⟩) hlt5]
          exact hk4.out
        have hx9 : ∀ k, wr.heap.size ≤ k → k < ((w7.setCell ⟨w5.heap.size, 4, none⟩ (.slice A7 j c7)).alloc (.cells #[.int .i64 0, .int .i64 ep, .int .i64 2, .int .i64 0, .slice A7 j c7] 31)).heap.size → lnkK.paint col4 wr.heap.size ((w7.setCell ⟨w5.heap.size, 4, none⟩ (.slice A7 j c7)).alloc (.cells #[.int .i64 0, .int .i64 ep, .int .i64 2, .int .i64 0, .slice A7 j c7] 31)).heap.size k = 9 := fun k q1 q2 => paint_in q1 q2
        have hw59 : w5.heap.size < ((w7.setCell ⟨w5.heap.size, 4, none⟩ (.slice A7 j c7)).alloc (.cells #[.int .i64 0, .int .i64 ep, .int .i64 2, .int .i64 0, .slice A7 j c7] 31)).heap.size := by have := hB7.out.size; simp; omega
        have hwr5 := hB5.out.size
        generalize (w7.setCell ⟨w5.heap.size, 4, none⟩ (.slice A7 j c7)).alloc (.cells #[.int .i64 0, .int .i64 ep, .int .i64 2, .int .i64 0, .slice A7 j c7] 31) = W9 at *
        generalize lnkK.paint col4 wr.heap.size W9.heap.size = col9 at *
        have y7 : ∀ k, (Value.slice A7 j c7).ownBlock = some k → w5.heap.size + 1 ≤ k ∧ col9 k = 9 := fun k e => ⟨(o7.2.2.2.lt k e).1, hx9 k (by have := (o7.2.2.2.lt k e).1; omega) (o7.2.2.2.lt k e).2⟩
        have y5 : ∀ k, (Value.slice B5 j c5).ownBlock = some k → g5 + 1 ≤ k ∧ k < w5.heap.size ∧ col9 k = 9 := fun k e => ⟨(o5.2.2.2.lt k e).1, (hO5'.out.2.2.2.lt k e).2, hx9 k (by have := (o5.2.2.2.lt k e).1; omega) (o5.2.2.2.lt k e).2⟩
        have hx45 := Lib.hid (hx9 w5.heap.size (by omega) hw59)
        have hx4g := Lib.hid (hx9 g5 hlo5 (by omega))
        have hl9 := own_bl o7
        replace y7 := Lib.hid y7
        replace y5 := Lib.hid y5
        replace hE9 := Lib.hid hE9
        replace o7 := Lib.hid o7
        replace o5 := Lib.hid o5
        have hl9' : Hid (BL W9 A7 l.length l) := Lib.hid (by rw [hll.out]; exact hl9)
        clear hB8 hB9 hx9 hl9 z0 z1 z2 z3 y4 r7 hE hB5 hB7 hO5' hown7 hl7 hkeep hR5' hk4
        clear z4
        rw [← hll.out]
        refine (in_any ⟨0, ep, 2, 0, l⟩ A7 c7 W9 hE9.out.b hl9'.out (by rw [hll.out]; omega) (fun y e => by subst e; rw [(y7.out _ rfl).2]; decide) (by decide) hE9.out.fresh (by show (0 : Nat) + 2 ≤ 1000000; decide) (by show (2 : Int) ≤ 9223372036854775807; decide)).mono ?_
        rintro e w10 hin
        obtain ⟨b10, us10, rfl, -, -, hg10, hE10⟩ := hE9.out.inb hin
        rw [hll.out]
        have p7 := Lib.hid (own_same o7.out (fun k e => hg10.block k (o7.out.2.2.2.lt k e).2 (by rw [(y7.out k e).2]; decide)))
        have p5 := Lib.hid (own_same o5.out (fun k e => hg10.block k (o5.out.2.2.2.lt k e).2 (by rw [(y5.out k e).2.2]; decide)))
        have q4 := Lib.hid ((World.cell?_of_block (a := ⟨w5.heap.size, 4, none⟩) (hg10.block _ hw59 (by rw [hx45.out]; decide))).trans x4)
        have q5 := Lib.hid ((World.cell?_of_block (a := ⟨g5, 4, none⟩) (hg10.block g5 (by omega) (by rw [hx4g.out]; decide))).trans x5)
        replace hE10 := Lib.hid hE10
        clear hin hg10 o7 o5 x4 x5 hE9 hl9' hx45 hx4g hw59 hwr5
        have q4' := q4.out
        go_wp2
        clear q4'
        go_loopw [85] (fun i wr => ∃ (k : Nat) (M7 M5 : List Nat), k ≤ j ∧ i = .int .i64 k ∧ Hid (Own wr (w5.heap.size + 1) (.slice A7 j c7) j M7) ∧ Hid (Own wr (g5 + 1) (.slice B5 j c5) j M5) ∧ Hid (wr.cell? ⟨w5.heap.size, 4, none⟩ = some (.slice A7 j c7)) ∧ Hid (wr.cell? ⟨g5, 4, none⟩ = some (.slice B5 j c5)) ∧ Hid (Ends col9 w wr pa (stPut (St.new ep) l) pb (inS (St.new ep) ⟨0, ep, 2, 0, l⟩))) (fun i _ => j - (intOf i).toNat)
        case atStart => exact ⟨0, l, l, by omega, rfl, p7, p5, q4, q5, hE10⟩
        case round =>
          clear p7 p5 q4 q5 hE10
          obtain ⟨k, M7, M5, hkj, rfl, o7, o5, x4, x5, hE⟩ := hrel
          by_cases hlt2 : k < j
          · have n7 : 0 < j := by omega
            obtain ⟨b7, off7, rfl, -⟩ := (own_bl o7.out).at n7
            obtain ⟨_, _, e0, _, _, _, hy, _⟩ := o7.out.form
            cases e0
            obtain ⟨g', e1⟩ := hy _ rfl
            cases e1
            clear hy
            obtain ⟨d5, off5, rfl, -⟩ := (own_bl o5.out).at n7
            obtain ⟨_, _, e0, _, _, _, hy, _⟩ := o5.out.form
            cases e0
            obtain ⟨g', e1⟩ := hy _ rfl
            cases e1
            clear hy
            obtain ⟨t71, t72⟩ := y7.out b7 rfl
            obtain ⟨t51, t52, t53⟩ := y5.out d5 rfl
            have m7 : k < M7.length := by have := o7.out.1; omega
            have m5 : k < M5.length := by have := o5.out.1; omega
            have v7 := nth_lt o7.out.2.1 m7
            have v5 := nth_lt o5.out.2.1 m5
            have cw7 : wr.cell? ⟨b7, k, none⟩ = some (.int .u8 (nth M7 k)) := by rw [o7.out.2.2.2.cellAt k (by omega), ub_get M7 m7]
            have fw7 := o7.out.2.2.2.frozenAt k
            have st7 := own_store o7.out k (nth M7 k ^^^ 255) (xor_lt _ v7)
            have hx7 := xor255 (nth M7 k) v7
            have hx5 := xor255 (nth M5 k) v5
            have st5a := own_same o5.out (w1 := wr.setCell ⟨b7, k, none⟩ (.int .u8 ((nth M7 k ^^^ 255 : Nat)))) (fun q e => by cases e; exact Below.heap_setCell _ _ _ _ (by simp; omega))
            have cw5 : (wr.setCell ⟨b7, k, none⟩ (.int .u8 ((nth M7 k ^^^ 255 : Nat)))).cell? ⟨d5, k, none⟩ = some (.int .u8 (nth M5 k)) := by rw [st5a.2.2.2.cellAt k (by omega), ub_get M5 m5]
            have fw5 := st5a.2.2.2.frozenAt k
            have x5a : (wr.setCell ⟨b7, k, none⟩ (.int .u8 ((nth M7 k ^^^ 255 : Nat)))).cell? ⟨g5, 4, none⟩ = some (.slice (some ⟨d5, 0, none⟩) j c5) := by rw [set_far 4 _ (by omega)]; exact x5.out
            have st5 := Lib.hid (own_store st5a k (nth M5 k ^^^ 255) (xor_lt _ v5))
            have st7b := Lib.hid (own_same st7 (w1 := (wr.setCell ⟨b7, k, none⟩ (.int .u8 ((nth M7 k ^^^ 255 : Nat)))).setCell ⟨d5, k, none⟩ (.int .u8 ((nth M5 k ^^^ 255 : Nat)))) (fun q e => by cases e; exact Below.heap_setCell _ _ _ _ (by simp; omega)))
            have x4b : Hid (((wr.setCell ⟨b7, k, none⟩ (.int .u8 ((nth M7 k ^^^ 255 : Nat)))).setCell ⟨d5, k, none⟩ (.int .u8 ((nth M5 k ^^^ 255 : Nat)))).cell? ⟨w5.heap.size, 4, none⟩ = some (.slice (some ⟨b7, 0, none⟩) j c7)) := Lib.hid (by rw [set_far 4 _ (by omega), set_far 4 _ (by omega)]; exact x4.out)
            have x5b : Hid (((wr.setCell ⟨b7, k, none⟩ (.int .u8 ((nth M7 k ^^^ 255 : Nat)))).setCell ⟨d5, k, none⟩ (.int .u8 ((nth M5 k ^^^ 255 : Nat)))).cell? ⟨g5, 4, none⟩ = some (.slice (some ⟨d5, 0, none⟩) j c5)) := Lib.hid (by rw [set_far 4 _ (by omega)]; exact x5a)
            have hEb := Lib.hid (hE.out.chg9 (((Chg.refl col9 9 wr).setCell (p := ⟨b7, k, none⟩) t72 (.int .u8 ((nth M7 k ^^^ 255 : Nat)))).setCell (p := ⟨d5, k, none⟩) t53 (.int .u8 ((nth M5 k ^^^ 255 : Nat)))))
            have x4' := x4.out
            clear o7 o5 x4 x5 hE st7 st5a m7 m5 hb t71 t72 t51 t52 t53
            generalize nth M7 k = z7 at *
            generalize nth M5 k = z5 at *
            go_wp2
            go_roundw
            case rel => exact ⟨k + 1, _, _, by omega, by go_num, st7b, st5, x4b, x5b, hEb⟩
            case measure => simp [intOf]; omega
          · obtain rfl : k = j := by omega
            clear o7 o5 x4 x5 y7 y5
            go_wp2_with (fail)
            refine (out_any wr hE.out.a).mono ?_
            rintro e w11 ⟨v11, rfl, hR, hB11⟩
            change FR w11 wr.heap.size v11 1 (outF (stPut (St.new ep) l)) at hR
            obtain ⟨g11, rfl, hlo, -, hat⟩ := FR.at hR
            obtain ⟨B11, c11, ⟨k0, k1, k2, k3, k4⟩, hO⟩ := hat 0 (by omega)
            simp only [Nat.zero_mul, Nat.zero_add] at k0 k1 k2 k3 k4
            change w11.cell? ⟨g11, 0, none⟩ = some (.int .i64 0) at k0
            change w11.cell? ⟨g11, 1, none⟩ = some (.int .i64 ep) at k1
            change w11.cell? ⟨g11, 2, none⟩ = some (.int .i64 1) at k2
            change w11.cell? ⟨g11, 3, none⟩ = some (.int .i64 0) at k3
            change w11.cell? ⟨g11, 4, none⟩ = some (.slice B11 l.length c11) at k4
            change Own w11 (g11 + 1) (.slice B11 l.length c11) l.length l at hO
            have hE11 := Lib.hid (hE.out.step hB11)
            have hfr := Lib.hid (show ∀ y, B11 = some y → col9 y.block = 0 from fun y e => by subst e; exact hE.out.fresh _ (by have := (hO.2.2.2.lt y.block rfl).1; omega))
            replace hO := Lib.hid hO
            clear hR hat hE hB11
            obtain ⟨t1, t2, t3⟩ := two_in ep l
            have hfin := Lib.hid (And.intro t1 (And.intro t2 t3))
            clear t1 t2 t3
            go_wp2_with (fail)
            refine (in_any ⟨0, ep, 1, 0, l⟩ B11 c11 w11 hE11.out.b (own_bl hO.out) (by rw [hll.out]; omega) (fun y e => by rw [hfr.out y e]; decide) (by decide) hE11.out.fresh (by rw [hfin.out.2.2]; decide) (by show (1 : Int) ≤ 9223372036854775807; decide)).mono ?_
            rintro e w12 hin
            obtain ⟨b12, us, rfl, ho12, hd12, -, hE12⟩ := hE11.out.inb hin
            rw [hfin.out.2.1] at ho12 hd12
            rw [hfin.out.1]
            change w12.ownsRow w11.heap.size 29 1 b12 2 us at ho12
            obtain ⟨u0, hu0, hd0⟩ := hd12.get (i := 0) (by simp)
            obtain ⟨u1, hu1, hd1⟩ := hd12.get (i := 1) (by simp)
            change Dat col9 w12 u0 l at hd0
            change Dat col9 w12 u1 l at hd1
            obtain ⟨D0, d0, rfl, hbl0, -⟩ := hd0
            obtain ⟨D1, d1, rfl, hbl1, -⟩ := hd1
            obtain ⟨g12, c12, rfl⟩ : ∃ g c, b12 = .slice (some ⟨g, 0, none⟩) 2 c := by
              rcases ho12.2 with ⟨_, e⟩ | ⟨g, cap, cur, e, _⟩
              · omega
              · exact ⟨g, cap, e⟩
            have q0 := ho12.cells (g := g12) rfl 0 _ hu0
            have q1 := ho12.cells (g := g12) rfl 1 _ hu1
            rw [add_plain] at q0 q1
            rw [hll.out] at q0 q1 hbl0 hbl1
            replace hbl0 := Lib.hid hbl0
            replace hbl1 := Lib.hid hbl1
            replace q0 := Lib.hid q0
            replace q1 := Lib.hid q1
            have hbw := Lib.hid (hb.out.below hE12.below)
            have hBw := Lib.hid hE12.below
            have hlt12 := Lib.hid (World.block_lt_of_cell? _ _ q0.out)
            clear hin hE12 hE11 hfin hO hfr k0 k1 k2 k3 k4 ho12 hd12 hu0 hu1
            go_wp2_with (fail)
            refine (awake_any w12).mono ?_
            rintro e w13 ⟨rfl, hB13⟩
            have r0 := (hB13.cell (p := ⟨g12, 0 + 0, none⟩) hlt12.out).trans q0.out
            have r1 := (hB13.cell (p := ⟨g12, 0 + 1, none⟩) hlt12.out).trans q1.out
            simp only [Nat.zero_add] at r0 r1
            have s0 := Lib.hid (hbl0.out.below hB13)
            have s1 := Lib.hid (hbl1.out.below hB13)
            have sb := Lib.hid (hbw.out.below hB13)
            have sB := Lib.hid (hBw.out.trans (hB13.mono hBw.out.size))
            clear hB13 q0 q1 hbl0 hbl1 hbw hBw hlt12
            go_wp2_with (first
              | (go_at_call 18; ((with_reducible refine (same_any _ _ _ l _ _ _ _ s0.out sb.out).mono ?_); rintro e w' ⟨rfl, rfl⟩))
              | (go_at_call 18; ((with_reducible refine (same_any _ _ _ l _ _ _ _ s1.out sb.out).mono ?_); rintro e w' ⟨rfl, rfl⟩)))
            go_ret
            exact ⟨rfl, sB.out⟩
end Go.Proofs.Ythiadkpndemeeaa.lnkK
