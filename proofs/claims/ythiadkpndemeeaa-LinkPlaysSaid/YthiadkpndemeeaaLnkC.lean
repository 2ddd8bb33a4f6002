/- The contracts of New, frame and Note. -/
import Derived.Test.YthiadkpndemeeaaLnkB
namespace Go.Proofs.Ythiadkpndemeeaa.lnkC
open Go.ChangeShapes Go.WideShapes Go.ChangeAt Go.RowKit Go.Deep
open numM rowA byt numA numB numC lnkA lnkB

/-! ### A new end -/
theorem new_row (w : World) (ep : Int) (m : Nat) : (w.alloc (.cells #[.int .i64 ep, .int .i64 0, .slice none 0 0, .int .i64 0, .map (some m)] 64)).rowIs w.heap.size 64 5 (cE (St.new ep) (.slice none 0 0) m) := by
  have h := World.rowIs_alloc w #[.int .i64 ep, .int .i64 0, .slice none 0 0, .int .i64 0, .map (some m)] 64 (cE (St.new ep) (.slice none 0 0) m) (fun i hi => ?_)
  · exact h
  · have : i = 0 ∨ i = 1 ∨ i = 2 ∨ i = 3 ∨ i = 4 := by simp at hi; omega
    rcases this with rfl | rfl | rfl | rfl | rfl <;> rfl
/-- A new end: at p, whatever colors its blocks are given. -/
def Newd (w : World) (ep : Int) (e : Ending) (w' : World) : Prop :=
  ∃ p, e = .returned (.pointer (some ⟨p, 0, none⟩)) ∧ Below w.heap.size w w' ∧ w.heap.size ≤ p ∧ p < w'.heap.size ∧ ∀ col c, (∀ k, w.heap.size ≤ k → k < w'.heap.size → col k = c) → EndAt col c w' p (St.new ep)
set_option maxRecDepth 100000 in
theorem new_any (ep : Int) (w : World) : Calls Try.prog 10 #[.int .i64 ep] w (Newd w ep) := by
  have hmm := @run_makeMap Try.prog
  have hB := Lib.hid (((al0 w (.map #[] 0))).trans ((al0 (w.alloc (.map #[] 0)) (.cells #[.int .i64 ep, .int .i64 0, .slice none 0 0, .int .i64 0, .map (some w.heap.size)] 64)).mono (by simp)))
  have hr := Lib.hid (new_row (w.alloc (.map #[] 0)) ep w.heap.size)
  have hm := Lib.hid ((World.ownsMap_made w Try.prog 3 hR).alloc (.cells #[.int .i64 ep, .int .i64 0, .slice none 0 0, .int .i64 0, .map (some w.heap.size)] 64))
  go_enter Try.func10, Try.ntmps10
  go_wp2
  go_ret
  refine ⟨_, rfl, hB.out, by omega, by simp, fun col c hcol => ⟨.slice none 0 0, w.heap.size, [], 0, .map [], ?_⟩⟩
  have hsz : (w.alloc (.map #[] 0)).heap.size = w.heap.size + 1 := by simp
  rw [hsz] at hr
  exact
    { row := hr.out, own := World.ownsRow_nil _ _ _ 1, dat := trivial, map := hm.out, nle := Nat.le_refl _,
      ear := fun k => ⟨rfl, fun l e => (by cases e)⟩, cp := hcol _ (by omega) (by simp), cm := hcol _ (by omega) (by simp; omega), cv := fun k e => (by cases e), ok := St.ok_new ep }

/-! ### A frame -/
abbrev SE (p : Nat) (s : St) (v : Value) (m : Nat) (w : World) : Prop :=
  w.cell? ⟨p, 0, none⟩ = some (.int .i64 s.ep) ∧ w.cell? ⟨p, 1, none⟩ = some (.int .i64 s.acked) ∧ w.cell? ⟨p, 2, none⟩ = some v ∧ w.cell? ⟨p, 3, none⟩ = some (.int .i64 s.got) ∧ w.cell? ⟨p, 4, none⟩ = some (.map (some m))
theorem SE.below {p : Nat} {s : St} {v : Value} {m : Nat} {w w1 : World} (h : SE p s v m w) (hB : Below w.heap.size w w1) : SE p s v m w1 := by
  have hlt := World.block_lt_of_cell? _ _ h.1
  have e : ∀ i, w1.cell? ⟨p, i, none⟩ = w.cell? ⟨p, i, none⟩ := fun i => hB.cell (p := ⟨p, i, none⟩) hlt
  unfold SE
  rw [e, e, e, e, e]; exact h
/-- five cells of a frame that may be written -/
abbrev Z5 (b : Nat) (w : World) : Prop :=
  (w.cell? ⟨b, 0, none⟩ = some (.int .i64 0) ∧ w.cell? ⟨b, 1, none⟩ = some (.int .i64 0) ∧ w.cell? ⟨b, 2, none⟩ = some (.int .i64 0) ∧ w.cell? ⟨b, 3, none⟩ = some (.int .i64 0) ∧ w.cell? ⟨b, 4, none⟩ = some (.slice none 0 0)) ∧
  w.frozen? ⟨b, 0, none⟩ = false ∧ w.frozen? ⟨b, 1, none⟩ = false ∧ w.frozen? ⟨b, 2, none⟩ = false ∧ w.frozen? ⟨b, 3, none⟩ = false ∧ w.frozen? ⟨b, 4, none⟩ = false
theorem Z5.below {b : Nat} {w w1 : World} (h : Z5 b w) (hB : Below w.heap.size w w1) : Z5 b w1 := by
  have hlt := World.block_lt_of_cell? _ _ h.1.1
  have e : ∀ i, w1.cell? ⟨b, i, none⟩ = w.cell? ⟨b, i, none⟩ := fun i => hB.cell (p := ⟨b, i, none⟩) hlt
  have e' : ∀ i, w1.frozen? ⟨b, i, none⟩ = w.frozen? ⟨b, i, none⟩ := fun i => hB.frozen (p := ⟨b, i, none⟩) hlt
  unfold Z5
  rw [e, e, e, e, e, e', e', e', e', e']; exact h
theorem Z5.new (w : World) : Z5 w.heap.size (w.alloc (.cells #[.int .i64 0, .int .i64 0, .int .i64 0, .int .i64 0, .slice none 0 0] 31)) := by
  have h := World.rowIs_alloc w #[.int .i64 0, .int .i64 0, .int .i64 0, .int .i64 0, .slice none 0 0] 31 (fun i => (#[.int .i64 0, .int .i64 0, .int .i64 0, .int .i64 0, .slice none 0 0] : Array Value).getD i undef) (fun i hi => ?_)
  · exact ⟨⟨h.cell (i := 0) (by simp), h.cell (i := 1) (by simp), h.cell (i := 2) (by simp), h.cell (i := 3) (by simp), h.cell (i := 4) (by simp)⟩, h.frozen 0, h.frozen 1, h.frozen 2, h.frozen 3, h.frozen 4⟩
  · have : i = 0 ∨ i = 1 ∨ i = 2 ∨ i = 3 ∨ i = 4 := by simp at hi; omega
    rcases this with rfl | rfl | rfl | rfl | rfl <;> rfl
theorem Z5.drew {b : Nat} {w : World} (h : Z5 b w) : Z5 b w.drew := h
abbrev SG (b : Nat) (p : Nat) (s : St) (v : Value) (m : Nat) (w : World) : Prop := SE p s v m w ∧ p < b
theorem SG.below {b : Nat} {p : Nat} {s : St} {v : Value} {m : Nat} {w w1 : World} (h : SG b p s v m w) (hB : Below w.heap.size w w1) : SG b p s v m w1 := ⟨h.1.below hB, h.2⟩
theorem SG.drew {b : Nat} {p : Nat} {s : St} {v : Value} {m : Nat} {w : World} (h : SG b p s v m w) : SG b p s v m w.drew := h
theorem SG.set {b : Nat} {p : Nat} {s : St} {v : Value} {m : Nat} {w : World} (h : SG b p s v m w) (i : Nat) (x : Value) : SG b p s v m (w.setCell ⟨b, i, none⟩ x) := by
  have e : ∀ j, (w.setCell ⟨b, i, none⟩ x).cell? ⟨p, j, none⟩ = w.cell? ⟨p, j, none⟩ := fun j => World.cell?_of_block (Below.heap_setCell w ⟨b, i, none⟩ x p (by have := h.2; simp; omega))
  unfold SG SE
  rw [e, e, e, e, e]; exact h
theorem SG.set5 {b : Nat} {p : Nat} {s : St} {v : Value} {m : Nat} {w : World} (h : SG b p s v m w) (x0 x1 x2 x3 x4 : Value) :
    SG b p s v m (((((w.setCell ⟨b, 0, none⟩ x0).setCell ⟨b, 1, none⟩ x1).setCell ⟨b, 2, none⟩ x2).setCell ⟨b, 3, none⟩ x3).setCell ⟨b, 4, none⟩ x4) :=
  ((((h.set 0 x0).set 1 x1).set 2 x2).set 3 x3).set 4 x4
theorem below5 {B b : Nat} {w0 w : World} (h : Below B w0 w) (hb : B ≤ b) (x0 x1 x2 x3 x4 : Value) :
    Below B w0 (((((w.setCell ⟨b, 0, none⟩ x0).setCell ⟨b, 1, none⟩ x1).setCell ⟨b, 2, none⟩ x2).setCell ⟨b, 3, none⟩ x3).setCell ⟨b, 4, none⟩ x4) :=
  ((((h.setCell (p := ⟨b, 0, none⟩) hb x0).setCell (p := ⟨b, 1, none⟩) hb x1).setCell (p := ⟨b, 2, none⟩) hb x2).setCell (p := ⟨b, 3, none⟩) hb x3).setCell (p := ⟨b, 4, none⟩) hb x4
theorem own5 {base b n : Nat} {v : Value} {l : List Nat} {w : World} (h : Own w base v n l) (hb : b < base) (x0 x1 x2 x3 x4 : Value) :
    Own (((((w.setCell ⟨b, 0, none⟩ x0).setCell ⟨b, 1, none⟩ x1).setCell ⟨b, 2, none⟩ x2).setCell ⟨b, 3, none⟩ x3).setCell ⟨b, 4, none⟩ x4) base v n l := by
  refine ⟨h.1, h.2.1, h.2.2.1, h.2.2.2.1, ?_⟩
  rcases h.2.2.2.2 with h | ⟨g, cap, cur, rfl, h2, h3, h4⟩
  · exact .inl h
  · refine .inr ⟨g, cap, cur, rfl, h2, ?_, h4⟩
    rw [Below.heap_setCell _ _ _ _ (by simp; omega), Below.heap_setCell _ _ _ _ (by simp; omega), Below.heap_setCell _ _ _ _ (by simp; omega), Below.heap_setCell _ _ _ _ (by simp; omega), Below.heap_setCell _ _ _ _ (by simp; omega)]
    exact h3
/-- What a call answers that makes a frame. -/
def Framed (w : World) (f : Fm) (e : Ending) (w' : World) : Prop :=
  ∃ A c, e = .returned (.agg (cf f A c)) ∧ Own w' w.heap.size (.slice A f.body.length c) f.body.length f.body ∧ Below w.heap.size w w'
set_option maxRecDepth 100000 in
set_option maxHeartbeats 400000 in
theorem frame_any {col : Nat → Nat} {c p : Nat} {s : St} (q : Int) (A : Option Addr) (n cap : Nat) (l : List Nat) (w : World) (h : EndAt col c w p s) (hb : BL w A n l) (hn : n ≤ 140737488355328) :
    Calls Try.prog 34 #[.pointer (some ⟨p, 0, none⟩), .int .i64 q, .slice A n cap] w (Framed w ⟨0, s.ep, q, s.got, l⟩) := by
  obtain ⟨v, m, xs, n1, D, h⟩ := h
  have hS0 : SE p s v m w := h.cells
  have hal := al0 w (.cells #[.int .i64 0, .int .i64 0, .int .i64 0, .int .i64 0, .slice none 0 0] 31)
  have hS : Hid (SG w.heap.size p s v m (w.alloc (.cells #[.int .i64 0, .int .i64 0, .int .i64 0, .int .i64 0, .slice none 0 0] 31)).drew) := Lib.hid ⟨hS0.below hal.drew, h.row.lt⟩
  have hZ : Hid (Z5 w.heap.size (w.alloc (.cells #[.int .i64 0, .int .i64 0, .int .i64 0, .int .i64 0, .slice none 0 0] 31)).drew) := Lib.hid (Z5.new w).drew
  have hbd : Hid (BL (w.alloc (.cells #[.int .i64 0, .int .i64 0, .int .i64 0, .int .i64 0, .slice none 0 0] 31)).drew A n l) := Lib.hid (hb.below hal.drew)
  have hBd : Hid (Below w.heap.size w (w.alloc (.cells #[.int .i64 0, .int .i64 0, .int .i64 0, .int .i64 0, .slice none 0 0] 31)).drew) := Lib.hid hal.drew
  have hln := Lib.hid hb.1
  have hsz : Hid ((w.alloc (.cells #[.int .i64 0, .int .i64 0, .int .i64 0, .int .i64 0, .slice none 0 0] 31)).drew.heap.size = w.heap.size + 1) := Lib.hid (by simp)
  clear h hS0 hb hal
  go_enter Try.func34, Try.ntmps34
  go_wp2
  go_region_held3 (SG w.heap.size p s v m)
    (first | with_reducible exact hS.out | with_reducible assumption | with_reducible exact SG.below (by assumption) (by assumption) | with_reducible exact SG.set5 (by assumption) _ _ _ _ _ | fail)
    (first
      | (go_at_call 27; ((with_reducible refine (copy_any A n cap l _ hbd.out (by assumption)).mono ?_); rintro e w' ⟨A2, c2, rfl, ho, hB⟩; have hz := Z5.below hZ.out hB; obtain ⟨⟨z0, z1, z2, z3, z4⟩, z5, z6, z7, z8, z9⟩ := hz)) | fail)
  go_wp2
  refine bodyPost_ret (v := .agg (cf ⟨0, s.ep, q, s.got, l⟩ A2 c2)) ?_ rfl ⟨A2, c2, rfl, (own5 ho (by rw [hsz.out]; omega) _ _ _ _ _).more (by rw [hsz.out]; omega), below5 (hBd.out.trans (hB.mono (by rw [hsz.out]; omega))) (Nat.le_refl _) _ _ _ _ _⟩
  simp [results, Try.results34, go_sem, cf, z0, z1, z2, z3, z4]

/-! ### Note -/
set_option maxRecDepth 100000 in
theorem note_any {col : Nat → Nat} {c p : Nat} {s : St} (A : Option Addr) (n cap : Nat) (l : List Nat) (w : World) (h : EndAt col c w p s) (hb : BL w A n l) (hn : n ≤ 140737488355328) :
    Calls Try.prog 17 #[.pointer (some ⟨p, 0, none⟩), .slice A n cap] w (Framed w ⟨0, s.ep, 0, s.got, l⟩) := by
  have hal := al0 w (.cells #[.int .i64 0, .int .i64 0, .int .i64 0, .int .i64 0, .slice none 0 0] 31)
  have hE := Lib.hid (h.below hal)
  have hb1 := Lib.hid (hb.below hal)
  have hZ := Lib.hid (Z5.new w)
  have hsz : Hid ((w.alloc (.cells #[.int .i64 0, .int .i64 0, .int .i64 0, .int .i64 0, .slice none 0 0] 31)).heap.size = w.heap.size + 1) := Lib.hid (by simp)
  replace hal := Lib.hid hal
  clear h hb
  go_enter Try.func17, Try.ntmps17
  go_wp2_with (fail)
  refine (frame_any 0 A n cap l _ hE.out hb1.out hn).mono ?_
  rintro e w' ⟨A2, c2, rfl, ho, hB⟩
  obtain ⟨⟨z0, z1, z2, z3, z4⟩, z5, z6, z7, z8, z9⟩ := Z5.below hZ.out hB
  have ho' := Lib.hid ho
  have hB' := Lib.hid (trans0 hal.out hB)
  clear ho hB hE hb1 hZ
  unfold cf
  dsimp only
  go_wp2
  refine bodyPost_ret (v := .agg (cf ⟨0, s.ep, 0, s.got, l⟩ A2 c2)) ?_ rfl ⟨A2, c2, rfl, (own5 ho'.out (by rw [hsz.out]; omega) _ _ _ _ _).more (by rw [hsz.out]; omega), below5 hB'.out (Nat.le_refl _) _ _ _ _ _⟩
  simp [results, Try.results17, go_sem, cf, z0, z1, z2, z3, z4]
end Go.Proofs.Ythiadkpndemeeaa.lnkC
