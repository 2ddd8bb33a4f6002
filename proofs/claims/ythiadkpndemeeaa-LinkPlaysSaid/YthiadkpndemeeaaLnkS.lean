/- Two ends and what is on its way between them, in memory. -/
import Derived.Test.YthiadkpndemeeaaLnkQ
import Derived.Test.YthiadkpndemeeaaLnkR
import Derived.Test.YthiadkpndemeeaaLnkL
namespace Go.Proofs.Ythiadkpndemeeaa.lnkS
open Go.ChangeShapes Go.WideShapes Go.ChangeAt Go.RowKit Go.Deep
open numM rowA byt numA numB numC lnkA lnkB lnkC lnkD lnkE lnkF lnkG lnkH lnkI lnkJ lnkP lnkL lnkQ lnkR

/-! ### Ways in cells -/
def Wy (col : Nat → Nat) (w : World) (cs : List Value) (x : Fm × Bool) : Prop :=
  ∃ A c, cs = [.int .i64 x.1.v, .int .i64 x.1.e, .int .i64 x.1.s, .int .i64 x.1.a, .slice A x.1.body.length c, .bool x.2] ∧ Dat col w (.slice A x.1.body.length c) x.1.body
theorem Wy.go {col col' : Nat → Nat} {c : Nat} {w w' : World} {cs : List Value} {x : Fm × Bool} (h : Wy col w cs x) (hg : Chg col c w w') (hc : c ≠ 0) (he : Ext w col col') : Wy col' w' cs x := by
  obtain ⟨A, cp, h1, h2⟩ := h
  exact ⟨A, cp, h1, h2.go hg hc he⟩
theorem Wy.len {col : Nat → Nat} {w : World} {cs : List Value} {x : Fm × Bool} (h : Wy col w cs x) : cs.length = 6 := by obtain ⟨A, c, rfl, _⟩ := h; rfl
theorem Wy.one {col : Nat → Nat} {w : World} {cs : List Value} {x : Fm × Bool} (h : Wy col w cs x) : ∀ u ∈ cs, u.oneCell' = true := by
  obtain ⟨A, c, rfl, _⟩ := h
  intro u hu
  simp only [List.mem_cons, List.not_mem_nil, or_false] at hu
  rcases hu with rfl | rfl | rfl | rfl | rfl | rfl <;> rfl
def Wys (col : Nat → Nat) (w : World) : List (List Value) → List (Fm × Bool) → Prop
  | [], [] => True
  | v :: vs, l :: ls => Wy col w v l ∧ Wys col w vs ls
  | _, _ => False
theorem Wys.go {col col' : Nat → Nat} {c : Nat} {w w' : World} (hg : Chg col c w w') (hc : c ≠ 0) (he : Ext w col col') : ∀ {vs : List (List Value)} {ls : List (Fm × Bool)}, Wys col w vs ls → Wys col' w' vs ls
  | [], [], _ => trivial
  | _ :: _, _ :: _, h => ⟨h.1.go hg hc he, Wys.go hg hc he h.2⟩
  | [], _ :: _, h => h.elim
  | _ :: _, [], h => h.elim
theorem Wys.len {col : Nat → Nat} {w : World} : ∀ {vs : List (List Value)} {ls : List (Fm × Bool)}, Wys col w vs ls → vs.length = ls.length
  | [], [], _ => rfl
  | _ :: _, _ :: _, h => by simp [Wys.len h.2]
  | [], _ :: _, h => h.elim
  | _ :: _, [], h => h.elim
theorem Wys.app {col : Nat → Nat} {w : World} {vs2 : List (List Value)} {ls2 : List (Fm × Bool)} (hd : Wys col w vs2 ls2) : ∀ {vs : List (List Value)} {ls : List (Fm × Bool)}, Wys col w vs ls → Wys col w (vs ++ vs2) (ls ++ ls2)
  | [], [], _ => hd
  | _ :: _, _ :: _, h => ⟨h.1, Wys.app hd h.2⟩
  | [], _ :: _, h => h.elim
  | _ :: _, [], h => h.elim
theorem Wys.drop {col : Nat → Nat} {w : World} : ∀ (k : Nat) {vs : List (List Value)} {ls : List (Fm × Bool)}, Wys col w vs ls → Wys col w (vs.drop k) (ls.drop k)
  | 0, _, _, h => h
  | k + 1, [], [], _ => trivial
  | k + 1, _ :: _, _ :: _, h => by simpa using Wys.drop k h.2
  | _ + 1, [], _ :: _, h => h.elim
  | _ + 1, _ :: _, [], h => h.elim
theorem Wys.take {col : Nat → Nat} {w : World} : ∀ (k : Nat) {vs : List (List Value)} {ls : List (Fm × Bool)}, Wys col w vs ls → Wys col w (vs.take k) (ls.take k)
  | 0, _, _, _ => by simp [Wys]
  | k + 1, [], [], _ => trivial
  | k + 1, _ :: _, _ :: _, h => ⟨h.1, Wys.take k h.2⟩
  | _ + 1, [], _ :: _, h => h.elim
  | _ + 1, _ :: _, [], h => h.elim
theorem Wys.get {col : Nat → Nat} {w : World} : ∀ {vs : List (List Value)} {ls : List (Fm × Bool)}, Wys col w vs ls → ∀ {i : Nat}, i < ls.length → ∃ v, vs[i]? = some v ∧ Wy col w v (ls.getD i F0)
  | [], [], _, i, hi => by simp at hi
  | v :: _, l :: ls, h, 0, _ => ⟨v, rfl, h.1⟩
  | _ :: _, _ :: ls, h, i + 1, hi => by
    obtain ⟨v, h1, h2⟩ := Wys.get h.2 (i := i) (by simpa using hi)
    exact ⟨v, by simpa using h1, by simpa using h2⟩
  | [], _ :: _, h, _, _ => h.elim
  | _ :: _, [], h, _, _ => h.elim
theorem Wys.flen {col : Nat → Nat} {w : World} : ∀ {vs : List (List Value)} {ls : List (Fm × Bool)}, Wys col w vs ls → vs.flatten.length = ls.length * 6
  | [], [], _ => rfl
  | v :: _, _ :: _, h => by
    rw [List.flatten_cons, List.length_append, h.1.len, Wys.flen h.2, List.length_cons]; omega
  | [], _ :: _, h => h.elim
  | _ :: _, [], h => h.elim
theorem Wys.one {col : Nat → Nat} {w : World} : ∀ {vs : List (List Value)} {ls : List (Fm × Bool)}, Wys col w vs ls → ∀ u ∈ vs.flatten, u.oneCell' = true
  | [], [], _, u, hu => by simp at hu
  | _ :: _, _ :: _, h, u, hu => by
    rw [List.flatten_cons, List.mem_append] at hu
    rcases hu with hu | hu
    · exact h.1.one u hu
    · exact Wys.one h.2 u hu
  | [], _ :: _, h, _, _ => h.elim
  | _ :: _, [], h, _, _ => h.elim
theorem Wys.cell {col : Nat → Nat} {w : World} : ∀ {vs : List (List Value)} {ls : List (Fm × Bool)}, Wys col w vs ls → ∀ {i j : Nat} {v : List Value} {u : Value}, vs[i]? = some v → v[j]? = some u → vs.flatten[i * 6 + j]? = some u
  | [], [], _, i, j, v, u, h1, _ => by simp at h1
  | a :: r, _ :: _, h, 0, j, v, u, h1, h2 => by
    simp only [List.getElem?_cons_zero, Option.some.injEq] at h1
    subst h1
    have := (List.getElem?_eq_some_iff.1 h2).1
    rw [List.flatten_cons, Nat.zero_mul, Nat.zero_add, List.getElem?_append_left this]
    exact h2
  | a :: r, _ :: _, h, i + 1, j, v, u, h1, h2 => by
    rw [List.flatten_cons, List.getElem?_append_right (by rw [h.1.len]; omega), h.1.len, show (i + 1) * 6 + j - 6 = i * 6 + j by omega]
    exact Wys.cell h.2 (by simpa using h1) h2
  | [], _ :: _, h, _, _, _, _, _, _ => h.elim
  | _ :: _, [], h, _, _, _, _, _, _ => h.elim

/-! ### Rows with a color -/
def RowC (col : Nat → Nat) (c : Nat) (w : World) (e : TypeId) (sz : Nat) (v : Value) (n : Nat) (xs : List Value) : Prop := w.ownsRow 0 e sz v n xs ∧ ∀ k, v.ownBlock = some k → col k = c
theorem RowC.other {col col' : Nat → Nat} {c d : Nat} {w w' : World} {e : TypeId} {sz n : Nat} {v : Value} {xs : List Value} (h : RowC col c w e sz v n xs) (hg : Chg col d w w') (hcd : c ≠ d) (he : Ext w col col') : RowC col' c w' e sz v n xs :=
  ⟨own_block h.1 (fun k e => hg.block k (h.1.lt k e).2 (by rw [h.2 k e]; exact hcd)), fun k e => (he k (h.1.lt k e).2).trans (h.2 k e)⟩

/-! ### The two ends, and all that the law keeps -/
def cT (pa pb : Nat) (vr vs vc : Value) (i : Nat) : Value :=
  if i = 0 then .pointer (some ⟨pa, 0, none⟩) else if i = 1 then .pointer (some ⟨pb, 0, none⟩) else if i = 2 then vr else if i = 3 then vs else vc
structure TwoIs (col : Nat → Nat) (w0 w : World) (t : Nat) (x : Tw) (pa pb : Nat) (vr vs vc : Value) (css : List (List Value)) (xs xc : List Value) : Prop where
  blk : w.rowIs t 52 5 (cT pa pb vr vs vc)
  ct : col t = 3
  a : EndAt col 1 w pa x.a
  b : EndAt col 2 w pb x.b
  row : RowC col 4 w 75 6 vr x.row.length css.flatten
  rowd : Wys col w css x.row
  sent : RowC col 5 w 29 1 vs x.sent.length xs
  sentd : Dats col w xs x.sent
  came : RowC col 6 w 29 1 vc x.came.length xc
  camed : Dats col w xc x.came
  fresh : Fresh col w
  bel : Below w0.heap.size w0 w
  zero : ∀ i, i < w0.heap.size → col i = 0
def TwoAt (w0 w : World) (t : Nat) (x : Tw) : Prop := ∃ col pa pb vr vs vc css xs xc, TwoIs col w0 w t x pa pb vr vs vc css xs xc
section
variable {col col' : Nat → Nat} {w0 w w' : World} {t : Nat} {x : Tw} {pa pb : Nat} {vr vs vc : Value} {css : List (List Value)} {xs xc : List Value}
theorem TwoIs.cells (h : TwoIs col w0 w t x pa pb vr vs vc css xs xc) :
    w.cell? ⟨t, 0, none⟩ = some (.pointer (some ⟨pa, 0, none⟩)) ∧ w.cell? ⟨t, 1, none⟩ = some (.pointer (some ⟨pb, 0, none⟩)) ∧ w.cell? ⟨t, 2, none⟩ = some vr ∧ w.cell? ⟨t, 3, none⟩ = some vs ∧ w.cell? ⟨t, 4, none⟩ = some vc :=
  ⟨h.blk.cell (i := 0) (by omega), h.blk.cell (i := 1) (by omega), h.blk.cell (i := 2) (by omega), h.blk.cell (i := 3) (by omega), h.blk.cell (i := 4) (by omega)⟩
theorem TwoIs.below (h : TwoIs col w0 w t x pa pb vr vs vc css xs xc) (hB : Below w.heap.size w w') : TwoIs col w0 w' t x pa pb vr vs vc css xs xc := by
  have hg : Chg col 99 w w' := Chg.of_below _ _ hB
  have he := Ext.refl w col
  exact ⟨h.blk.of_block (hB.block t h.blk.lt), h.ct, h.a.below hB, h.b.below hB, h.row.other hg (by decide) he, h.rowd.go hg (by decide) he, h.sent.other hg (by decide) he, h.sentd.go hg (by decide) he,
    h.came.other hg (by decide) he, h.camed.go hg (by decide) he, h.fresh.below hB, h.bel.trans (hB.mono h.bel.size), h.zero⟩
theorem TwoIs.ext0 (h : TwoIs col w0 w t x pa pb vr vs vc css xs xc) (he : Ext w col col') : ∀ i, i < w0.heap.size → col' i = 0 := fun i hi => by
  rw [he i (by have := h.bel.size; omega)]; exact h.zero i hi
/-- The first end has changed. -/
theorem TwoIs.setA (h : TwoIs col w0 w t x pa pb vr vs vc css xs xc) (hg : Chg col 1 w w') (he : Ext w col col') (hf : Fresh col' w') {a' : St} (ha : EndAt col' 1 w' pa a') : TwoIs col' w0 w' t { x with a := a' } pa pb vr vs vc css xs xc :=
  ⟨h.blk.of_block (hg.block t h.blk.lt (by rw [h.ct]; decide)), (he t h.blk.lt).trans h.ct, ha, h.b.other hg (by decide) (by decide) he, h.row.other hg (by decide) he, h.rowd.go hg (by decide) he, h.sent.other hg (by decide) he, h.sentd.go hg (by decide) he,
    h.came.other hg (by decide) he, h.camed.go hg (by decide) he, hf, h.bel.trans (hg.below h.bel.size (fun i hi => by rw [h.zero i hi]; decide)), h.ext0 he⟩
/-- The second end has changed. -/
theorem TwoIs.setB (h : TwoIs col w0 w t x pa pb vr vs vc css xs xc) (hg : Chg col 2 w w') (he : Ext w col col') (hf : Fresh col' w') {b' : St} (hb : EndAt col' 2 w' pb b') : TwoIs col' w0 w' t { x with b := b' } pa pb vr vs vc css xs xc :=
  ⟨h.blk.of_block (hg.block t h.blk.lt (by rw [h.ct]; decide)), (he t h.blk.lt).trans h.ct, h.a.other hg (by decide) (by decide) he, hb, h.row.other hg (by decide) he, h.rowd.go hg (by decide) he, h.sent.other hg (by decide) he, h.sentd.go hg (by decide) he,
    h.came.other hg (by decide) he, h.camed.go hg (by decide) he, hf, h.bel.trans (hg.below h.bel.size (fun i hi => by rw [h.zero i hi]; decide)), h.ext0 he⟩
/-- One of the rows has changed, and what the law keeps of it is laid down. -/
theorem TwoIs.stored {w1 : World} {d : Nat} (h : TwoIs col w0 w t x pa pb vr vs vc css xs xc) (hd : 3 < d) (hg : Chg col d w w1) (he : Ext w col col') (hf : Fresh col' w1) (x' : Tw) (ha : x'.a = x.a) (hb : x'.b = x.b) {vr' vs' vc' : Value} {css' : List (List Value)} {xs' xc' : List Value}
    (hrow : RowC col' 4 w1 75 6 vr' x'.row.length css'.flatten) (hrd : Wys col' w1 css' x'.row) (hs : RowC col' 5 w1 29 1 vs' x'.sent.length xs') (hsd : Dats col' w1 xs' x'.sent) (hc : RowC col' 6 w1 29 1 vc' x'.came.length xc') (hcd : Dats col' w1 xc' x'.came)
    (i : Nat) (val : Value) (hcell : ∀ j, j < 5 → (if j = i then val else cT pa pb vr vs vc j) = cT pa pb vr' vs' vc' j) : TwoIs col' w0 (w1.setCell ⟨t, i, none⟩ val) t x' pa pb vr' vs' vc' css' xs' xc' := by
  have ht : col' t = 3 := (he t h.blk.lt).trans h.ct
  have hg2 : Chg col' 3 w1 (w1.setCell ⟨t, i, none⟩ val) := (Chg.refl _ _ _).setCell (p := ⟨t, i, none⟩) ht val
  have he2 := Ext.refl w1 col'
  have hz := h.ext0 he
  have hb1 : Below w0.heap.size w0 w1 := h.bel.trans (hg.below h.bel.size (fun i hi => by rw [h.zero i hi]; omega))
  exact ⟨((h.blk.of_block (hg.block t h.blk.lt (by rw [h.ct]; omega))).set i val).congr hcell, ht, by rw [ha]; exact (h.a.other hg (by omega) (by omega) he).other hg2 (by decide) (by decide) he2, by rw [hb]; exact (h.b.other hg (by omega) (by omega) he).other hg2 (by decide) (by decide) he2,
    hrow.other hg2 (by decide) he2, hrd.go hg2 (by decide) he2, hs.other hg2 (by decide) he2, hsd.go hg2 (by decide) he2, hc.other hg2 (by decide) he2, hcd.go hg2 (by decide) he2, hf.size hg2.size, hb1.trans (hg2.below hb1.size (fun i hi => by rw [hz i hi]; decide)), hz⟩
end
end Go.Proofs.Ythiadkpndemeeaa.lnkS
