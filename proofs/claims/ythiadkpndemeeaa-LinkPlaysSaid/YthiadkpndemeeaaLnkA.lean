/- What an end of a link is, plainly; worlds that change at blocks of one color alone; an end in memory. -/
import Derived.Test.YthiadkpndemeeaaFraA
import Derived.Maps.OwnSet
import Derived.Maps.AppendAt
import Derived.Deep.OwnRows
import Derived.Deep.QuietTactic
import Derived.BigQuiet
import Derived.Laws.CopyOwn
import Derived.StillTailTactics
namespace Go.Proofs.Ythiadkpndemeeaa.lnkA
open Go.ChangeShapes Go.WideShapes Go.ChangeAt Go.RowKit Go.Deep
open numM rowA byt numA numB numC

/-! ### Worlds that change at blocks of one color -/
structure Chg (col : Nat → Nat) (c : Nat) (w w' : World) : Prop where
  os : w'.os = w.os
  tape : w'.tape = w.tape
  output : w'.output = w.output
  size : w.heap.size ≤ w'.heap.size
  block : ∀ k, k < w.heap.size → col k ≠ c → w'.heap[k]? = w.heap[k]?
/-- the colors of what was there stay -/
def Ext (w : World) (col col' : Nat → Nat) : Prop := ∀ k, k < w.heap.size → col' k = col k
theorem Ext.refl (w : World) (col : Nat → Nat) : Ext w col col := fun _ _ => rfl
theorem Ext.trans {w w1 : World} {c0 c1 c2 : Nat → Nat} (h1 : Ext w c0 c1) (hs : w.heap.size ≤ w1.heap.size) (h2 : Ext w1 c1 c2) : Ext w c0 c2 := fun k hk => (h2 k (by omega)).trans (h1 k hk)
theorem Chg.refl (col : Nat → Nat) (c : Nat) (w : World) : Chg col c w w := ⟨rfl, rfl, rfl, Nat.le_refl _, fun _ _ _ => rfl⟩
theorem Chg.of_below {w w' : World} (col : Nat → Nat) (c : Nat) (h : Below w.heap.size w w') : Chg col c w w' := ⟨h.os, h.tape, h.output, h.size, fun k hk _ => h.block k hk⟩
theorem Chg.trans {col col' : Nat → Nat} {c : Nat} {w w1 w2 : World} (h : Chg col c w w1) (he : Ext w col col') (h2 : Chg col' c w1 w2) : Chg col c w w2 :=
  ⟨h2.os.trans h.os, h2.tape.trans h.tape, h2.output.trans h.output, Nat.le_trans h.size h2.size, fun k hk hc => (h2.block k (Nat.lt_of_lt_of_le hk h.size) (by rw [he k hk]; exact hc)).trans (h.block k hk hc)⟩
theorem Chg.tran {col : Nat → Nat} {c : Nat} {w w1 w2 : World} (h : Chg col c w w1) (h2 : Chg col c w1 w2) : Chg col c w w2 := h.trans (Ext.refl _ _) h2
theorem Chg.then {col : Nat → Nat} {c : Nat} {w w1 w2 : World} (h : Chg col c w w1) (h2 : Below w1.heap.size w1 w2) : Chg col c w w2 := h.tran (Chg.of_below _ _ h2)
theorem Chg.below {col : Nat → Nat} {c B : Nat} {w w' : World} (h : Chg col c w w') (hB : B ≤ w.heap.size) (hc : ∀ k, k < B → col k ≠ c) : Below B w w' :=
  ⟨h.os, h.tape, h.output, h.size, fun k hk => h.block k (by omega) (hc k hk)⟩
theorem Chg.grown {col : Nat → Nat} {c : Nat} {w w' : World} {row : Option Nat} (hg : w.grownBy w' row) (hr : ∀ k, row = some k → col k = c) : Chg col c w w' :=
  ⟨hg.os, hg.tape, hg.output, hg.size, fun k hk hc => hg.block k hk (fun e => hc (hr k e.symm))⟩
theorem Chg.setCell {col : Nat → Nat} {c : Nat} {w0 w : World} (h : Chg col c w0 w) {p : Addr} (hp : col p.block = c) (u : Value) : Chg col c w0 (w.setCell p u) :=
  h.tran ⟨rfl, rfl, rfl, by rw [World.size_setCell]; exact Nat.le_refl _, fun k _ hc => Below.heap_setCell w p u k (fun e => hc (by rw [e]; exact hp))⟩
theorem Chg.alloc {col : Nat → Nat} {c : Nat} {w0 w : World} (h : Chg col c w0 w) (o : Obj) : Chg col c w0 (w.alloc o) := h.then ((Below.refl _ _).alloc (Nat.le_refl _) o)
theorem Chg.drew {col : Nat → Nat} {c : Nat} {w0 w : World} (h : Chg col c w0 w) : Chg col c w0 w.drew := ⟨h.os, h.tape, h.output, h.size, h.block⟩
theorem al0 (w : World) (o : Obj) : Below w.heap.size w (w.alloc o) := (Below.refl _ _).alloc (Nat.le_refl _) o

/-! ### Bytes that nobody changes any more -/
def Dat (col : Nat → Nat) (w : World) (v : Value) (l : List Nat) : Prop := ∃ A c, v = .slice A l.length c ∧ BL w A l.length l ∧ (l.length = 0 ∨ ∀ y, A = some y → col y.block = 0 ∧ y.block < w.heap.size)
theorem Dat.go {col col' : Nat → Nat} {c : Nat} {w w' : World} {v : Value} {l : List Nat} (h : Dat col w v l) (hg : Chg col c w w') (hc : c ≠ 0) (he : Ext w col col') : Dat col' w' v l := by
  obtain ⟨A, cp, rfl, hb, hy⟩ := h
  rcases hy with h0 | hy
  · exact ⟨A, cp, rfl, ⟨hb.1, hb.2.1, hb.2.2.1, .inl h0⟩, .inl h0⟩
  refine ⟨A, cp, rfl, ⟨hb.1, hb.2.1, hb.2.2.1, hb.2.2.2.imp id ?_⟩, .inr fun y e => ⟨by rw [he _ (hy y e).2]; exact (hy y e).1, by have := (hy y e).2; have := hg.size; omega⟩⟩
  rintro ⟨b, off, rfl, hlt, hcell⟩
  refine ⟨b, off, rfl, by have := hg.size; omega, fun i hi => ?_⟩
  have h0 := (hy _ rfl).1
  rw [World.cell?_of_block (hg.block b hlt (by rw [h0]; exact fun e => hc e.symm))]
  exact hcell i hi
theorem Dat.of_makes {col : Nat → Nat} {w w' : World} {l : List Nat} {A : Option Addr} {cap : Nat} (h : Own w' w.heap.size (.slice A l.length cap) l.length l) (hn : ∀ k, w.heap.size ≤ k → col k = 0) : Dat col w' (.slice A l.length cap) l := by
  refine ⟨A, cap, rfl, own_bl h, .inr fun y e => ?_⟩
  subst e
  obtain ⟨A', cap', e0, _, _, _, hy, _⟩ := h.form
  cases e0
  obtain ⟨g, rfl⟩ := hy _ rfl
  have := h.2.2.2.lt g rfl
  exact ⟨hn _ this.1, this.2⟩
def Dats (col : Nat → Nat) (w : World) : List Value → List (List Nat) → Prop
  | [], [] => True
  | v :: vs, l :: ls => Dat col w v l ∧ Dats col w vs ls
  | _, _ => False
theorem Dats.go {col col' : Nat → Nat} {c : Nat} {w w' : World} (hg : Chg col c w w') (hc : c ≠ 0) (he : Ext w col col') : ∀ {vs : List Value} {ls : List (List Nat)}, Dats col w vs ls → Dats col' w' vs ls
  | [], [], _ => trivial
  | _ :: _, _ :: _, h => ⟨h.1.go hg hc he, Dats.go hg hc he h.2⟩
  | [], _ :: _, h => h.elim
  | _ :: _, [], h => h.elim
theorem Dats.len {col : Nat → Nat} {w : World} : ∀ {vs : List Value} {ls : List (List Nat)}, Dats col w vs ls → vs.length = ls.length
  | [], [], _ => rfl
  | _ :: _, _ :: _, h => by simp [Dats.len h.2]
  | [], _ :: _, h => h.elim
  | _ :: _, [], h => h.elim
theorem Dats.snoc {col : Nat → Nat} {w : World} {v : Value} {l : List Nat} (hd : Dat col w v l) : ∀ {vs : List Value} {ls : List (List Nat)}, Dats col w vs ls → Dats col w (vs ++ [v]) (ls ++ [l])
  | [], [], _ => ⟨hd, trivial⟩
  | _ :: _, _ :: _, h => ⟨h.1, Dats.snoc hd h.2⟩
  | [], _ :: _, h => h.elim
  | _ :: _, [], h => h.elim
theorem Dats.app {col : Nat → Nat} {w : World} {vs2 : List Value} {ls2 : List (List Nat)} (hd : Dats col w vs2 ls2) : ∀ {vs : List Value} {ls : List (List Nat)}, Dats col w vs ls → Dats col w (vs ++ vs2) (ls ++ ls2)
  | [], [], _ => hd
  | _ :: _, _ :: _, h => ⟨h.1, Dats.app hd h.2⟩
  | [], _ :: _, h => h.elim
  | _ :: _, [], h => h.elim
theorem Dats.drop {col : Nat → Nat} {w : World} : ∀ (k : Nat) {vs : List Value} {ls : List (List Nat)}, Dats col w vs ls → Dats col w (vs.drop k) (ls.drop k)
  | 0, _, _, h => h
  | k + 1, [], [], _ => trivial
  | k + 1, _ :: _, _ :: _, h => by simpa using Dats.drop k h.2
  | _ + 1, [], _ :: _, h => h.elim
  | _ + 1, _ :: _, [], h => h.elim
theorem Dats.take {col : Nat → Nat} {w : World} : ∀ (k : Nat) {vs : List Value} {ls : List (List Nat)}, Dats col w vs ls → Dats col w (vs.take k) (ls.take k)
  | 0, _, _, _ => by simp [Dats]
  | k + 1, [], [], _ => trivial
  | k + 1, _ :: _, _ :: _, h => ⟨h.1, Dats.take k h.2⟩
  | _ + 1, [], _ :: _, h => h.elim
  | _ + 1, _ :: _, [], h => h.elim
def lth (ls : List (List Nat)) (i : Nat) : List Nat := ls.getD i []
theorem lth_eq {ls : List (List Nat)} {i : Nat} (h : i < ls.length) : lth ls i = ls[i] := by simp [lth, h]
theorem lth_mem {ls : List (List Nat)} {i : Nat} (h : i < ls.length) : lth ls i ∈ ls := by rw [lth_eq h]; exact List.getElem_mem h
theorem Dats.get {col : Nat → Nat} {w : World} : ∀ {vs : List Value} {ls : List (List Nat)}, Dats col w vs ls → ∀ {i : Nat}, i < ls.length → ∃ v, vs[i]? = some v ∧ Dat col w v (lth ls i)
  | [], [], _, i, hi => by simp at hi
  | v :: _, l :: ls, h, 0, _ => ⟨v, rfl, by rw [lth_eq (by simp)]; exact h.1⟩
  | _ :: _, _ :: ls, h, i + 1, hi => by
    obtain ⟨v, h1, h2⟩ := Dats.get h.2 (i := i) (by simpa using hi)
    exact ⟨v, by simpa using h1, by simpa [lth] using h2⟩
  | [], _ :: _, h, _, _ => h.elim
  | _ :: _, [], h, _, _ => h.elim
theorem Dat.one {col : Nat → Nat} {w : World} {v : Value} {l : List Nat} (h : Dat col w v l) : v.oneCell' = true := by obtain ⟨A, c, rfl, _⟩ := h; rfl
theorem Dats.one {col : Nat → Nat} {w : World} : ∀ {vs : List Value} {ls : List (List Nat)}, Dats col w vs ls → ∀ u ∈ vs, u.oneCell' = true
  | [], [], _, u, hu => by simp at hu
  | _ :: _, _ :: _, h, u, hu => by
    rcases List.mem_cons.1 hu with rfl | hu
    · exact h.1.one
    · exact Dats.one h.2 u hu
  | [], _ :: _, h, _, _ => h.elim
  | _ :: _, [], h, _, _ => h.elim

/-! ### An end, plainly -/
structure St where
  ep : Int
  acked : Nat
  wait : List (List Nat)
  got : Nat
  ear : Nat → Option (List Nat)
  cnt : Nat
def St.new (ep : Int) : St := ⟨ep, 0, [], 0, fun _ => none, 0⟩
structure St.ok (s : St) : Prop where
  cnt : s.cnt ≤ 1000000
  sent : s.acked + s.wait.length ≤ s.cnt
  got : s.got ≤ 16 * s.cnt
  wait : s.wait.length ≤ 4096
  body : ∀ l ∈ s.wait, l.length ≤ 1048576
  ear : ∀ k, s.ear k ≠ none → s.got < k ∧ k ≤ s.got + 16
theorem St.ok_new (ep : Int) : (St.new ep).ok := ⟨by simp [St.new], by simp [St.new], by simp [St.new], by simp [St.new], by simp [St.new], fun k h => absurd rfl h⟩

/-! ### An end in memory -/
/-- elements of the map, as they are -/
def hR (v : Value) : Option (DataW Value × List MemPlace) := some (.held v, [])
def kL (k : Nat) : Lit := .int .i64 (k : Int)
def Ears (col : Nat → Nat) (w : World) (D : DataW Value) (ear : Nat → Option (List Nat)) : Prop :=
  ∀ k, Maps.has D (kL k) = (ear k).isSome ∧ ∀ l, ear k = some l → ∃ v, (∀ z, D.atKey (kL k) z = .held v) ∧ Dat col w v l
theorem Ears.go {col col' : Nat → Nat} {c : Nat} {w w' : World} {D : DataW Value} {ear : Nat → Option (List Nat)} (h : Ears col w D ear) (hg : Chg col c w w') (hc : c ≠ 0) (he : Ext w col col') : Ears col' w' D ear := fun k =>
  ⟨(h k).1, fun l e => by
    obtain ⟨v, h1, h2⟩ := (h k).2 l e
    exact ⟨v, h1, h2.go hg hc he⟩⟩
/-- the five cells of an end -/
def cE (s : St) (v : Value) (m : Nat) (i : Nat) : Value :=
  if i = 0 then .int .i64 s.ep else if i = 1 then .int .i64 s.acked else if i = 2 then v else if i = 3 then .int .i64 s.got else .map (some m)
structure EndIs (col : Nat → Nat) (c : Nat) (w : World) (p : Nat) (s : St) (v : Value) (m : Nat) (xs : List Value) (n : Nat) (D : DataW Value) : Prop where
  row : w.rowIs p 64 5 (cE s v m)
  own : w.ownsRow 0 29 1 v s.wait.length xs
  dat : Dats col w xs s.wait
  map : w.ownsMap Try.prog 3 hR m n D
  nle : n ≤ s.cnt
  ear : Ears col w D s.ear
  cp : col p = c
  cm : col m = c
  cv : ∀ k, v.ownBlock = some k → col k = c
  ok : s.ok
def EndAt (col : Nat → Nat) (c : Nat) (w : World) (p : Nat) (s : St) : Prop := ∃ v m xs n D, EndIs col c w p s v m xs n D
theorem EndIs.mlt {col : Nat → Nat} {c : Nat} {w : World} {p : Nat} {s : St} {v : Value} {m : Nat} {xs : List Value} {n : Nat} {D : DataW Value} (h : EndIs col c w p s v m xs n D) : m < w.heap.size := World.ownsMap.lt h.map
theorem map_block {H : Type} {P : Program} {k : TypeId} {R : Value → Option (DataW H × List MemPlace)} {w w' : World} {b n : Nat} {D : DataW H} (h : w.ownsMap P k R b n D) (e : w'.heap[b]? = w.heap[b]?) : w'.ownsMap P k R b n D := by
  obtain ⟨es, clock, hb, r⟩ := h
  exact ⟨es, clock, e.trans hb, r⟩
theorem own_block {w w' : World} {base n sz : Nat} {t : TypeId} {v : Value} {xs : List Value} (h : w.ownsRow base t sz v n xs) (e : ∀ k, v.ownBlock = some k → w'.heap[k]? = w.heap[k]?) : w'.ownsRow base t sz v n xs := by
  refine ⟨h.1, ?_⟩
  rcases h.2 with h | ⟨g, cap, cur, rfl, h1, h2, h3⟩
  · exact .inl h
  · exact .inr ⟨g, cap, cur, rfl, h1, (e g rfl).trans h2, h3⟩
/-- An end stays while what another color has changes. -/
theorem EndIs.other {col col' : Nat → Nat} {c d : Nat} {w w' : World} {p : Nat} {s : St} {v : Value} {m : Nat} {xs : List Value} {n : Nat} {D : DataW Value} (h : EndIs col c w p s v m xs n D) (hg : Chg col d w w') (hd : d ≠ 0) (hcd : c ≠ d) (he : Ext w col col') :
    EndIs col' c w' p s v m xs n D where
  row := h.row.of_block (hg.block p h.row.lt (by rw [h.cp]; exact hcd))
  own := own_block h.own (fun k e => hg.block k (h.own.lt k e).2 (by rw [h.cv k e]; exact hcd))
  dat := h.dat.go hg hd he
  map := map_block h.map (hg.block m h.mlt (by rw [h.cm]; exact hcd))
  nle := h.nle
  ear := h.ear.go hg hd he
  cp := (he p h.row.lt).trans h.cp
  cm := (he m h.mlt).trans h.cm
  cv := fun k e => (he k (h.own.lt k e).2).trans (h.cv k e)
  ok := h.ok
theorem EndAt.other {col col' : Nat → Nat} {c d : Nat} {w w' : World} {p : Nat} {s : St} (h : EndAt col c w p s) (hg : Chg col d w w') (hd : d ≠ 0) (hcd : c ≠ d) (he : Ext w col col') : EndAt col' c w' p s := by
  obtain ⟨v, m, xs, n, D, h⟩ := h
  exact ⟨v, m, xs, n, D, h.other hg hd hcd he⟩
theorem EndIs.below {col : Nat → Nat} {c : Nat} {w w' : World} {p : Nat} {s : St} {v : Value} {m : Nat} {xs : List Value} {n : Nat} {D : DataW Value} (h : EndIs col c w p s v m xs n D) (hB : Below w.heap.size w w') : EndIs col c w' p s v m xs n D :=
  h.other (Chg.of_below col (c + 1) hB) (by omega) (by omega) (Ext.refl _ _)
theorem EndAt.below {col : Nat → Nat} {c : Nat} {w w' : World} {p : Nat} {s : St} (h : EndAt col c w p s) (hB : Below w.heap.size w w') : EndAt col c w' p s := by
  obtain ⟨v, m, xs, n, D, h⟩ := h
  exact ⟨v, m, xs, n, D, h.below hB⟩
/-- Colors of blocks that are not there yet may be chosen anew. -/
theorem EndAt.ext {col col' : Nat → Nat} {c : Nat} {w : World} {p : Nat} {s : St} (h : EndAt col c w p s) (he : Ext w col col') : EndAt col' c w p s :=
  h.other (Chg.refl col (c + 1) w) (by omega) (by omega) he
theorem EndIs.cells {col : Nat → Nat} {c : Nat} {w : World} {p : Nat} {s : St} {v : Value} {m : Nat} {xs : List Value} {n : Nat} {D : DataW Value} (h : EndIs col c w p s v m xs n D) :
    w.cell? ⟨p, 0, none⟩ = some (.int .i64 s.ep) ∧ w.cell? ⟨p, 1, none⟩ = some (.int .i64 s.acked) ∧ w.cell? ⟨p, 2, none⟩ = some v ∧ w.cell? ⟨p, 3, none⟩ = some (.int .i64 s.got) ∧ w.cell? ⟨p, 4, none⟩ = some (.map (some m)) :=
  ⟨h.row.cell (i := 0) (by omega), h.row.cell (i := 1) (by omega), h.row.cell (i := 2) (by omega), h.row.cell (i := 3) (by omega), h.row.cell (i := 4) (by omega)⟩
theorem EndIs.frozen {col : Nat → Nat} {c : Nat} {w : World} {p : Nat} {s : St} {v : Value} {m : Nat} {xs : List Value} {n : Nat} {D : DataW Value} (h : EndIs col c w p s v m xs n D) (i : Nat) : w.frozen? ⟨p, i, none⟩ = false := h.row.frozen i

/-! ### Frames -/
structure Fm where
  v : Int
  e : Int
  s : Int
  a : Int
  body : List Nat
def cf (f : Fm) (A : Option Addr) (c : Nat) : Array Value := #[.int .i64 f.v, .int .i64 f.e, .int .i64 f.s, .int .i64 f.a, .slice A f.body.length c]
end Go.Proofs.Ythiadkpndemeeaa.lnkA
