/- Words for the program's writer of version 2: the array of its parts. -/
import Derived.Test.YtkbhmeajgmecoaaWirI
namespace Go.Proofs.Ytkbhmeajgmecoaa.wirJ
open Go.ChangeShapes Go.WideShapes Go.ChangeAt Go.RowKit
open numM numN rowA byt numA numB numC numD numE wirM wirA wirB wirD wirE wirF wirG wirL wirH wirI

/-- the sum of the bits of the first k parts -/
def bk (m : Ms) : Nat → Nat
  | 0 => 0
  | k + 1 => bk m k + bt (lth (pts m) k) (2 ^ k)
theorem bk_lt (m : Ms) (k : Nat) : bk m k < 2 ^ k := by
  induction k with
  | zero => simp [bk]
  | succ k ih =>
    unfold bk bt
    rw [Nat.pow_succ]
    split <;> omega
theorem bk_8 (m : Ms) : bk m 8 = bitsOf m := by
  simp only [bk, bitsOf]
  show 0 + bt (pNum m.id) 1 + bt (pNum m.n) 2 + bt (pNum m.ts) 4 + bt (pTxt m.lo) 8 + bt (pTxt m.hi) 16 + bt (pVers m.vers) 32 + bt (pVec m.vec) 64 + bt (pCmd m.cmd) 128 = _
  omega
/-- the array of parts at block b -/
def Arr (w : World) (b : Nat) (ls : List (List Nat)) (vs : List Value) : Prop := Box w b vs.toArray 78 ∧ PBs none w vs ls
theorem Arr.below {w w1 : World} {b : Nat} {ls : List (List Nat)} {vs : List Value} (h : Arr w b ls vs) (hB : Below w.heap.size w w1) : Arr w1 b ls vs := ⟨h.1.below hB, PBs.below hB h.2⟩
theorem Arr.below' {w w1 : World} {b : Nat} {ls : List (List Nat)} {vs : List Value} (h : Arr w b ls vs) (hB : Below w.heap.size w w1) : Arr w1 b ls vs := h.below hB
theorem Arr.lst {w : World} {b : Nat} {ls : List (List Nat)} {vs : List Value} (h : Arr w b ls vs) (hn : vs.length ≤ 1000) : Lst none w (some ⟨b, 0, none⟩) vs.length ls := by
  refine ⟨h.2.len.symm, by omega, fun i hi => ?_⟩
  obtain ⟨v, hv, A, m, c, rfl, hb, hy⟩ := h.2.get hi
  refine ⟨b, 0, A, m, c, rfl, h.1.lt, by simp, ?_, hb, fun y e => by simp, fun y e => (hy y e).2⟩
  rw [h.1.at]; simpa using hv

theorem Acc.alloc {W w : World} {vs : List Value} {ls : List (List Nat)} (ha : Acc W w vs ls) (o : Obj) : Acc W (w.alloc o) vs ls := ⟨ha.1.trans ((alloc_below w o).mono ha.1.size), PBs.below (alloc_below w o) ha.2⟩
/-- the array of parts, as it is laid -/
abbrev zs : Array Value := #[.slice none 0 0, .slice none 0 0, .slice none 0 0, .slice none 0 0, .slice none 0 0, .slice none 0 0, .slice none 0 0, .slice none 0 0]
def BZ (W w : World) (b : Nat) : Prop := Box w b zs 78 ∧ W.heap.size ≤ b
theorem BZ.next {W w w1 : World} {b : Nat} (h : BZ W w b) (hB : Below w.heap.size w w1) : BZ W w1 b := ⟨Box.below h.1 hB, h.2⟩
theorem BZ.first {W w w1 : World} {vs : List Value} {ls : List (List Nat)} (ha : Acc W w vs ls) (hB : Below (w.alloc (.cells zs 78)).heap.size (w.alloc (.cells zs 78)) w1) : BZ W w1 w.heap.size := ⟨Box.below (Box.new w zs 78) hB, ha.1.size⟩
theorem BZ.first2 {W w1 : World} (hB : Below (W.alloc (.cells zs 78)).drew.heap.size (W.alloc (.cells zs 78)).drew w1) : BZ W w1 W.heap.size :=
  ⟨Box.below (w := (W.alloc (.cells zs 78)).drew) (Box.new W zs 78) hB, Nat.le_refl _⟩
theorem box_frozen {w : World} {b : Nat} {cs : Array Value} {T : TypeId} (h : Box w b cs T) (o : Nat) : w.frozen? ⟨b, o, none⟩ = false := by
  unfold Box at h; simp [World.frozen?, h]
theorem BZ.cells {W w : World} {b : Nat} (h : BZ W w b) : w.cell? ⟨b, 0, none⟩ = some (.slice none 0 0) ∧ w.cell? ⟨b, 1, none⟩ = some (.slice none 0 0) ∧ w.cell? ⟨b, 2, none⟩ = some (.slice none 0 0) ∧ w.cell? ⟨b, 3, none⟩ = some (.slice none 0 0) ∧
    w.cell? ⟨b, 4, none⟩ = some (.slice none 0 0) ∧ w.cell? ⟨b, 5, none⟩ = some (.slice none 0 0) ∧ w.cell? ⟨b, 6, none⟩ = some (.slice none 0 0) ∧ w.cell? ⟨b, 7, none⟩ = some (.slice none 0 0) ∧ ∀ o, w.frozen? ⟨b, o, none⟩ = false :=
  ⟨Box.at h.1 0, Box.at h.1 1, Box.at h.1 2, Box.at h.1 3, Box.at h.1 4, Box.at h.1 5, Box.at h.1 6, Box.at h.1 7, box_frozen h.1⟩
/-- the message's cells, and all that was there -/
abbrev SW (W : World) (b : Nat) (m : Ms) (t : At) (w : World) : Prop := SM b m t w ∧ Below W.heap.size W w
theorem SW.of {W w : World} {b : Nat} {m : Ms} {t : At} (hbx : Box W b (cm m t) 28) (h : Below W.heap.size W w) : SW W b m t w := ⟨SM.of_box (hbx.below h), h⟩
theorem SW.acc {W w : World} {b : Nat} {m : Ms} {t : At} {vs : List Value} {ls : List (List Nat)} (hbx : Hid (Box W b (cm m t) 28)) (ha : Acc W w vs ls) : SW W b m t w := SW.of hbx.out ha.1
theorem SW.alloc {W w : World} {b : Nat} {m : Ms} {t : At} {vs : List Value} {ls : List (List Nat)} (hbx : Hid (Box W b (cm m t) 28)) (ha : Acc W w vs ls) (o : Obj) : SW W b m t (w.alloc o) := SW.of hbx.out (Acc.alloc ha o).1
theorem SW.sets {W w : World} {b b' : Nat} {m : Ms} {t : At} {vs : List Value} {ls : List (List Nat)} (hbx : Hid (Box W b (cm m t) 28)) (ha : Acc W w vs ls) (hz : BZ W w b') (v0 v1 v2 v3 v4 v5 v6 v7 : Value) :
    SW W b m t ((((((((w.setCell ⟨b', 0, none⟩ v0).setCell ⟨b', 1, none⟩ v1).setCell ⟨b', 2, none⟩ v2).setCell ⟨b', 3, none⟩ v3).setCell ⟨b', 4, none⟩ v4).setCell ⟨b', 5, none⟩ v5).setCell ⟨b', 6, none⟩ v6).setCell ⟨b', 7, none⟩ v7) :=
  SW.of hbx.out ((((((((ha.1.setCell hz.2 v0).setCell hz.2 v1).setCell hz.2 v2).setCell hz.2 v3).setCell hz.2 v4).setCell hz.2 v5).setCell hz.2 v6).setCell hz.2 v7)
theorem Acc.below {W w : World} {vs : List Value} {ls : List (List Nat)} (ha : Acc W w vs ls) : Below W.heap.size W w := ha.1
theorem VL.of_acc {W w : World} {a : Option Addr} {n : Nat} {l : List Vr} {vs : List Value} {ls : List (List Nat)} (h : VL W a n l) (ha : Acc W w vs ls) : VL w a n l := h.below ha.1
theorem NL.of_acc {W w : World} {a : Option Addr} {n : Nat} {l : List Nat} {vs : List Value} {ls : List (List Nat)} (h : NL W a n l) (ha : Acc W w vs ls) : NL w a n l := h.below ha.1
theorem Box.set {w : World} {b : Nat} {cs : Array Value} {T : TypeId} (h : Box w b cs T) (j : Nat) (v : Value) : Box (w.setCell ⟨b, j, none⟩ v) b (cs.setIfInBounds j v) T := by
  unfold Box at *
  simp [World.setCell, Array.getElem?_modify, h]
/-- What has been made behind the array at b was laid. -/
def AZ (W w : World) (b : Nat) (vs : List Value) (ls : List (List Nat)) : Prop := BZ W w b ∧ PBs (some b) w vs ls
theorem AZ.next {W w w1 : World} {b n c : Nat} {A : Option Addr} {l : List Nat} {vs : List Value} {ls : List (List Nat)} (h : AZ W w b vs ls) (hB : Below w.heap.size w w1) (ho : Own w1 w.heap.size (.slice A n c) n l) : AZ W w1 b (vs ++ [.slice A n c]) (ls ++ [l]) :=
  ⟨h.1.next hB, PBs.snoc (PB.of_own ho (by intro k e; cases e; exact h.1.1.lt)) (PBs.below hB h.2)⟩
theorem AZ.first {W w w1 : World} {n c : Nat} {A : Option Addr} {l : List Nat} {vs : List Value} {ls : List (List Nat)} (ha : Acc W w vs ls) (hB : Below (w.alloc (.cells zs 78)).heap.size (w.alloc (.cells zs 78)) w1)
    (ho : Own w1 (w.alloc (.cells zs 78)).heap.size (.slice A n c) n l) : AZ W w1 w.heap.size (vs ++ [.slice A n c]) (ls ++ [l]) :=
  ⟨BZ.first ha hB, PBs.snoc (PB.of_own ho (by intro k e; cases e; simp)) (PBs.below hB (PBs.below (alloc_below w _) (PBs.fresh (Nat.le_refl _) ha.2)))⟩
theorem AZ.first2 {W w1 : World} {n c : Nat} {A : Option Addr} {l : List Nat} (hB : Below (W.alloc (.cells zs 78)).drew.heap.size (W.alloc (.cells zs 78)).drew w1)
    (ho : Own w1 (W.alloc (.cells zs 78)).drew.heap.size (.slice A n c) n l) : AZ W w1 W.heap.size ([] ++ [.slice A n c]) ([] ++ [l]) :=
  ⟨BZ.first2 hB, PBs.snoc (PB.of_own ho (by intro k e; cases e; simp)) trivial⟩
/-- What a call answers that makes bytes, with all that was made ahead of it, and whose it is. -/
def MakesB (W w : World) (vs : List Value) (ls : List (List Nat)) (l : List Nat) (e : Ending) (w' : World) : Prop :=
  ∃ A cap, e = .returned (.slice A l.length cap) ∧ Acc W w' (vs ++ [.slice A l.length cap]) (ls ++ [l]) ∧ Below w.heap.size w w' ∧ Own w' w.heap.size (.slice A l.length cap) l.length l
theorem accb_of {W w : World} {vs : List Value} {ls : List (List Nat)} {l : List Nat} {F : Nat} {args : Array Value} (h : Calls Try.prog F args w (Makes w l)) (ha : Acc W w vs ls) : Calls Try.prog F args w (MakesB W w vs ls l) := by
  refine h.mono ?_
  rintro e w' ⟨A, cap, rfl, ho, hB⟩
  exact ⟨A, cap, rfl, ⟨ha.1.trans (hB.mono ha.1.size), PBs.snoc (PB.of_own ho (by intro k e; cases e)) (PBs.below hB ha.2)⟩, hB, ho⟩
/-- What the region leaves: the array of the parts. -/
def Lft (W : World) (m : Ms) (v : Value) (w : World) : Prop := ∃ b vs, v = .pointer (some ⟨b, 0, none⟩) ∧ vs.length = 8 ∧ Arr w b (pts m) vs ∧ Below W.heap.size W w
theorem Lft.lit {W w : World} {m : Ms} {vs : List Value} (h : Acc W w vs (pts m)) (cs : Array Value) (hcs : cs = vs.toArray) : Lft W m (.pointer (some ⟨w.heap.size, 0, none⟩)) (w.alloc (.cells cs 78)) := by
  subst hcs
  exact ⟨_, vs, rfl, h.2.len, ⟨Box.new _ _ _, PBs.below (alloc_below w _) h.2⟩, (Acc.alloc h _).1⟩
theorem PBs.far {w w1 : World} {b : Nat} (hg : w.grownBy w1 (some b)) {vs : List Value} {ls : List (List Nat)} (h : PBs (some b) w vs ls) : PBs none w1 vs ls := PBs.weak (h.kept hg (.inl rfl))
theorem set_grown (w : World) (b j : Nat) (v : Value) : w.grownBy (w.setCell ⟨b, j, none⟩ v) (some b) :=
  ⟨rfl, rfl, rfl, by simp [World.setCell], fun k _ hk => Below.heap_setCell _ _ _ _ (fun e => hk (by rw [e]))⟩
theorem Lft.sets {W w : World} {b : Nat} {m : Ms} {v0 v1 v2 v3 v4 v5 v6 v7 : Value} (hz : AZ W w b [v0, v1, v2, v3, v4, v5, v6, v7] (pts m)) (hB : Below W.heap.size W w) :
    Lft W m (.pointer (some ⟨b, 0, none⟩)) ((((((((w.setCell ⟨b, 0, none⟩ v0).setCell ⟨b, 1, none⟩ v1).setCell ⟨b, 2, none⟩ v2).setCell ⟨b, 3, none⟩ v3).setCell ⟨b, 4, none⟩ v4).setCell ⟨b, 5, none⟩ v5).setCell ⟨b, 6, none⟩ v6).setCell ⟨b, 7, none⟩ v7) := by
  have hb := hz.1.2
  refine ⟨b, [v0, v1, v2, v3, v4, v5, v6, v7], rfl, rfl, ⟨?_, ?_⟩, (((((((hB.setCell hb v0).setCell hb v1).setCell hb v2).setCell hb v3).setCell hb v4).setCell hb v5).setCell hb v6).setCell hb v7⟩
  · clear hb
    have g0 : Box (w.setCell ⟨b, 0, none⟩ v0) b #[v0, .slice none 0 0, .slice none 0 0, .slice none 0 0, .slice none 0 0, .slice none 0 0, .slice none 0 0, .slice none 0 0] 78 := Box.set hz.1.1 0 v0
    have g1 : Box ((w.setCell ⟨b, 0, none⟩ v0).setCell ⟨b, 1, none⟩ v1) b #[v0, v1, .slice none 0 0, .slice none 0 0, .slice none 0 0, .slice none 0 0, .slice none 0 0, .slice none 0 0] 78 := Box.set g0 1 v1
    have g2 : Box (((w.setCell ⟨b, 0, none⟩ v0).setCell ⟨b, 1, none⟩ v1).setCell ⟨b, 2, none⟩ v2) b #[v0, v1, v2, .slice none 0 0, .slice none 0 0, .slice none 0 0, .slice none 0 0, .slice none 0 0] 78 := Box.set g1 2 v2
    have g3 : Box ((((w.setCell ⟨b, 0, none⟩ v0).setCell ⟨b, 1, none⟩ v1).setCell ⟨b, 2, none⟩ v2).setCell ⟨b, 3, none⟩ v3) b #[v0, v1, v2, v3, .slice none 0 0, .slice none 0 0, .slice none 0 0, .slice none 0 0] 78 := Box.set g2 3 v3
    have g4 : Box (((((w.setCell ⟨b, 0, none⟩ v0).setCell ⟨b, 1, none⟩ v1).setCell ⟨b, 2, none⟩ v2).setCell ⟨b, 3, none⟩ v3).setCell ⟨b, 4, none⟩ v4) b #[v0, v1, v2, v3, v4, .slice none 0 0, .slice none 0 0, .slice none 0 0] 78 := Box.set g3 4 v4
    have g5 : Box ((((((w.setCell ⟨b, 0, none⟩ v0).setCell ⟨b, 1, none⟩ v1).setCell ⟨b, 2, none⟩ v2).setCell ⟨b, 3, none⟩ v3).setCell ⟨b, 4, none⟩ v4).setCell ⟨b, 5, none⟩ v5) b #[v0, v1, v2, v3, v4, v5, .slice none 0 0, .slice none 0 0] 78 := Box.set g4 5 v5
    have g6 : Box (((((((w.setCell ⟨b, 0, none⟩ v0).setCell ⟨b, 1, none⟩ v1).setCell ⟨b, 2, none⟩ v2).setCell ⟨b, 3, none⟩ v3).setCell ⟨b, 4, none⟩ v4).setCell ⟨b, 5, none⟩ v5).setCell ⟨b, 6, none⟩ v6) b #[v0, v1, v2, v3, v4, v5, v6, .slice none 0 0] 78 := Box.set g5 6 v6
    have g7 : Box ((((((((w.setCell ⟨b, 0, none⟩ v0).setCell ⟨b, 1, none⟩ v1).setCell ⟨b, 2, none⟩ v2).setCell ⟨b, 3, none⟩ v3).setCell ⟨b, 4, none⟩ v4).setCell ⟨b, 5, none⟩ v5).setCell ⟨b, 6, none⟩ v6).setCell ⟨b, 7, none⟩ v7) b #[v0, v1, v2, v3, v4, v5, v6, v7] 78 := Box.set g6 7 v7
    exact g7
  · have e := set_grown w b 0 v0
    have e := e.trans (set_grown _ b 1 v1)
    have e := e.trans (set_grown _ b 2 v2)
    have e := e.trans (set_grown _ b 3 v3)
    have e := e.trans (set_grown _ b 4 v4)
    have e := e.trans (set_grown _ b 5 v5)
    have e := e.trans (set_grown _ b 6 v6)
    have e := e.trans (set_grown _ b 7 v7)
    exact PBs.far e hz.2
theorem SW.sets2 {W w : World} {b b' : Nat} {m : Ms} {t : At} {vs vs' : List Value} {ls ls' : List (List Nat)} (hbx : Hid (Box W b (cm m t) 28)) (ha : Acc W w vs ls) (hz : AZ W w b' vs' ls') (v0 v1 v2 v3 v4 v5 v6 v7 : Value) :
    SW W b m t ((((((((w.setCell ⟨b', 0, none⟩ v0).setCell ⟨b', 1, none⟩ v1).setCell ⟨b', 2, none⟩ v2).setCell ⟨b', 3, none⟩ v3).setCell ⟨b', 4, none⟩ v4).setCell ⟨b', 5, none⟩ v5).setCell ⟨b', 6, none⟩ v6).setCell ⟨b', 7, none⟩ v7) := SW.sets hbx ha hz.1 v0 v1 v2 v3 v4 v5 v6 v7
end Go.Proofs.Ytkbhmeajgmecoaa.wirJ
