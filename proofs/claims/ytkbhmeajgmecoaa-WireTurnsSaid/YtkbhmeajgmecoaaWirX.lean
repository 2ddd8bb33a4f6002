/- What put makes, in a row that grows: for the document's own two writers. -/
import Derived.Test.YtkbhmeajgmecoaaWirJ
namespace Go.Proofs.Ytkbhmeajgmecoaa.wirX
open Go.ChangeShapes Go.WideShapes Go.ChangeAt Go.RowKit
open numM numN rowA byt numA numB numC numD numE wirM wirA wirB wirD wirE wirF wirG wirL wirH wirI wirJ

/-- v, made since W, holds l. -/
def Row (W w : World) (v : Value) (l : List Nat) : Prop := Own w W.heap.size v l.length l ∧ Below W.heap.size W w
theorem Row.below {W w w1 : World} {v : Value} {l : List Nat} (h : Row W w v l) (hB : Below w.heap.size w w1) : Row W w1 v l := ⟨own_kept h.1 hB, h.2.trans (hB.mono h.2.size)⟩
theorem Row.alloc {W w : World} {v : Value} {l : List Nat} (h : Row W w v l) (o : Obj) : Row W (w.alloc o) v l := h.below (alloc_below w o)
theorem Row.bel {W w : World} {v : Value} {l : List Nat} (h : Row W w v l) : Below W.heap.size W w := h.2
theorem Row.form {W w : World} {v : Value} {l : List Nat} (h : Row W w v l) : ∃ A c, v = .slice A l.length c := by
  obtain ⟨A, c, e, _⟩ := h.1.form; exact ⟨A, c, e⟩
/-- What put answers. -/
def PutR (W : World) (l : List Nat) (e : Ending) (w' : World) : Prop := ∃ A cap, e = .returned (.slice A l.length cap) ∧ Row W w' (.slice A l.length cap) l
/-- The row so far, and what is to come behind it. -/
def AccX (W w : World) (v : Value) (l : List Nat) (vs : List Value) (ls : List (List Nat)) : Prop := Row W w v l ∧ PBs v.ownBlock w vs ls
def MakesX (W w : World) (v : Value) (l0 : List Nat) (vs : List Value) (ls : List (List Nat)) (l : List Nat) (e : Ending) (w' : World) : Prop :=
  ∃ A cap, e = .returned (.slice A l.length cap) ∧ AccX W w' v l0 (vs ++ [.slice A l.length cap]) (ls ++ [l]) ∧ Below w.heap.size w w'
theorem AccX.start {W w : World} {v : Value} {l : List Nat} (h : Row W w v l) : AccX W w v l [] [] := ⟨h, trivial⟩
theorem AccX.drew {W w : World} {v : Value} {l : List Nat} {vs : List Value} {ls : List (List Nat)} (h : AccX W w v l vs ls) : AccX W w.drew v l vs ls := ⟨h.1.below (Below.refl _ _).drew, PBs.below (Below.refl _ _).drew h.2⟩
theorem AccX.step {W w w1 : World} {v : Value} {l0 l : List Nat} {vs : List Value} {ls : List (List Nat)} {A : Option Addr} {n c : Nat} (h : AccX W w v l0 vs ls) (ho : Own w1 w.heap.size (.slice A n c) n l) (hB : Below w.heap.size w w1) : AccX W w1 v l0 (vs ++ [.slice A n c]) (ls ++ [l]) :=
  ⟨h.1.below hB, PBs.snoc (PB.of_own ho fun k e => (own_lt h.1.1 k e).2) (PBs.below hB h.2)⟩
theorem accx_of {W w : World} {v : Value} {l0 : List Nat} {vs : List Value} {ls : List (List Nat)} {l : List Nat} {F : Nat} {args : Array Value} (h : Calls Try.prog F args w (Makes w l)) (ha : AccX W w v l0 vs ls) : Calls Try.prog F args w (MakesX W w v l0 vs ls l) := by
  refine h.mono ?_
  rintro e w' ⟨A, cap, rfl, ho, hB⟩
  exact ⟨A, cap, rfl, ha.step ho hB, hB⟩
/-- the row of one byte, laid behind some parts -/
theorem AccX.head {W w : World} {vs : List Value} {ls : List (List Nat)} {k : Nat} (hk : k < 256) (h : Acc W w vs ls) : AccX W (w.alloc (.cells #[.int .u8 k] 5)) (.slice (some ⟨w.heap.size, 0, none⟩) 1 1) [k] vs ls := by
  have ho := Own.made w W.heap.size h.1.size [k] (by simpa using hk) (by simp) #[.int .u8 k] rfl
  refine ⟨⟨ho, (Acc.alloc h _).1⟩, PBs.below (alloc_below w _) (PBs.fresh (Nat.le_refl _) h.2)⟩
theorem putr_of {W w : World} {v : Value} {l l' : List Nat} {a : Option Addr} {n c : Nat} {ls : List (List Nat)} (hr : Row W w v l) (hl : Lst v.ownBlock w a n ls) (he : l ++ ls.flatten = l') (hsz : l'.length ≤ 1099511627776) :
    Calls Try.prog 54 #[v, .slice a n c] w (PutR W l') := by
  subst he
  refine (put_any W.heap.size v _ l a n c ls w hr.1 hr.2.size hl (by rw [← List.length_append]; exact hsz)).mono ?_
  rintro e w' ⟨A, cap, rfl, ho, hg, -⟩
  exact ⟨A, cap, rfl, ho, Own.grown hr.1 hr.2 hg hr.2.size⟩
/-- put of what has been made, laid in a new row -/
theorem putx {W w : World} {v : Value} {l l' : List Nat} {vs : List Value} {ls : List (List Nat)} (ha : AccX W w v l vs ls) (cs : Array Value) (n c : Nat) (hcs : cs = vs.toArray) (hn : n = vs.length) (h1 : vs.length ≤ 1000) (he : l ++ ls.flatten = l') (hsz : l'.length ≤ 1099511627776) :
    Calls Try.prog 54 #[v, .slice (some ⟨w.heap.size, 0, none⟩) n c] (w.alloc (.cells cs 31)) (PutR W l') := by
  subst hcs
  exact putr_of (ha.1.alloc _) (Lst.lit ha.2 (fun k e => (own_lt ha.1.1 k e).2) h1 31 n hn) he hsz
/-- .. and what is left alone -/
theorem putg {W w : World} {v : Value} {l l' : List Nat} {vs : List Value} {ls : List (List Nat)} (ha : AccX W w v l vs ls) (cs : Array Value) (n c : Nat) (hcs : cs = vs.toArray) (hn : n = vs.length) (h1 : vs.length ≤ 1000) (he : l ++ ls.flatten = l') (hsz : l'.length ≤ 1099511627776) :
    Calls Try.prog 54 #[v, .slice (some ⟨w.heap.size, 0, none⟩) n c] (w.alloc (.cells cs 31)) fun e w' => ∃ A cap, e = .returned (.slice A l'.length cap) ∧ Row W w' (.slice A l'.length cap) l' ∧ w.grownBy w' v.ownBlock ∧ (w.alloc (.cells cs 31)).grownBy w' v.ownBlock ∧ ∀ b, b < w.heap.size → v.ownBlock ≠ some b → (Value.slice A l'.length cap).ownBlock ≠ some b := by
  subst hcs he
  have hr := ha.1.alloc (.cells vs.toArray 31)
  refine (put_any W.heap.size v _ l (some ⟨w.heap.size, 0, none⟩) n c ls _ hr.1 hr.2.size (Lst.lit ha.2 (fun k e => (own_lt ha.1.1 k e).2) h1 31 n hn) (by rw [← List.length_append]; exact hsz)).mono ?_
  rintro e w' ⟨A, cap, rfl, ho, hg, hat⟩
  refine ⟨A, cap, rfl, ⟨ho, Own.grown hr.1 hr.2 hg hr.2.size⟩, grown_then (below_grown0 (alloc_below w _) _) hg (.inl rfl), hg, fun b hb hv e => ?_⟩
  rcases hat with h | h
  · exact hv (h ▸ e)
  · have := h b e; simp at this; omega
/-- The five numbers of a command lie at block b, apart from the row v. -/
def NB (b : Nat) (c : Cm) (w : World) (v : Value) : Prop := b < w.heap.size ∧ (∀ k, k < 5 → w.cell? ⟨b, k, none⟩ = some (.int .i64 (nat c k))) ∧ v.ownBlock ≠ some b
theorem NB.below {b : Nat} {c : Cm} {w w1 : World} {v : Value} (h : NB b c w v) (hB : Below w.heap.size w w1) : NB b c w1 v :=
  ⟨by have := hB.size; have := h.1; omega, fun k hk => by rw [hB.cell (p := ⟨b, k, none⟩) h.1]; exact h.2.1 k hk, h.2.2⟩
theorem NB.put {b : Nat} {c : Cm} {w w1 : World} {v v' : Value} (h : NB b c w v) (hg : w.grownBy w1 v.ownBlock) (hv : ∀ b, b < w.heap.size → v.ownBlock ≠ some b → v'.ownBlock ≠ some b) : NB b c w1 v' :=
  ⟨by have := hg.size; have := h.1; omega, fun k hk => by rw [hg.cell_far ⟨b, k, none⟩ h.1 (fun e => h.2.2 e.symm)]; exact h.2.1 k hk, hv b h.1 h.2.2⟩
theorem grown_cell {w w1 : World} {x : Option Nat} {b o : Nat} {v : Value} (hg : w.grownBy w1 x) (hx : x ≠ some b) (h : w.cell? ⟨b, o, none⟩ = some v) : w1.cell? ⟨b, o, none⟩ = some v := by
  rw [← h]
  exact hg.cell_far ⟨b, o, none⟩ (World.block_lt_of_cell? _ _ h) (fun e => hx e.symm)
theorem SV.grown {b : Nat} {v : Vr} {w w1 : World} {x : Option Nat} (hg : w.grownBy w1 x) (h : SV b v w) (hx : x ≠ some b) : SV b v w1 := by
  obtain ⟨h0, h1, h2, h3, h4, h5, h6⟩ := h
  exact ⟨grown_cell hg hx h0, grown_cell hg hx h1, grown_cell hg hx h2, grown_cell hg hx h3, grown_cell hg hx h4, grown_cell hg hx h5, by have := hg.size; omega⟩
theorem row_ne {W w : World} {v : Value} {l : List Nat} (h : Row W w v l) : v.ownBlock ≠ some w.heap.size := fun e => by have := (own_lt h.1 _ e).2; omega
/-- .. where the row of one byte is laid just ahead of it -/
theorem putx_mid {W w : World} {k : Nat} {l' : List Nat} {vs : List Value} {ls : List (List Nat)} (hk : k < 256) (ha : Acc W w vs ls) (cs : Array Value) (n c : Nat) (hcs : cs = vs.toArray) (hn : n = vs.length) (h1 : vs.length ≤ 1000) (he : [k] ++ ls.flatten = l') (hsz : l'.length ≤ 1099511627776) :
    Calls Try.prog 54 #[.slice (some ⟨w.heap.size, 0, none⟩) 1 1, .slice (some ⟨w.heap.size + 1, 0, none⟩) n c] ((w.alloc (.cells #[.int .u8 k] 5)).alloc (.cells cs 31)) (PutR W l') := by
  have h := putx (AccX.head hk ha) cs n c hcs hn h1 he hsz
  rw [show (w.alloc (.cells #[.int .u8 (k : Int)] 5)).heap.size = w.heap.size + 1 from by simp] at h
  exact h
/-- .. where the row of one byte is laid last -/
theorem putx_late {W w : World} {k : Nat} {l' : List Nat} {vs : List Value} {ls : List (List Nat)} (hk : k < 256) (ha : Acc W w vs ls) (cs : Array Value) (n c : Nat) (hcs : cs = vs.toArray) (hn : n = vs.length) (h1 : vs.length ≤ 1000) (he : [k] ++ ls.flatten = l') (hsz : l'.length ≤ 1099511627776) :
    Calls Try.prog 54 #[.slice (some ⟨w.heap.size + 1, 0, none⟩) 1 1, .slice (some ⟨w.heap.size, 0, none⟩) n c] ((w.alloc (.cells cs 31)).alloc (.cells #[.int .u8 k] 5)) (PutR W l') := by
  subst hcs
  have hs : (w.alloc (.cells vs.toArray 31)).heap.size = w.heap.size + 1 := by simp
  have ho := Own.made (w.alloc (.cells vs.toArray 31)) W.heap.size (by have := ha.1.size; omega) [k] (by simpa using hk) (by simp) #[.int .u8 k] rfl
  rw [hs] at ho
  have hl := Lst.lit ha.2 (by intro k e; cases e) h1 31 n hn
  have hl2 : Lst (some (w.heap.size + 1)) ((w.alloc (.cells vs.toArray 31)).alloc (.cells #[.int .u8 k] 5)) (some ⟨w.heap.size, 0, none⟩) n ls := by
    have hl1 := hl.kept (below_grown0 (alloc_below _ (.cells #[.int .u8 k] 5)) none) (.inl rfl)
    refine ⟨hl1.1, hl1.2.1, fun i hi => ?_⟩
    obtain ⟨b, off, A, m, c', e1, _, _, e2, e3, _, _⟩ := hl1.2.2 i hi
    obtain ⟨b', off', A', m', c'', g1, g2, _, g3, _, _, g5⟩ := hl.2.2 i hi
    cases e1; cases g1
    have hcc : (w.alloc (.cells vs.toArray 31)).cell? ⟨w.heap.size, 0 + i, none⟩ = ((w.alloc (.cells vs.toArray 31)).alloc (.cells #[.int .u8 k] 5)).cell? ⟨w.heap.size, 0 + i, none⟩ := ((alloc_below _ _).cell (p := ⟨w.heap.size, 0 + i, none⟩) (by simp)).symm
    rw [e2, g3] at hcc
    injection hcc with hcc
    injection hcc with q1 q2 q3
    subst q1 q2 q3
    exact ⟨_, _, _, _, _, rfl, by simp; omega, by simp, e2, e3, fun y hy => by have := g5 y hy; rw [hs] at this; intro e; injection e with e; omega, fun y hy => by have := g5 y hy; simp at this ⊢; omega⟩
  exact putr_of (l := [k]) ⟨ho, (Acc.alloc (Acc.alloc ha _) _).1⟩ hl2 he hsz
end Go.Proofs.Ytkbhmeajgmecoaa.wirX
