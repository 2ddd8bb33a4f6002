/- The document's In, where it refuses. -/
import Derived.Test.YthiadkpndemeeaaLnkPd
namespace Go.Proofs.Ythiadkpndemeeaa.lnkPe
open Go.ChangeShapes Go.WideShapes Go.ChangeAt Go.RowKit Go.Deep
open numM rowA byt numA numB numC lnkA lnkB lnkC lnkD lnkE lnkF lnkG lnkH lnkI lnkL lnkQ lnkR lnkS lnkT lnkPa lnkPb lnkPc lnkPd

def inL' (d : Dm) (f : Fm) (ls : List (List Nat)) : List (List Nat) :=
  if f.e ≠ d.ep then [] else if f.s < 0 ∨ f.a < 0 ∨ (lastD d : Int) < f.a then [] else if f.s ≤ d.got then [] else if 16 < f.s - d.got then [] else ls
/-- What the document's In answers. -/
def InnedD (K : Nat → Prop) (w0 : World) (p q : Nat) (s : St) (d : Dm) (f : Fm) (ls : List (List Nat)) (e : Ending) (w' : World) : Prop :=
  ∃ A c, e = .returned (.tuple #[.slice A (inL' d f ls).length c, .int .i64 (inE' d f)]) ∧ LQ w' A (inL' d f ls).length (inL' d f ls) ∧ PlAt K w0 w' p q s (inD d f ls.length)
theorem innedd_none {K : Nat → Prop} {w0 w' : World} {p q : Nat} {s : St} {d : Dm} {f : Fm} {ls : List (List Nat)} {n : Nat} (hE : inE' d f = n) (hL : inL' d f ls = []) (h : PlAt K w0 w' p q s (inD d f ls.length)) : InnedD K w0 p q s d f ls (.returned (.tuple #[.slice none 0 0, .int .i64 (n : Nat)])) w' :=
  ⟨none, 0, by rw [hE, hL]; rfl, by rw [hL]; exact ⟨by decide, fun i hi => by simp at hi⟩, h⟩

/-- the two ends, and the frame that came in, boxed -/
structure BxIs (col : Nat → Nat) (K : Nat → Prop) (w0 W : World) (p q : Nat) (s : St) (d : Dm) (vs vc : Value) (xs : List Value) (css : List (List Value)) (b : Nat) (f : Fm) (A : Option Addr) (c : Nat) : Prop where
  pl : PlIs col K w0 W p q s d vs vc xs css
  cb : col b = 0
  fr : FB W b f A c
def Bx (K : Nat → Prop) (w0 W : World) (p q : Nat) (s : St) (d : Dm) (b : Nat) (f : Fm) (A : Option Addr) (c : Nat) : Prop := ∃ col vs vc xs css, BxIs col K w0 W p q s d vs vc xs css b f A c
section
variable {K : Nat → Prop} {w0 w W W' : World} {p q : Nat} {s : St} {d : Dm} {b : Nat} {f : Fm} {A : Option Addr} {c : Nat}
theorem Bx.new (h : PlAt K w0 w p q s d) : Bx K w0 (w.alloc (.cells (cf f A c) 31)) p q s d w.heap.size f A c := by
  obtain ⟨col, vs, vc, xs, css, hI⟩ := h
  exact ⟨col, vs, vc, xs, css, hI.below (al0 _ _), hI.fresh _ (Nat.le_refl _), cfrow w f A c⟩
theorem Bx.below (h : Bx K w0 W p q s d b f A c) (hB : Below W.heap.size W W') : Bx K w0 W' p q s d b f A c := by
  obtain ⟨col, vs, vc, xs, css, h1, h2, h3⟩ := h
  exact ⟨col, vs, vc, xs, css, h1.below hB, h2, h3.below hB⟩
theorem Bx.drew (h : Bx K w0 W p q s d b f A c) : Bx K w0 W.drew p q s d b f A c := h.below (below_drew _)
theorem Bx.drewN (h : Bx K w0 W p q s d b f A c) (n : Nat) : Bx K w0 (W.drewN n) p q s d b f A c := h.below (W' := W.drewN n) (lnkI.below_drewN W n)
theorem Bx.at_ (h : Bx K w0 W p q s d b f A c) : PlAt K w0 W p q s d := by
  obtain ⟨col, vs, vc, xs, css, h1, h2, h3⟩ := h
  exact ⟨col, vs, vc, xs, css, h1⟩
theorem Bx.fr (h : Bx K w0 W p q s d b f A c) : FB W b f A c := by
  obtain ⟨col, vs, vc, xs, css, h1, h2, h3⟩ := h
  exact h3
theorem Bx.nums (h : Bx K w0 W p q s d b f A c) : W.cell? ⟨q, 0, none⟩ = some (.int .i64 d.ep) ∧ W.cell? ⟨q, 2, none⟩ = some (.int .i64 d.acked) ∧ W.cell? ⟨q, 4, none⟩ = some (.int .i64 d.got) ∧ W.frozen? ⟨q, 2, none⟩ = false ∧ W.frozen? ⟨q, 4, none⟩ = false ∧ q < W.heap.size ∧ b < W.heap.size := by
  obtain ⟨col, vs, vc, xs, css, h1, h2, h3⟩ := h
  obtain ⟨h0, -, h2, -, h4⟩ := h1.b.cells
  exact ⟨h0, h2, h4, h1.b.row.frozen 2, h1.b.row.frozen 4, h1.b.row.lt, World.rowIs.lt h3⟩
/-- A number of the document's end is laid down. -/
theorem Bx.setNum (h : Bx K w0 W p q s d b f A c) (d' : Dm) (h1 : d'.sent = d.sent) (h2 : d'.came = d.came) (hok : DOk d') (i : Nat) (val : Value) (hcell : ∀ vs vc j, j < 5 → (if j = i then val else cD d vs vc j) = cD d' vs vc j) : Bx K w0 (W.setCell ⟨q, i, none⟩ val) p q s d' b f A c := by
  obtain ⟨col, vs, vc, xs, css, k1, k2, k3⟩ := h
  have hne : b ≠ q := fun e => by have := k1.b.cq; rw [e] at k2; omega
  exact ⟨col, vs, vc, xs, css, k1.setNum d' h1 h2 hok i val (hcell vs vc), k2, World.rowIs.of_block k3 (Below.heap_setCell _ _ _ _ hne)⟩
theorem Bx.setAck (h : Bx K w0 W p q s d b f A c) {a : Nat} (ha : a ≤ d.sent.length) : Bx K w0 (W.setCell ⟨q, 2, none⟩ (.int .i64 (a : Nat))) p q s { d with acked := a } b f A c := by
  obtain ⟨k1, k2, k3, k4, k5⟩ := h.at_.ok
  exact h.setNum { d with acked := a } rfl rfl ⟨ha, k2, k3, k4, k5⟩ 2 _ (fun vs vc j hj => by
    have : j = 0 ∨ j = 1 ∨ j = 2 ∨ j = 3 ∨ j = 4 := by omega
    rcases this with rfl | rfl | rfl | rfl | rfl <;> rfl)
theorem Bx.setGot (h : Bx K w0 W p q s d b f A c) {g : Nat} (hg : g ≤ 1000000) : Bx K w0 (W.setCell ⟨q, 4, none⟩ (.int .i64 (g : Nat))) p q s { d with got := g } b f A c := by
  obtain ⟨k1, k2, k3, k4, k5⟩ := h.at_.ok
  exact h.setNum { d with got := g } rfl rfl ⟨k1, k2, k3, hg, k5⟩ 4 _ (fun vs vc j hj => by
    have : j = 0 ∨ j = 1 ∨ j = 2 ∨ j = 3 ∨ j = 4 := by omega
    rcases this with rfl | rfl | rfl | rfl | rfl <;> rfl)
theorem lastd_any (h : PlAt K w0 W p q s d) : Calls Try.prog 32 #[.pointer (some ⟨q, 0, none⟩)] W fun e w' => e = .returned (.int .i64 (lastD d : Nat)) ∧ ∃ m, w' = W.drewN m := by
  obtain ⟨col, vs, vc, xs, css, h⟩ := h
  exact last_any h.b
set_option maxRecDepth 100000 in
set_option maxHeartbeats 1000000 in
theorem ind_kind (ls : List (List Nat)) (f : Fm) (A : Option Addr) (cap : Nat) (w : World) (h : PlAt K w0 w p q s d) (h1 : f.e ≠ d.ep) : Calls Try.prog 15 #[.pointer (some ⟨q, 0, none⟩), .agg (cf f A cap)] w (InnedD K w0 p q s d f ls) := by
  have hB := Bx.new (f := f) (A := A) (c := cap) h
  have hfin : Hid (InnedD K w0 p q s d f ls (.returned (.tuple #[.slice none 0 0, .int .i64 (5 : Nat)])) (w.alloc (.cells (cf f A cap) 31)).drew) :=
    Lib.hid (innedd_none (by unfold inE'; rw [if_pos h1]) (by unfold inL'; rw [if_pos h1]) (by unfold inD; rw [if_pos h1]; exact hB.at_.below (below_drew _)))
  obtain ⟨c0, -⟩ := hB.nums
  obtain ⟨-, k1, -⟩ := FB.cells (cfrow w f A cap)
  have hne : (f.e != d.ep) = true := by rw [bne_iff_ne]; exact h1
  have hne2 : ¬ f.e = d.ep := h1
  clear hB h
  go_enter Try.func15, Try.ntmps15
  clear hne2 h1
  go_wp2
  generalize w.alloc (.cells (cf f A cap) 31) = W at *
  go_region
  go_wp2
  go_ret2
  exact hfin.out
set_option maxRecDepth 100000 in
set_option maxHeartbeats 1000000 in
theorem ind_arg (ls : List (List Nat)) (f : Fm) (A : Option Addr) (cap : Nat) (w : World) (h : PlAt K w0 w p q s d) (h1 : f.e = d.ep) (h2 : f.s < 0 ∨ f.a < 0 ∨ (lastD d : Int) < f.a) : Calls Try.prog 15 #[.pointer (some ⟨q, 0, none⟩), .agg (cf f A cap)] w (InnedD K w0 p q s d f ls) := by
  have hfin : Hid (∀ W b, Bx K w0 W p q s d b f A cap → InnedD K w0 p q s d f ls (.returned (.tuple #[.slice none 0 0, .int .i64 (1 : Nat)])) W) :=
    Lib.hid fun W b hB => innedd_none (by unfold inE'; rw [if_neg (by simpa using h1), if_pos h2]) (by unfold inL'; rw [if_neg (by simpa using h1), if_pos h2]) (by unfold inD; rw [if_neg (by simpa using h1), if_pos h2]; exact hB.at_)
  have hB := Lib.hid (Bx.new (f := f) (A := A) (c := cap) h)
  have hw : Hid (∀ (W : World) b, Bx K w0 W p q s d b f A cap → Calls Try.prog 32 #[.pointer (some ⟨q, 0, none⟩)] W fun e w' => e = .returned (.int .i64 (lastD d : Nat)) ∧ ∃ m, w' = W.drewN m) := Lib.hid fun W b hB => lastd_any hB.at_
  obtain ⟨e0, -⟩ := hB.out.nums
  obtain ⟨-, k1, k2, k3, -⟩ := hB.out.fr.cells
  rw [h1] at k1
  clear h h1
  generalize lastD d = N at *
  have hne : (d.ep != d.ep) = false := by simp
  rcases (show f.s < 0 ∨ (0 ≤ f.s ∧ f.a < 0) ∨ (0 ≤ f.s ∧ 0 ≤ f.a ∧ (N : Int) < f.a) by omega) with q1 | q1 | q1
  · clear h2
    have d1 : decide (f.s < 0) = true := by simpa using q1
    go_enter Try.func15, Try.ntmps15
    go_wp2
    generalize w.heap.size = b at *
    generalize w.alloc (.cells (cf f A cap) 31) = W at *
    go_region
    have hB1 := Lib.hid hB.out.drew
    generalize W.drew = W1 at hB1 ⊢
    clear e0 k1 k2 k3 hne hB
    obtain ⟨-, -, k2, k3, -⟩ := hB1.out.fr.cells
    go_wp2
    go_quiet (fail)
    go_wp2
    go_ret2
    exact hfin.out _ _ (hB1.out.drewN _)
  · clear h2
    obtain ⟨q0, q1⟩ := q1
    have d1 : decide (f.s < 0) = false := by simpa using q0
    have d2 : decide (f.a < 0) = true := by simpa using q1
    go_enter Try.func15, Try.ntmps15
    go_wp2
    generalize w.heap.size = b at *
    generalize w.alloc (.cells (cf f A cap) 31) = W at *
    go_region
    have hB1 := Lib.hid hB.out.drew
    generalize W.drew = W1 at hB1 ⊢
    clear e0 k1 k2 k3 hne hB
    obtain ⟨-, -, k2, k3, -⟩ := hB1.out.fr.cells
    go_wp2
    go_quiet (fail)
    go_wp2
    go_ret2
    exact hfin.out _ _ (hB1.out.drewN _)
  · clear h2
    obtain ⟨q0, q1, q2⟩ := q1
    have d1 : decide (f.s < 0) = false := by simpa using q0
    have d2 : decide (f.a < 0) = false := by simpa using q1
    have d3 : decide ((N : Int) < f.a) = true := by simpa using q2
    go_enter Try.func15, Try.ntmps15
    go_wp2
    generalize w.heap.size = b at *
    generalize w.alloc (.cells (cf f A cap) 31) = W at *
    go_region
    have hB1 := Lib.hid hB.out.drew
    generalize W.drew = W1 at hB1 ⊢
    clear e0 k1 k2 k3 hne hB
    obtain ⟨-, -, k2, k3, -⟩ := hB1.out.fr.cells
    go_wp2
    go_quiet ((go_at_call 32; exact Calls.quiet_of (hw.out _ _ (hB1.out.drewN _))))
    go_wp2
    go_ret2
    exact hfin.out _ _ (hB1.out.drewN _)
end
end Go.Proofs.Ythiadkpndemeeaa.lnkPe
