/- A box in the laws' loops: with the box of a call beside it, and with whatever else is of another color. -/
import Derived.Test.YtbfepdibblialaaInA
import Derived.Test.YtbfepdibblialaaOpR
set_option linter.unusedVariables false
set_option linter.unusedSimpArgs false
set_option maxRecDepth 100000
namespace Go.Proofs.Ytbfepdibblialaa.inK
open Go.ChangeShapes Go.WideShapes Go.ChangeAt Go.RowKit Go.Deep
open opG opV opR chnM gen chnA chnR chnE ordA ordB ordC ordCr ordE2 inM inW inL inN inP inPt inG inD inA

/-- the box, in memory that the law has made -/
structure LS (w : World) (p : Nat) (S : Bx) (col : Nat → Nat) (V : World) : Prop where
  box : BoxAt col 1 V p S
  fr : Fresh col V
  co : ∀ k, k < w.heap.size → col k = 0
  bel : Below w.heap.size w V
/-- the cells of a call -/
abbrev oC (o : Oq) : Array Value := #[.int .i64 o.kind, .int .i64 o.at0, .int .u64 o.m.ts, .int .i64 o.m.dc, .int .i64 o.m.tx, .slice o.m.A o.m.vs.length o.m.c, .int .u64 o.t]
abbrev B7 (B : Nat) (o : Oq) (V : World) : Prop := V.cell? ⟨B, 0, none⟩ = some (.int .i64 o.kind) ∧ V.cell? ⟨B, 1, none⟩ = some (.int .i64 o.at0) ∧ R4 B 2 o.m V ∧ V.cell? ⟨B, 6, none⟩ = some (.int .u64 o.t)
theorem B7.new (w : World) (o : Oq) : B7 w.heap.size o (w.alloc (.cells (oC o) 32)) := by
  have h := fun (j : Nat) (u : Value) (hu : (oC o)[j]? = some u) => (cell_of_row _ _ j (oC o) 32 (0, 0) (heap_alloc_new w (.cells (oC o) 32))).trans hu
  exact ⟨h 0 _ rfl, h 1 _ rfl, ⟨h 2 _ rfl, h 3 _ rfl, h 4 _ rfl, h 5 _ rfl⟩, h 6 _ rfl⟩
theorem b7_of {B : Nat} {o : Oq} {V V' : World} (h : B7 B o V) (e : V'.heap[B]? = V.heap[B]?) : B7 B o V' :=
  ⟨(World.cell?_of_block (a := ⟨B, 0, none⟩) e).trans h.1, (World.cell?_of_block (a := ⟨B, 1, none⟩) e).trans h.2.1, R4.of_block h.2.2.1 e, (World.cell?_of_block (a := ⟨B, 6, none⟩) e).trans h.2.2.2⟩
theorem b7_below {B : Nat} {o : Oq} {V V' : World} (h : B7 B o V) (hB : Below V.heap.size V V') : B7 B o V' := b7_of h (hB.block B (World.block_lt_of_cell? _ _ h.1))
/-- what else there is stays while blocks of another color change -/
def St (d : Nat) (X : (Nat → Nat) → World → Prop) : Prop := ∀ col col' V V', Chg col d V V' → Ext V col col' → X col V → X col' V'
def J (w : World) (p : Nat) (S : Bx) (X : (Nat → Nat) → World → Prop) (V : World) : Prop := ∃ col, LS w p S col V ∧ X col V
def P (w : World) (p : Nat) (S : Bx) (B : Nat) (o : Oq) (X : (Nat → Nat) → World → Prop) (V : World) : Prop := ∃ col, LS w p S col V ∧ X col V ∧ B7 B o V ∧ col B = 0
section
variable {w V V' : World} {p B d : Nat} {S S' : Bx} {o : Oq} {X : (Nat → Nat) → World → Prop} {col col' : Nat → Nat}
theorem LS.go (h : LS w p S col V) (hg : Chg col d V V') (hd : d ≠ 0) (he : Ext V col col') (hf : Fresh col' V') (hl : BoxAt col' 1 V' p S') : LS w p S' col' V' :=
  ⟨hl, hf, fun k hk => (he k (by have := h.bel.size; omega)).trans (h.co k hk), h.bel.trans (hg.below h.bel.size fun k hk => by rw [h.co k hk]; exact fun e => hd e.symm)⟩
theorem LS.lv (h : LS w p S col V) (hl : Lv col 1 p S' V V') : ∃ col', LS w p S' col' V' ∧ Chg col 1 V V' ∧ Ext V col col' := by
  obtain ⟨col', ⟨c1, c2, c3⟩, h'⟩ := hl
  exact ⟨col', h.go c3 (by decide) c1 c2 h', c3, c1⟩
theorem LS.below (h : LS w p S col V) (hB : Below V.heap.size V V') : LS w p S col V' := ⟨h.box.below hB, h.fr.up hB.size, h.co, h.bel.trans (hB.mono h.bel.size)⟩
theorem J.below (h : J w p S X V) (hX : St 1 X) (hB : Below V.heap.size V V') : J w p S X V' := by
  obtain ⟨col, h1, h2⟩ := h
  exact ⟨col, h1.below hB, hX _ _ _ _ (Chg.of_below col 1 hB) (Ext.refl _ _) h2⟩
theorem J.bel (h : J w p S X V) : Below w.heap.size w V := by obtain ⟨col, h1, h2⟩ := h; exact h1.bel
theorem P.bel (h : P w p S B o X V) : Below w.heap.size w V := by obtain ⟨col, h1, h2⟩ := h; exact h1.bel
theorem P.j (h : P w p S B o X V) : J w p S X V := by obtain ⟨col, h1, h2, h3⟩ := h; exact ⟨col, h1, h2⟩
theorem P.b7 (h : P w p S B o X V) : B7 B o V := by obtain ⟨col, h1, h2, h3, h4⟩ := h; exact h3
theorem P.below (h : P w p S B o X V) (hX : St 1 X) (hB : Below V.heap.size V V') : P w p S B o X V' := by
  obtain ⟨col, h1, h2, h3, h4⟩ := h
  exact ⟨col, h1.below hB, hX _ _ _ _ (Chg.of_below col 1 hB) (Ext.refl _ _) h2, b7_below h3 hB, h4⟩
theorem J.opn (h : J w p S X V) (hX : St 1 X) (o : Oq) : P w p S V.heap.size o X (V.alloc (.cells (oC o) 32)) := by
  obtain ⟨col, h1, h2⟩ := h
  have hB := al0 V (.cells (oC o) 32)
  exact ⟨col, h1.below hB, hX _ _ _ _ (Chg.of_below col 1 hB) (Ext.refl _ _) h2, B7.new V o, h1.fr _ (Nat.le_refl _)⟩
theorem P.lv (h : P w p S B o X V) (hX : St 1 X) {S' : Bx} {V' : World} (hl : ∀ col, LS w p S col V → Lv col 1 p S' V V') : P w p S' B o X V' := by
  obtain ⟨col, h1, h2, h3, h4⟩ := h
  obtain ⟨col', g1, g2, g3⟩ := h1.lv (hl col h1)
  have hlt := World.block_lt_of_cell? _ _ h3.1
  exact ⟨col', g1, hX _ _ _ _ g2 g3 h2, b7_of h3 (g2.block B hlt (by rw [h4]; decide)), (g3 B hlt).trans h4⟩
theorem P.put (h : P w p S B o X V) (hX : St 1 X) (hok : S.ok) (hl : S.lim) (at0 : Int) (m : MR) (hm : HV V m.A m.c m.vs) (hs : Sm m.vs) :
    Calls Try.prog 10 #[.pointer (some ⟨p, 0, none⟩), .int .i64 at0, rv m] V fun e w' => e = .returned (.int .i64 (bxE S at0)) ∧ P w p (bxS S at0 m.r) B o X w' := by
  obtain ⟨col, h1, h2, h3, h4⟩ := h
  refine (put_at V h1.box hok hl (by decide) h1.fr at0 m hm hs).mono ?_
  rintro e w' ⟨rfl, hL⟩
  obtain ⟨col', g1, g2, g3⟩ := h1.lv hL
  have hlt := World.block_lt_of_cell? _ _ h3.1
  exact ⟨rfl, col', g1, hX _ _ _ _ g2 g3 h2, b7_of h3 (g2.block B hlt (by rw [h4]; decide)), (g3 B hlt).trans h4⟩
theorem P.next (h : P w p S B o X V) (hX : St 1 X) (hok : S.ok) (hl : S.lim) :
    Calls Try.prog 13 #[.pointer (some ⟨p, 0, none⟩)] V fun e w' => ∃ m, e = .returned (.tuple #[.int .i64 (nxP S), rv m, .bool (isThere S)]) ∧ Own V.heap.size (nt S.came S.handed) m w' ∧ P w p (nextS S) B o X w' := by
  obtain ⟨col, h1, h2, h3, h4⟩ := h
  refine (next_at V h1.box hok hl (by decide) h1.fr).mono ?_
  rintro e w' ⟨m, rfl, hO, hL⟩
  obtain ⟨col', g1, g2, g3⟩ := h1.lv hL
  have hlt := World.block_lt_of_cell? _ _ h3.1
  exact ⟨m, rfl, hO, col', g1, hX _ _ _ _ g2 g3 h2, b7_of h3 (g2.block B hlt (by rw [h4]; decide)), (g3 B hlt).trans h4⟩
theorem P.peek (h : P w p S B o X V) (hX : St 1 X) (hok : S.ok) :
    Calls Try.prog 20 #[.pointer (some ⟨p, 0, none⟩)] V fun e w' => ∃ m, e = .returned (.tuple #[rv m, .bool (isThere S)]) ∧ Own V.heap.size (nt S.came S.handed) m w' ∧ P w p S B o X w' := by
  have hb := fun V' (hB : Below V.heap.size V V') => h.below hX hB
  obtain ⟨col, h1, h2, h3, h4⟩ := h
  refine (peek_at V h1.box hok).mono ?_
  rintro e w' ⟨m, rfl, hO, hB⟩
  exact ⟨m, rfl, hO, hb _ hB⟩
theorem P.done (h : P w p S B o X V) (hX : St 1 X) (hok : S.ok) (hl : S.lim) (at0 : Int) (ha : -9223372036854775808 ≤ at0) (hb : at0 ≤ 9223372036854775807) :
    Calls Try.prog 16 #[.pointer (some ⟨p, 0, none⟩), .int .i64 at0] V fun e w' => e = .returned (.int .i64 (doneE S at0)) ∧ P w p (doneS S at0) B o X w' := by
  obtain ⟨col, h1, h2, h3, h4⟩ := h
  refine (done_at V h1.box hok hl (by decide) h1.fr at0 ha hb).mono ?_
  rintro e w' ⟨rfl, hL⟩
  obtain ⟨col', g1, g2, g3⟩ := h1.lv hL
  have hlt := World.block_lt_of_cell? _ _ h3.1
  exact ⟨rfl, col', g1, hX _ _ _ _ g2 g3 h2, b7_of h3 (g2.block B hlt (by rw [h4]; decide)), (g3 B hlt).trans h4⟩
theorem P.heart (h : P w p S B o X V) (hX : St 1 X) (hok : S.ok) (hl : S.lim) (t k : Int) (ht : 0 ≤ t) (ht9 : t < 18446744073709551616) (ha : -9223372036854775808 ≤ k) (hb : k ≤ 9223372036854775807) :
    Calls Try.prog 18 #[.pointer (some ⟨p, 0, none⟩), .int .u64 t, .int .i64 k] V fun e w' => e = .returned (.tuple #[]) ∧ P w p (heartS S t k) B o X w' := by
  obtain ⟨col, h1, h2, h3, h4⟩ := h
  refine (heart_at V h1.box hok hl (by decide) h1.fr t k ht ht9 ha hb).mono ?_
  rintro e w' ⟨rfl, hL⟩
  obtain ⟨col', g1, g2, g3⟩ := h1.lv hL
  have hlt := World.block_lt_of_cell? _ _ h3.1
  exact ⟨rfl, col', g1, hX _ _ _ _ g2 g3 h2, b7_of h3 (g2.block B hlt (by rw [h4]; decide)), (g3 B hlt).trans h4⟩
theorem J.applied (h : J w p S X V) : Calls Try.prog 22 #[.pointer (some ⟨p, 0, none⟩)] V fun e w' => e = .returned (.int .i64 S.ap) ∧ V = w' := by
  obtain ⟨col, h1, h2⟩ := h
  exact applied_at V h1.box
theorem J.got (h : J w p S X V) : Calls Try.prog 24 #[.pointer (some ⟨p, 0, none⟩)] V fun e w' => e = .returned (.int .u64 S.g) ∧ V = w' := by
  obtain ⟨col, h1, h2⟩ := h
  exact got_at V h1.box
end
/-- how it begins: w0 is the law's world, w that at New -/
theorem j_new {w : World} {at0 : Int} : LS w (w.heap.size + 1) (B0 at0) (colP (fun _ => 0) w.heap.size 1) (newB w at0) := by
  obtain ⟨hA, hC⟩ := at_new (col := fun _ => 0) (c := 1) w at0 (fun _ _ => rfl)
  exact ⟨hA, hC.2.1, fun k hk => if_neg (by omega), hC.2.2.below (Nat.le_refl _) (fun k _ => (by decide : (0 : Nat) ≠ 1))⟩
def XT : (Nat → Nat) → World → Prop := fun _ _ => True
theorem st_XT (d : Nat) : St d XT := fun _ _ _ _ _ _ _ => trivial
end Go.Proofs.Ytbfepdibblialaa.inK
