/- A side in the laws' loops, with whatever else is of another color. -/
import Derived.Test.YteelndiiennhkaaPtA
set_option linter.unusedVariables false
set_option linter.unusedSimpArgs false
set_option maxRecDepth 100000
namespace Go.Proofs.Yteelndiiennhkaa.ptJ
open Go.ChangeShapes Go.WideShapes Go.ChangeAt Go.RowKit Go.Deep
open opG opO hlcA gen ptM ptL ptN ptG ptA

abbrev Wh : Type := (Nat → Nat) → World → Prop
/-- what else there is stays while blocks of another color change -/
def St (d : Nat) (X : Wh) : Prop := ∀ col col' V V', Chg col d V V' → Ext V col col' → X col V → X col' V'
def X2 (X Y : Wh) : Wh := fun col V => X col V ∧ Y col V
def XS (p : Nat) (S : Pt) : Wh := fun col V => SideAt col 1 V p S
def XB (B : Nat) (o : Oq) : Wh := fun col V => O4 B 0 o V ∧ col B = 0
def XT : Wh := fun _ _ => True
theorem st_XT (d : Nat) : St d XT := fun _ _ _ _ _ _ _ => trivial
theorem st_X2 {d : Nat} {X Y : Wh} (h : St d X) (k : St d Y) : St d (X2 X Y) := fun _ _ _ _ hg he ⟨a, b⟩ => ⟨h _ _ _ _ hg he a, k _ _ _ _ hg he b⟩
theorem st_XS {d p : Nat} {S : Pt} (h1 : 1 ≠ d) : St d (XS p S) := fun _ _ _ _ hg he h => SideAt.other h hg h1 he
theorem o4_of {b o : Nat} {q : Oq} {w w1 : World} (h : O4 b o q w) (e : w1.heap[b]? = w.heap[b]?) : O4 b o q w1 :=
  ⟨(World.cell?_of_block (a := ⟨b, o, none⟩) e).trans h.1, (World.cell?_of_block (a := ⟨b, o + 1, none⟩) e).trans h.2.1, (World.cell?_of_block (a := ⟨b, o + 2, none⟩) e).trans h.2.2.1, (World.cell?_of_block (a := ⟨b, o + 3, none⟩) e).trans h.2.2.2⟩
theorem o4_lt {b o : Nat} {q : Oq} {w : World} (h : O4 b o q w) : b < w.heap.size := World.block_lt_of_cell? _ _ h.1
theorem o4_new (w : World) (o : Oq) : O4 w.heap.size 0 o (w.alloc (.cells (cO o) 31)) := by
  have h := fun (j : Nat) (u : Value) (hu : (cO o)[j]? = some u) => (cell_of_row _ _ j (cO o) 31 (0, 0) (heap_alloc_new w (.cells (cO o) 31))).trans hu
  exact ⟨h 0 _ rfl, h 1 _ rfl, h 2 _ rfl, h 3 _ rfl⟩
theorem st_XB {d B : Nat} {o : Oq} (hd : d ≠ 0) : St d (XB B o) := fun _ _ _ _ hg he ⟨h, hc⟩ =>
  ⟨o4_of h (hg.block B (o4_lt h) (by rw [hc]; exact fun e => hd e.symm)), (he B (o4_lt h)).trans hc⟩
/-- memory that the law has made -/
structure LW (w : World) (col : Nat → Nat) (V : World) : Prop where
  fr : Fresh col V
  co : ∀ k, k < w.heap.size → col k = 0
  bel : Below w.heap.size w V
def J (w : World) (X : Wh) (V : World) : Prop := ∃ col, LW w col V ∧ X col V
section
variable {w V V' : World} {p B d : Nat} {S S' : Pt} {o : Oq} {X X' Y : Wh} {col col' : Nat → Nat}
theorem LW.go (h : LW w col V) (hC : Cn d col V col' V') (hd : d ≠ 0) : LW w col' V' :=
  ⟨hC.2.1, fun k hk => (hC.1 k (by have := h.bel.size; omega)).trans (h.co k hk), h.bel.trans (hC.2.2.below h.bel.size fun k hk => by rw [h.co k hk]; exact fun e => hd e.symm)⟩
theorem J.bel (h : J w X V) : Below w.heap.size w V := by obtain ⟨col, h1, h2⟩ := h; exact h1.bel
theorem J.below (h : J w X V) (hX : St 9 X) (hB : Below V.heap.size V V') : J w X V' := by
  obtain ⟨col, h1, h2⟩ := h
  exact ⟨col, h1.go (Cn.below (c := 9) h1.fr hB) (by decide), hX _ _ _ _ (Chg.of_below col 9 hB) (Ext.refl _ _) h2⟩
theorem J.step (h : J w (X2 X Y) V) (hY : St d Y) (hd : d ≠ 0) (hl : ∀ col, Fresh col V → X col V → ∃ col', Cn d col V col' V' ∧ X' col' V') : J w (X2 X' Y) V' := by
  obtain ⟨col, h1, h2, h3⟩ := h
  obtain ⟨col', hC, h4⟩ := hl col h1.fr h2
  exact ⟨col', h1.go hC hd, h4, hY _ _ _ _ hC.2.2 hC.1 h3⟩
theorem J.swap (h : J w (X2 X Y) V) : J w (X2 Y X) V := by
  obtain ⟨col, h1, h2, h3⟩ := h
  exact ⟨col, h1, h3, h2⟩
/-- a box of a call -/
theorem j_box (h : J w X V) (hX : St 9 X) (o : Oq) : J w (X2 (XB V.heap.size o) X) (V.alloc (.cells (cO o) 31)) := by
  obtain ⟨col, h1, h2⟩ := h
  have hB := al0 V (.cells (cO o) 31)
  exact ⟨col, h1.go (Cn.below (c := 9) h1.fr hB) (by decide), ⟨o4_new V o, h1.fr _ (Nat.le_refl _)⟩, hX _ _ _ _ (Chg.of_below col 9 hB) (Ext.refl _ _) h2⟩
/-- .. beside two things -/
theorem j_bx (h : J w (X2 X Y) V) (hX : St 9 (X2 X Y)) (o : Oq) : J w (X2 X (X2 (XB V.heap.size o) Y)) (V.alloc (.cells (cO o) 31)) := by
  obtain ⟨col, a, b, c, d⟩ := j_box h hX o
  exact ⟨col, a, c, b, d⟩
theorem j_unbx (h : J w (X2 X (X2 X' Y)) V) : J w (X2 X Y) V := by
  obtain ⟨col, a, b, c, d⟩ := h
  exact ⟨col, a, b, d⟩
theorem j_o4 (h : J w (X2 X (X2 (XB B o) Y)) V) : O4 B 0 o V := by
  obtain ⟨col, h1, h2, h3, h4⟩ := h
  exact h3.1
theorem j_new (w : World) : J w (X2 (XS (w.heap.size + 1) P0) XT) (newS w) := by
  obtain ⟨hA, hC⟩ := at_new (col := fun _ => 0) (c := 1) w (fun _ _ => rfl)
  exact ⟨_, ⟨hC.2.1, fun k hk => if_neg (by omega), hC.2.2.below (Nat.le_refl _) (fun k _ => (by decide : (0 : Nat) ≠ 1))⟩, hA, trivial⟩
theorem st9 (hY : St 9 Y) : St 9 (X2 (XS p S) Y) := st_X2 (st_XS (by decide)) hY
theorem j_prepare (h : J w (X2 (XS p S) Y) V) (hY : St 1 Y) (hok : S.ok) (hn : S.os.length ≤ 1000) (ho : kOp o) : Calls Try.prog 8 #[.pointer (some ⟨p, 0, none⟩), .int .u64 o.tx, .int .u64 o.t, .int .i64 o.ms] V fun e w' =>
    e = .returned (.tuple #[.int .u64 (prT S o.tx o.t o.ms), .int .i64 (prE S o.tx o.t o.ms)]) ∧ J w (X2 (XS p (prS S o.tx o.t o.ms)) Y) w' := by
  obtain ⟨col, hl, hS, hy⟩ := h
  refine (prepare_at V hS hl.fr hok hn ho.x0 ho.x1 ho.t0 (by have := ho.t1; omega)).mono ?_
  rintro e w' ⟨he, col', hC, hS'⟩
  exact ⟨he, col', hl.go hC (by decide), hS', hY _ _ _ _ hC.2.2 hC.1 hy⟩
theorem j_commit (h : J w (X2 (XS p S) Y) V) (hY : St 1 Y) (hok : S.ok) (ho : kOp o) : Calls Try.prog 10 #[.pointer (some ⟨p, 0, none⟩), .int .u64 o.tx, .int .u64 o.t, .int .i64 o.ms] V fun e w' =>
    e = .returned (.int .i64 (coE S o.tx o.t o.ms)) ∧ J w (X2 (XS p (coS S o.tx o.t o.ms)) Y) w' := by
  obtain ⟨col, hl, hS, hy⟩ := h
  refine (commit_at V hS hl.fr hok ho.x0 ho.x1 ho.t0 (by have := ho.t1; omega)).mono ?_
  rintro e w' ⟨he, col', hC, hS'⟩
  exact ⟨he, col', hl.go hC (by decide), hS', hY _ _ _ _ hC.2.2 hC.1 hy⟩
theorem j_stable (h : J w (X2 (XS p S) Y) V) (hY : St 1 Y) (hok : S.ok) (ms : Int) : Calls Try.prog 12 #[.pointer (some ⟨p, 0, none⟩), .int .i64 ms] V fun e w' =>
    e = .returned (.tuple #[.int .u64 (sbT S ms), .int .i64 (sbE ms)]) ∧ J w (X2 (XS p (sbS S ms)) Y) w' := by
  obtain ⟨col, hl, hS, hy⟩ := h
  refine (stable_at V hS hl.fr hok ms).mono ?_
  rintro e w' ⟨he, col', hC, hS'⟩
  exact ⟨he, col', hl.go hC (by decide), hS', hY _ _ _ _ hC.2.2 hC.1 hy⟩
theorem j_see (h : J w (X2 (XS p S) Y) V) (hY : St 1 Y) (t : Int) : Calls Try.prog 14 #[.pointer (some ⟨p, 0, none⟩), .int .u64 t] V fun e w' =>
    e = .returned (.tuple #[]) ∧ J w (X2 (XS p (seS S t)) Y) w' := by
  obtain ⟨col, hl, hS, hy⟩ := h
  refine (see_at V hS hl.fr t).mono ?_
  rintro e w' ⟨he, col', hC, hS'⟩
  exact ⟨he, col', hl.go hC (by decide), hS', hY _ _ _ _ hC.2.2 hC.1 hy⟩
theorem j_clock (h : J w (X2 (XS p S) Y) V) : Calls Try.prog 17 #[.pointer (some ⟨p, 0, none⟩)] V fun e w' => e = .returned (.int .u64 S.ck) ∧ V = w' := by
  obtain ⟨col, hl, hS, hy⟩ := h
  exact clock_at V hS
theorem j_open (h : J w (X2 (XS p S) Y) V) : Calls Try.prog 16 #[.pointer (some ⟨p, 0, none⟩)] V fun e w' => e = .returned (.int .i64 (S.os.length : Int)) ∧ V = w' := by
  obtain ⟨col, hl, hS, hy⟩ := h
  exact open_at V hS
end
theorem rs_at {A : Option Addr} {n : Nat} {l : List Oq} {w : World} (h : Rs w A n l) (j : Nat) (hj : j < n) : ∃ b off, A = some ⟨b, off, none⟩ ∧ b < w.heap.size ∧ QOp w b (off + j * 4) (nt l j) := by
  rcases h.2 with h0 | ⟨b, off, e, h3, h4⟩
  · omega
  · exact ⟨b, off, e, h3, h4 j hj⟩
theorem rs_t {A : Option Addr} {n : Nat} {l : List Oq} {w : World} (h : Rs w A n l) (i : Nat) (hi : i < n) : (nt l i).t ≤ 18446744073709551615 := by
  obtain ⟨b, off, _, _, _, hk⟩ := rs_at h i hi
  have := hk.t1
  omega
theorem o4_step {b o B : Nat} {q : Oq} {w w1 : World} (h : O4 b o q w) (hB : Below B w w1) (hs : w.heap.size ≤ B) : O4 b o q w1 := o4_of h (hB.block b (by have := o4_lt h; omega))
end Go.Proofs.Yteelndiiennhkaa.ptJ
