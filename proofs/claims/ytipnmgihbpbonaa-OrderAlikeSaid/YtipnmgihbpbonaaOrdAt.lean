/- Two logs side by side, and rows of commits that stay. -/
import Derived.Test.YtipnmgihbpbonaaOrdAs
set_option linter.unusedVariables false
set_option linter.unusedSimpArgs false
set_option maxRecDepth 100000
namespace Go.Proofs.Ytipnmgihbpbonaa.ordAt
open Go.ChangeShapes Go.WideShapes Go.ChangeAt Go.RowKit Go.Deep
open opV chnM gen chnA chnR chnE ordA ordB ordC ordM ordL ordD ordH ordI ordK ordRl ordW ordS ordE3 ordRi ordAm ordAs

/-- a row that stays -/
structure Row (col : Nat → Nat) (w : World) (A : Option Addr) (c : Nat) (l : List MR) : Prop where
  row : HR w A c l
  co : l = [] ∨ ∀ y, A = some y → col y.block = 0
section
variable {col col' : Nat → Nat} {c d : Nat} {w w1 : World} {A : Option Addr} {l : List MR}
theorem Row.go (h : Row col w A d l) (hg : Chg col c w w1) (hc : c ≠ 0) (he : Ext w col col') : Row col' w1 A d l := by
  by_cases h0 : l = []
  · subst h0
    exact ⟨ordF.hr_block h.row hg.size (.inl rfl), .inl rfl⟩
  · have hco := h.co.resolve_left h0
    refine ⟨ordF.hr_block h.row hg.size (.inr fun y e => hg.block _ (hr_lt h.row h0 e) (by rw [hco y e]; exact fun e => hc e.symm)), .inr fun y e => ?_⟩
    rw [he _ (hr_lt h.row h0 e)]
    exact hco y e
theorem Row.below (h : Row col w A d l) (hB : Below w.heap.size w w1) : Row col w1 A d l := h.go (Chg.of_below col 1 hB) (by omega) (Ext.refl _ _)
theorem Row.of_gr {base : Nat} (h : GR w base A d l) (hs : l.length * 48 ≤ 140737488355328) (hb : ∀ k, base ≤ k → col k = 0) : Row col w A d l := by
  refine ⟨h.hv hs, ?_⟩
  by_cases h0 : l = []
  · exact .inl h0
  · refine .inr fun y e => hb _ ?_
    rcases h.2 with ⟨e1, h2⟩ | ⟨g, cap, cur, e1, h2, _⟩
    · simp only [Value.slice.injEq] at e1; rw [e] at e1; cases e1.1
    · simp only [Value.slice.injEq] at e1; rw [e] at e1
      obtain ⟨e3, _, _⟩ := e1
      cases e3
      exact h2
end
theorem decs_ok (l : List Rc) : (decs l).ok := by
  have key : ∀ (l : List Rc) (L : Lg), L.ok → (l.foldl dS L).ok := by
    intro l
    induction l with
    | nil => intro L h; exact h
    | cons a r ih => intro L h; exact ih _ (ok_dS h a)
  exact key l L0 ok0
/-- two logs -/
def P4 (w : World) (p q : Nat) (X Y : Lg) (wr : World) : Prop :=
  ∃ col, LogAt T1 col 1 wr p X ∧ LogAt T1 col 2 wr q Y ∧ Fresh col wr ∧ (∀ k, k < w.heap.size → col k = 0) ∧ Below w.heap.size w wr
/-- .. and two rows -/
def P3 (w : World) (p q : Nat) (X Y : Lg) (A : Option Addr) (c : Nat) (rs : List MR) (B : Option Addr) (d : Nat) (m : List MR) (wr : World) : Prop :=
  ∃ col, LogAt T1 col 1 wr p X ∧ LogAt T1 col 2 wr q Y ∧ Fresh col wr ∧ (∀ k, k < w.heap.size → col k = 0) ∧ Below w.heap.size w wr ∧ Row col wr A c rs ∧ Row col wr B d m
section
variable {w wr w1 : World} {p q c d : Nat} {X Y : Lg} {A B : Option Addr} {rs m : List MR}
theorem P4.below (h : P4 w p q X Y wr) (hB : Below wr.heap.size wr w1) : P4 w p q X Y w1 := by
  obtain ⟨col, h1, h2, h3, h4, h5⟩ := h
  exact ⟨col, h1.below hB, h2.below hB, h3.up hB.size, h4, trans0 h5 hB⟩
theorem P3.p4 (h : P3 w p q X Y A c rs B d m wr) : P4 w p q X Y wr := by
  obtain ⟨col, h1, h2, h3, h4, h5, _, _⟩ := h
  exact ⟨col, h1, h2, h3, h4, h5⟩
theorem P3.rows (h : P3 w p q X Y A c rs B d m wr) : HR wr A c rs ∧ HR wr B d m ∧ Below w.heap.size w wr := by
  obtain ⟨col, h1, h2, h3, h4, h5, h6, h7⟩ := h
  exact ⟨h6.row, h7.row, h5⟩
theorem P3.deca (h : P3 w p q X Y A c rs B d m wr) (hX : X.ok) (hl : X.st.length + X.wt.length ≤ 90) (x : MR) (hv : HV wr x.A x.c x.vs) (hs : Sm x.vs) :
    Calls Try.prog 9 #[.pointer (some ⟨p, 0, none⟩), rv x] wr fun e w' => e = .returned (.int .i64 (dE X x.r)) ∧ P3 w p q (dS X x.r) Y A c rs B d m w' := by
  obtain ⟨col, h1, h2, h3, h4, h5, h6, h7⟩ := h
  refine (decide_at wr h1 hX (by omega) h3 x hv hs hl).mono ?_
  rintro e w' ⟨rfl, col', ⟨g1, g2, g3⟩, hL⟩
  exact ⟨rfl, col', hL, h2.other g3 (by omega) (by omega) g1, g2, fun k hk => by rw [g1 k (Nat.lt_of_lt_of_le hk h5.size)]; exact h4 k hk, h5.trans (g3.below h5.size (fun k hk => by rw [h4 k hk]; omega)), h6.go g3 (by omega) g1, h7.go g3 (by omega) g1⟩
theorem P3.decb (h : P3 w p q X Y A c rs B d m wr) (hY : Y.ok) (hl : Y.st.length + Y.wt.length ≤ 90) (x : MR) (hv : HV wr x.A x.c x.vs) (hs : Sm x.vs) :
    Calls Try.prog 9 #[.pointer (some ⟨q, 0, none⟩), rv x] wr fun e w' => e = .returned (.int .i64 (dE Y x.r)) ∧ P3 w p q X (dS Y x.r) A c rs B d m w' := by
  obtain ⟨col, h1, h2, h3, h4, h5, h6, h7⟩ := h
  refine (decide_at wr h2 hY (by omega) h3 x hv hs hl).mono ?_
  rintro e w' ⟨rfl, col', ⟨g1, g2, g3⟩, hL⟩
  exact ⟨rfl, col', h1.other g3 (by omega) (by omega) g1, hL, g2, fun k hk => by rw [g1 k (Nat.lt_of_lt_of_le hk h5.size)]; exact h4 k hk, h5.trans (g3.below h5.size (fun k hk => by rw [h4 k hk]; omega)), h6.go g3 (by omega) g1, h7.go g3 (by omega) g1⟩
theorem P4.rela (h : P4 w p q X Y wr) (hX : X.ok) (hl : X.st.length + X.wt.length ≤ 90) (t : Int) :
    Calls Try.prog 12 #[.pointer (some ⟨p, 0, none⟩), .int .u64 t] wr fun e w' => e = .returned (.int .i64 (cnt X t)) ∧ P4 w p q (rS X t) Y w' := by
  obtain ⟨col, h1, h2, h3, h4, h5⟩ := h
  refine (release_at wr h1 hX (by omega) h3 t hl).mono ?_
  rintro e w' ⟨rfl, col', ⟨g1, g2, g3⟩, hL⟩
  exact ⟨rfl, col', hL, h2.other g3 (by omega) (by omega) g1, g2, fun k hk => by rw [g1 k (Nat.lt_of_lt_of_le hk h5.size)]; exact h4 k hk, h5.trans (g3.below h5.size (fun k hk => by rw [h4 k hk]; omega))⟩
theorem P4.relb (h : P4 w p q X Y wr) (hY : Y.ok) (hl : Y.st.length + Y.wt.length ≤ 90) (t : Int) :
    Calls Try.prog 12 #[.pointer (some ⟨q, 0, none⟩), .int .u64 t] wr fun e w' => e = .returned (.int .i64 (cnt Y t)) ∧ P4 w p q X (rS Y t) w' := by
  obtain ⟨col, h1, h2, h3, h4, h5⟩ := h
  refine (release_at wr h2 hY (by omega) h3 t hl).mono ?_
  rintro e w' ⟨rfl, col', ⟨g1, g2, g3⟩, hL⟩
  exact ⟨rfl, col', h1.other g3 (by omega) (by omega) g1, hL, g2, fun k hk => by rw [g1 k (Nat.lt_of_lt_of_le hk h5.size)]; exact h4 k hk, h5.trans (g3.below h5.size (fun k hk => by rw [h4 k hk]; omega))⟩
theorem P4.waita (h : P4 w p q X Y wr) : Calls Try.prog 15 #[.pointer (some ⟨p, 0, none⟩)] wr fun e w' => e = .returned (.int .i64 X.wt.length) ∧ wr = w' := by
  obtain ⟨col, h1, h2, h3, h4, h5⟩ := h
  exact waiting_at wr h1
theorem P4.waitb (h : P4 w p q X Y wr) : Calls Try.prog 15 #[.pointer (some ⟨q, 0, none⟩)] wr fun e w' => e = .returned (.int .i64 Y.wt.length) ∧ wr = w' := by
  obtain ⟨col, h1, h2, h3, h4, h5⟩ := h
  exact waiting_at wr h2
/-- a row that was gathered, and may be read -/
theorem got_rr2 {base : Nat} {l : List MR} (h : Got base A c l wr) (hl : l.length ≤ 200) : RR2 wr A c l := ⟨h.row.hv (by omega), fun m hm => (h.vs m hm).1.hv (h.vs m hm).2.1⟩
theorem P4.staba (h : P4 w p q X Y wr) (hl : X.st.length ≤ 200) : Calls Try.prog 19 #[.pointer (some ⟨p, 0, none⟩), .int .i64 0] wr fun e w' => ∃ A c l, e = .returned (.slice A l.length c) ∧ l.map MR.r = X.st ∧ RR2 w' A c l ∧ P4 w p q X Y w' := by
  obtain ⟨col, h1, h2, h3, h4, h5⟩ := id h
  refine (stable_any 0 wr h1 (by omega) (by omega)).mono ?_
  rintro e w' ⟨A, c, l, rfl, hm, hG, hB⟩
  have hm' : l.map MR.r = X.st := hm
  exact ⟨A, c, l, rfl, hm', got_rr2 hG (by rw [← hm', List.length_map] at hl; exact hl), h.below hB⟩
theorem P4.stabb (h : P4 w p q X Y wr) (hl : Y.st.length ≤ 200) : Calls Try.prog 19 #[.pointer (some ⟨q, 0, none⟩), .int .i64 0] wr fun e w' => ∃ A c l, e = .returned (.slice A l.length c) ∧ l.map MR.r = Y.st ∧ RR2 w' A c l ∧ P4 w p q X Y w' ∧ Below wr.heap.size wr w' := by
  obtain ⟨col, h1, h2, h3, h4, h5⟩ := id h
  refine (stable_any 0 wr h2 (by omega) (by omega)).mono ?_
  rintro e w' ⟨A, c, l, rfl, hm, hG, hB⟩
  have hm' : l.map MR.r = Y.st := hm
  exact ⟨A, c, l, rfl, hm', got_rr2 hG (by rw [← hm', List.length_map] at hl; exact hl), h.below hB, hB⟩
theorem P4.bel (h : P4 w p q X Y wr) : Below w.heap.size w wr := by obtain ⟨col, h1, h2, h3, h4, h5⟩ := h; exact h5
end
/-- two new logs -/
theorem p4_new (w : World) (wr : World) (hB : Below w.heap.size w wr) : ∃ col, LogAt T1 col 1 ((wr.alloc (.cells #[.slice none 0 0, .slice none 0 0, .int .u64 0] T1)).alloc (.cells #[.slice none 0 0, .slice none 0 0, .int .u64 0] T1)) wr.heap.size L0 ∧
    LogAt T1 col 2 ((wr.alloc (.cells #[.slice none 0 0, .slice none 0 0, .int .u64 0] T1)).alloc (.cells #[.slice none 0 0, .slice none 0 0, .int .u64 0] T1)) (wr.heap.size + 1) L0 ∧
    Fresh col ((wr.alloc (.cells #[.slice none 0 0, .slice none 0 0, .int .u64 0] T1)).alloc (.cells #[.slice none 0 0, .slice none 0 0, .int .u64 0] T1)) ∧ (∀ k, k < wr.heap.size → col k = 0) := by
  obtain ⟨hA, hfA, heA⟩ := at_new (T := T1) (col := fun _ => 0) (c := 1) wr (by decide) (fun _ _ => rfl)
  obtain ⟨hC, hfC, heC⟩ := at_new (T := T1) (c := 2) (wr.alloc (.cells #[.slice none 0 0, .slice none 0 0, .int .u64 0] T1)) (by decide) hfA
  rw [World.size_alloc] at hC hfC heC
  refine ⟨_, (hA.ext heC).below (al0 _ _), hC, hfC, fun k hk => ?_⟩
  rw [heC k (by rw [World.size_alloc]; omega), heA k hk]
end Go.Proofs.Ytipnmgihbpbonaa.ordAt
