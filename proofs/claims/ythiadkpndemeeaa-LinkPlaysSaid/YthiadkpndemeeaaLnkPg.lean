/- The two ends side by side: each call of the one and the other. -/
import Derived.Test.YthiadkpndemeeaaLnkPf
import Derived.Test.YthiadkpndemeeaaLnkPo
import Derived.Test.YthiadkpndemeeaaLnkM
import Derived.Test.YthiadkpndemeeaaLnkZ
namespace Go.Proofs.Ythiadkpndemeeaa.lnkPg
open Go.ChangeShapes Go.WideShapes Go.ChangeAt Go.RowKit Go.Deep
open numM rowA byt numA numB numC lnkA lnkB lnkC lnkD lnkE lnkF lnkG lnkH lnkI lnkL lnkQ lnkR lnkS lnkT lnkZ lnkPa lnkPb lnkPc lnkPd lnkPe lnkPf

/-! ### An operation's six cells -/
def cO (k : Int) (f : Fm) (A : Option Addr) (c : Nat) : Array Value := #[.int .i64 k, .int .i64 f.v, .int .i64 f.e, .int .i64 f.s, .int .i64 f.a, .slice A f.body.length c]
def OB (w : World) (o : Nat) (k : Int) (f : Fm) (A : Option Addr) (c : Nat) : Prop := w.rowIs o 33 6 (fun i => (cO k f A c).getD i undef)
theorem OB.cells {w : World} {o : Nat} {k : Int} {f : Fm} {A : Option Addr} {c : Nat} (h : OB w o k f A c) :
    w.cell? ⟨o, 0, none⟩ = some (.int .i64 k) ∧ w.cell? ⟨o, 1, none⟩ = some (.int .i64 f.v) ∧ w.cell? ⟨o, 2, none⟩ = some (.int .i64 f.e) ∧ w.cell? ⟨o, 3, none⟩ = some (.int .i64 f.s) ∧ w.cell? ⟨o, 4, none⟩ = some (.int .i64 f.a) ∧ w.cell? ⟨o, 5, none⟩ = some (.slice A f.body.length c) :=
  ⟨World.rowIs.cell h (i := 0) (by omega), World.rowIs.cell h (i := 1) (by omega), World.rowIs.cell h (i := 2) (by omega), World.rowIs.cell h (i := 3) (by omega), World.rowIs.cell h (i := 4) (by omega), World.rowIs.cell h (i := 5) (by omega)⟩
theorem OB.below {w w1 : World} {o : Nat} {k : Int} {f : Fm} {A : Option Addr} {c : Nat} (h : OB w o k f A c) (hB : Below w.heap.size w w1) : OB w1 o k f A c := World.rowIs.of_block h (hB.block o (World.rowIs.lt h))
theorem OB.chg {w w1 : World} {o d : Nat} {k : Int} {f : Fm} {A : Option Addr} {c : Nat} {col : Nat → Nat} (h : OB w o k f A c) (hg : Chg col d w w1) (hb : col o ≠ d) : OB w1 o k f A c := World.rowIs.of_block h (hg.block o (World.rowIs.lt h) hb)

section
variable {col : Nat → Nat} {K : Nat → Prop} {w0 w W W' : World} {p q : Nat} {s : St} {d : Dm} {vs vc : Value} {xs : List Value} {css : List (List Value)} {o : Nat} {k : Int} {f : Fm} {A : Option Addr} {c : Nat} {ls : List (List Nat)}
/-- the two ends, and the operation in its block -/
structure OxIs (col : Nat → Nat) (K : Nat → Prop) (w0 W : World) (p q : Nat) (s : St) (d : Dm) (vs vc : Value) (xs : List Value) (css : List (List Value)) (o : Nat) (k : Int) (f : Fm) (A : Option Addr) (c : Nat) : Prop where
  pl : PlIs col K w0 W p q s d vs vc xs css
  co : col o = 0
  ob : OB W o k f A c
def Ox (K : Nat → Prop) (w0 W : World) (p q : Nat) (s : St) (d : Dm) (o : Nat) (k : Int) (f : Fm) (A : Option Addr) (c : Nat) : Prop := ∃ col vs vc xs css, OxIs col K w0 W p q s d vs vc xs css o k f A c
theorem Ox.below (h : Ox K w0 W p q s d o k f A c) (hB : Below W.heap.size W W') : Ox K w0 W' p q s d o k f A c := by
  obtain ⟨col, vs, vc, xs, css, h⟩ := h
  exact ⟨col, vs, vc, xs, css, h.pl.below hB, h.co, h.ob.below hB⟩
theorem Ox.at_ (h : Ox K w0 W p q s d o k f A c) : PlAt K w0 W p q s d := by
  obtain ⟨col, vs, vc, xs, css, h⟩ := h
  exact ⟨col, vs, vc, xs, css, h.pl⟩
theorem Ox.ob (h : Ox K w0 W p q s d o k f A c) : OB W o k f A c := by
  obtain ⟨col, vs, vc, xs, css, h⟩ := h
  exact h.ob
/-- The program's Send. -/
theorem send_o (B : Option Addr) (cap : Nat) (l : List Nat) (h : Ox K w0 W p q s d o k f A c) (hb : BL W B l.length l) (hcn : s.cnt < 1000000) :
    Calls Try.prog 12 #[.pointer (some ⟨p, 0, none⟩), .slice B l.length cap] W fun e w' => e = .returned (.int .i64 (sendE s l)) ∧ Ox K w0 w' p q (sendS s l) d o k f A c := by
  obtain ⟨col, vs, vc, xs, css, h⟩ := h
  refine (send_any B cap l W h.pl.a hb (by decide) h.pl.fresh hcn).mono ?_
  rintro e w' ⟨he, col', hx, hf, hg, ha⟩
  exact ⟨he, col', vs, vc, xs, css, h.pl.setA hg hx hf ha, (hx o (World.rowIs.lt h.ob)).trans h.co, h.ob.chg hg (by rw [h.co]; decide)⟩

/-! ### Lists of bodies that lie at color 0 -/
def LK (col : Nat → Nat) (w : World) (A : Option Addr) (n : Nat) (ls : List (List Nat)) : Prop := n ≤ 9223372036854775807 ∧ ∀ i, i < n → ∃ b off B c, A = some ⟨b, off, none⟩ ∧ col b = 0 ∧ w.cell? ⟨b, off + i, none⟩ = some (.slice B (lth ls i).length c) ∧ BL w B (lth ls i).length (lth ls i) ∧ ((lth ls i).length = 0 ∨ ∀ y, B = some y → col y.block = 0)
theorem LK.keep {n : Nat} (h : LK col W A n ls) (hK : Kp (fun i => col i = 0) W W') : LQ W' A n ls := by
  refine ⟨h.1, fun i hi => ?_⟩
  obtain ⟨b, off, B, c, rfl, h1, h2, h3, h4⟩ := h.2 i hi
  exact ⟨b, off, B, c, rfl, by rw [World.cell?_of_block (a := ⟨b, off + i, none⟩) (hK.block b (World.block_lt_of_cell? _ _ h2) h1)]; exact h2, hK.bl h3 h4⟩
theorem LK.of {base n : Nat} {v : Value} {us : List Value} (h : W.ownsRow base 29 1 v n us) (hd : Dats col W us ls) (hn : n ≤ 9223372036854775807) (hb : ∀ k, base ≤ k → col k = 0) : ∃ A c, v = .slice A n c ∧ LK col W A n ls := by
  have hl : us.length = n := by have := h.1; omega
  have hlt := h.lt
  rcases h.2 with ⟨rfl, rfl⟩ | ⟨g, cap, cur, rfl, _⟩
  · exact ⟨none, 0, rfl, by omega, fun i hi => by omega⟩
  · refine ⟨_, cap, rfl, hn, fun i hi => ?_⟩
    obtain ⟨u, hu, B, c, rfl, hbl, hy⟩ := hd.get (i := i) (by rw [← hd.len]; omega)
    have := h.cells (g := g) rfl i _ hu
    rw [add_plain] at this
    exact ⟨g, 0, B, c, rfl, hb _ (hlt g rfl).1, this, hbl, hy.imp id (fun hy y e => (hy y e).1)⟩
/-- The program's In: what it answers lies where the other one doesn't write. -/
theorem in_o (B : Option Addr) (cap : Nat) (f' : Fm) (h : Ox K w0 W p q s d o k f A c) (hb : BL w0 B f'.body.length f'.body) (hA : f'.body.length = 0 ∨ ∀ y, B = some y → y.block < w0.heap.size ∧ K y.block) (hl : f'.body.length ≤ 1048576) (hcn : s.cnt + 2 ≤ 1000000) (hs9 : f'.s ≤ 9223372036854775807) (hL : (inL s f').length ≤ 100) :
    Calls Try.prog 14 #[.pointer (some ⟨p, 0, none⟩), .agg (cf f' B cap)] W fun e w' => ∃ A9 c9 col vs vc xs css, e = .returned (.tuple #[.slice A9 (inL s f').length c9, .int .i64 (inE s f')]) ∧ OxIs col K w0 w' p q (inS s f') d vs vc xs css o k f A c ∧ LK col w' A9 (inL s f').length (inL s f') := by
  obtain ⟨col, vs, vc, xs, css, h⟩ := h
  have hbW : BL W B f'.body.length f'.body := h.pl.bel.bl hb (hA.imp id (fun hA y e => (hA y e).2))
  refine (in_any0 f' B cap W h.pl.a hbW (by omega) (hA.imp id (fun hA y e => by rw [h.pl.zero _ (hA y e).1 (hA y e).2]; decide)) (by decide) h.pl.fresh hcn hs9).mono ?_
  rintro e w' ⟨b, us, he, h1, h2, h3, h4⟩
  obtain ⟨A9, c9, rfl, hk⟩ := LK.of h1 h2 (by omega) h.pl.fresh
  exact ⟨A9, c9, col, vs, vc, xs, css, he, ⟨h.pl.setA h3 (Ext.refl _ _) (h.pl.fresh.size h3.size) h4, h.co, h.ob.chg h3 (by rw [h.co]; decide)⟩, hk⟩
theorem PlIs.rebase (h : PlIs col K w0 W p q s d vs vc xs css) : PlIs col (fun i => col i = 0) W W p q s d vs vc xs css := ⟨h.a, h.b, h.fresh, Kp.refl _ _, fun _ _ hK => hK⟩
theorem PlIs.back {s' : St} {d' : Dm} (h : PlIs col K w0 W p q s d vs vc xs css) (h2 : PlAt (fun i => col i = 0) W W' p q s' d') : Kp (fun i => col i = 0) W W' ∧ ∃ col' vs' vc' xs' css', PlIs col' K w0 W' p q s' d' vs' vc' xs' css' ∧ ∀ i, i < W.heap.size → col i = 0 → col' i = 0 := by
  obtain ⟨col', vs', vc', xs', css', h2⟩ := h2
  refine ⟨h2.bel, col', vs', vc', xs', css', ⟨h2.a, h2.b, h2.fresh, ⟨h2.bel.os.trans h.bel.os, h2.bel.tape.trans h.bel.tape, h2.bel.output.trans h.bel.output, Nat.le_trans h.bel.size h2.bel.size, fun i hi hK => ?_⟩, fun i hi hK => ?_⟩, h2.zero⟩
  · exact (h2.bel.block i (Nat.lt_of_lt_of_le hi h.bel.size) (h.zero i hi hK)).trans (h.bel.block i hi hK)
  · exact h2.zero i (Nat.lt_of_lt_of_le hi h.bel.size) (h.zero i hi hK)
theorem OxIs.back {s' : St} {d' : Dm} (h : OxIs col K w0 W p q s d vs vc xs css o k f A c) (h2 : PlAt (fun i => col i = 0) W W' p q s' d') : Kp (fun i => col i = 0) W W' ∧ Ox K w0 W' p q s' d' o k f A c := by
  obtain ⟨hK, col', vs', vc', xs', css', h3, h4⟩ := PlIs.back h.pl h2
  have hlt := World.rowIs.lt h.ob
  exact ⟨hK, col', vs', vc', xs', css', h3, h4 o hlt h.co, World.rowIs.of_block h.ob (hK.block o hlt h.co)⟩
/-- The document's Send. -/
theorem sendd_o (B : Option Addr) (cap : Nat) (l : List Nat) (h : Ox K w0 W p q s d o k f A c) (hb : BL W B l.length l) (hsl : d.sent.length < 100000) {E : Nat} (hE : sendE' d l = E) :
    Calls Try.prog 13 #[.pointer (some ⟨q, 0, none⟩), .slice B l.length cap] W fun e w' => e = .returned (.int .i64 E) ∧ Ox K w0 w' p q s (sendD d l) o k f A c := by
  obtain ⟨col, vs, vc, xs, css, h⟩ := h
  refine (sendd_any (K := fun i => col i = 0) (w0 := W) B cap l W ⟨col, vs, vc, xs, css, PlIs.rebase h.pl⟩ hb hsl).mono ?_
  rintro e w' ⟨he, h2⟩
  exact ⟨by rw [he, hE], (OxIs.back h h2).2⟩
/-- The document's In, of any frame. -/
theorem ind_any (ls : List (List Nat)) (f : Fm) (A : Option Addr) (cap : Nat) (w : World) (h : PlAt K w0 w p q s d) (hb : BL w0 A f.body.length f.body) (hA : f.body.length = 0 ∨ ∀ y, A = some y → K y.block) (hcl : d.came.length < 100000) (hgl : d.got ≤ 900000) (hs9 : f.s ≤ 9223372036854775807) (hbl : f.body.length ≤ 1048576) (h17 : ls.length ≤ 17)
    (hround : f.e = d.ep → ¬ (f.s < 0 ∨ f.a < 0 ∨ (lastD d : Int) < f.a) → (d.got : Int) < f.s → f.s ≤ d.got + 16 → (∀ i, i < ls.length → keptD (gotD (keepD (ackD d f.a) f.s.toNat f.body) i) (d.got + i + 1) = some (lth ls i)) ∧ keptD (gotD (keepD (ackD d f.a) f.s.toNat f.body) ls.length) (d.got + ls.length + 1) = none) :
    Calls Try.prog 15 #[.pointer (some ⟨q, 0, none⟩), .agg (cf f A cap)] w (InnedD K w0 p q s d f ls) := by
  by_cases h1 : f.e = d.ep
  · by_cases h2 : f.s < 0 ∨ f.a < 0 ∨ (lastD d : Int) < f.a
    · exact ind_arg ls f A cap w h h1 h2
    · exact ind_rest ls f A cap w h hb hA hcl hgl hs9 hbl h17 h1 h2 (fun g1 g2 => (hround h1 h2 g1 g2).1) (fun g1 g2 => (hround h1 h2 g1 g2).2)
  · exact ind_kind ls f A cap w h h1
/-- The document's In beside an operation in its block, and beside what the other one answered. -/
theorem ind_o (ls : List (List Nat)) (f' : Fm) (B : Option Addr) (cap : Nat) (h : OxIs col K w0 W p q s d vs vc xs css o k f A c) (hb : BL w0 B f'.body.length f'.body) (hA : f'.body.length = 0 ∨ ∀ y, B = some y → y.block < w0.heap.size ∧ K y.block) (hcl : d.came.length < 100000) (hgl : d.got ≤ 900000) (hs9 : f'.s ≤ 9223372036854775807) (hbl : f'.body.length ≤ 1048576) (h17 : ls.length ≤ 17)
    (hround : f'.e = d.ep → ¬ (f'.s < 0 ∨ f'.a < 0 ∨ (lastD d : Int) < f'.a) → (d.got : Int) < f'.s → f'.s ≤ d.got + 16 → (∀ i, i < ls.length → keptD (gotD (keepD (ackD d f'.a) f'.s.toNat f'.body) i) (d.got + i + 1) = some (lth ls i)) ∧ keptD (gotD (keepD (ackD d f'.a) f'.s.toNat f'.body) ls.length) (d.got + ls.length + 1) = none)
    {Z : List (List Nat)} (hZ : inL' d f' ls = Z) {E : Nat} (hE : inE' d f' = E) :
    Calls Try.prog 15 #[.pointer (some ⟨q, 0, none⟩), .agg (cf f' B cap)] W fun e w' => ∃ A8 c8, e = .returned (.tuple #[.slice A8 Z.length c8, .int .i64 E]) ∧ LQ w' A8 Z.length Z ∧ Kp (fun i => col i = 0) W w' ∧ Ox K w0 w' p q s (inD d f' ls.length) o k f A c := by
  subst hZ hE
  refine (ind_any (K := fun i => col i = 0) (w0 := W) ls f' B cap W ⟨col, vs, vc, xs, css, PlIs.rebase h.pl⟩ (h.pl.bel.bl hb (hA.imp id (fun hA y e => (hA y e).2))) (hA.imp id (fun hA y e => h.pl.zero _ (hA y e).1 (hA y e).2)) hcl hgl hs9 hbl h17 hround).mono ?_
  rintro e w' ⟨A8, c8, he, hq, h2⟩
  obtain ⟨h3, h4⟩ := OxIs.back h h2
  exact ⟨A8, c8, he, hq, h3, h4⟩
theorem ox_new (h : PlAt K w0 w p q s d) (k : Int) (f : Fm) (A : Option Addr) (c : Nat) :
    Ox K w0 (w.alloc (.cells #[.int .i64 k, .int .i64 f.v, .int .i64 f.e, .int .i64 f.s, .int .i64 f.a, .slice A f.body.length c] 33)) p q s d w.heap.size k f A c := by
  obtain ⟨col, vs, vc, xs, css, hI⟩ := h
  refine ⟨col, vs, vc, xs, css, hI.below (al0 _ _), hI.fresh _ (Nat.le_refl _), ?_⟩
  have h := World.rowIs_alloc w (cO k f A c) 33 (fun i => (cO k f A c).getD i undef) (fun i hi => ?_)
  · exact h
  · have : i = 0 ∨ i = 1 ∨ i = 2 ∨ i = 3 ∨ i = 4 ∨ i = 5 := by simp [cO] at hi; omega
    rcases this with rfl | rfl | rfl | rfl | rfl | rfl <;> rfl
theorem takeL_len (s : St) (n : Nat) : (takeL s n).length = n := by unfold takeL; simp
theorem turnL_len (s : St) : (turnL s).length = turnN s := takeL_len s _
/-- In of the one and of the other. -/
theorem rel_in (h : Rel s d) (f : Fm) : ∃ ls : List (List Nat), ls.length ≤ 17 ∧ (f.e = d.ep → ¬ (f.s < 0 ∨ f.a < 0 ∨ (lastD d : Int) < f.a) → (d.got : Int) < f.s → f.s ≤ d.got + 16 → (∀ i, i < ls.length → keptD (gotD (keepD (ackD d f.a) f.s.toNat f.body) i) (d.got + i + 1) = some (lth ls i)) ∧ keptD (gotD (keepD (ackD d f.a) f.s.toNat f.body) ls.length) (d.got + ls.length + 1) = none) ∧
    inL s f = inL' d f ls ∧ Rel (inS s f) (inD d f ls.length) := by
  have hl := h.last
  have hI := h.inn f
  have hLs : inL s f = inL' d f (turnL (keepS (ackS s f.a) f.s.toNat f.body)) := by
    unfold inL inL'
    rw [h.ep, h.got, show ((lastD d : Nat) : Int) = (s.acked : Int) + outN s by omega]
  by_cases hc : f.e = d.ep ∧ ¬ (f.s < 0 ∨ f.a < 0 ∨ (lastD d : Int) < f.a) ∧ (d.got : Int) < f.s ∧ f.s ≤ d.got + 16
  · obtain ⟨c1, c2, c3, c4⟩ := hc
    have hg := (ack_got s f.a).1
    have ha := h.ack (a := f.a) (by omega)
    have hr := ha.keep (q := f.s.toNat) f.body (by rw [hg, ← h.got]; omega) (by rw [hg, ← h.got]; omega)
    have hgd : (keepD (ackD d f.a) f.s.toNat f.body).got = d.got := by
      unfold keepD ackD
      split <;> split <;> rfl
    refine ⟨turnL (keepS (ackS s f.a) f.s.toNat f.body), by rw [turnL_len]; have := hr.turn_lt; omega, fun _ _ _ _ => ⟨fun i hi => ?_, ?_⟩, hLs, by rw [turnL_len]; exact hI⟩
    · rw [turnL_len] at hi
      have := hr.turn_kept hi
      rw [hgd] at this; exact this
    · have := hr.turn_end
      rw [hgd] at this
      rw [turnL_len]; exact this
  · have hx : inD d f 0 = inD d f (turnN (keepS (ackS s f.a) f.s.toNat f.body)) ∧ inL' d f [] = inL' d f (turnL (keepS (ackS s f.a) f.s.toNat f.body)) := by
      unfold inD inL'
      by_cases c1 : f.e ≠ d.ep
      · simp only [if_pos c1, and_self]
      simp only [if_neg c1]
      by_cases c2 : f.s < 0 ∨ f.a < 0 ∨ (lastD d : Int) < f.a
      · simp only [if_pos c2, and_self]
      simp only [if_neg c2]
      by_cases c3 : f.s ≤ d.got
      · simp only [if_pos c3, and_self]
      simp only [if_neg c3]
      have c4 : 16 < f.s - d.got := by
        by_cases e : 16 < f.s - d.got
        · exact e
        · exact absurd ⟨by omega, c2, by omega, by omega⟩ hc
      simp only [if_pos c4, and_self]
    exact ⟨[], by simp, fun a1 a2 a3 a4 => absurd ⟨a1, a2, a3, a4⟩ hc, by rw [hLs, hx.2], by show Rel _ (inD d f 0); rw [hx.1]; exact hI⟩
end
end Go.Proofs.Ythiadkpndemeeaa.lnkPg
