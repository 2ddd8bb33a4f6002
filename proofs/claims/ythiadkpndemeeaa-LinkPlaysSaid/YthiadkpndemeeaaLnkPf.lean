/- The document's In. -/
import Derived.Test.YthiadkpndemeeaaLnkPe
import Derived.Deep.CutRange
namespace Go.Proofs.Ythiadkpndemeeaa.lnkPf
open Go.ChangeShapes Go.WideShapes Go.ChangeAt Go.RowKit Go.Deep
open numM rowA byt numA numB numC lnkA lnkB lnkC lnkD lnkE lnkF lnkG lnkH lnkI lnkL lnkQ lnkR lnkS lnkT lnkPa lnkPb lnkPc lnkPd lnkPe

theorem infoC : (Try.prog.info? 72).map (fun i => (i.zero, i.size, i.bytes)) = some (some (.agg #[.int .i64 0, .slice none 0 0]), 2, 32) := by kernel_rfl
section
variable {col : Nat → Nat} {K : Nat → Prop} {w0 w W W' : World} {p q : Nat} {s : St} {d : Dm} {vs vc : Value} {xs ys : List Value} {css : List (List Value)} {b : Nat} {f : Fm} {A : Option Addr} {c : Nat} {v : Value} {ls : List (List Nat)}
theorem BxIs.bx (h : BxIs col K w0 W p q s d vs vc xs css b f A c) : Bx K w0 W p q s d b f A c := ⟨col, vs, vc, xs, css, h⟩
theorem BxIs.setGot (h : BxIs col K w0 W p q s d vs vc xs css b f A c) {g : Nat} (hg : g ≤ 1000000) : BxIs col K w0 (W.setCell ⟨q, 4, none⟩ (.int .i64 (g : Nat))) p q s { d with got := g } vs vc xs css b f A c := by
  obtain ⟨k1, k2, k3, k4, k5⟩ := h.pl.ok
  have hne : b ≠ q := fun e => by have := h.pl.b.cq; have := h.cb; rw [e] at this; omega
  exact ⟨h.pl.setNum { d with got := g } rfl rfl ⟨k1, k2, k3, hg, k5⟩ 4 _ (fun j hj => by
    have : j = 0 ∨ j = 1 ∨ j = 2 ∨ j = 3 ∨ j = 4 := by omega
    rcases this with rfl | rfl | rfl | rfl | rfl <;> rfl), h.cb, World.rowIs.of_block h.fr (Below.heap_setCell _ _ _ _ hne)⟩
/-- What is answered so far. -/
def OutR (col : Nat → Nat) (W : World) (v : Value) (k : Nat) (ys : List Value) (ls : List (List Nat)) : Prop := RowC col 6 W 29 1 v k ys ∧ Dats col W ys ls
theorem OutR.nil (col : Nat → Nat) (W : World) : OutR col W (.slice none 0 0) 0 [] [] := ⟨⟨World.ownsRow_nil _ _ _ 1, fun k e => by cases e⟩, trivial⟩
theorem OutR.setQ {k : Nat} (h : OutR col W v k ys ls) (hq : col q = 3) (i : Nat) (u : Value) : OutR col (W.setCell ⟨q, i, none⟩ u) v k ys ls := by
  have hg : Chg col 3 W (W.setCell ⟨q, i, none⟩ u) := (Chg.refl _ _ _).setCell (p := ⟨q, i, none⟩) hq u
  exact ⟨h.1.other hg (by decide) (Ext.refl _ _), h.2.go hg (by decide) (Ext.refl _ _)⟩
theorem grow_out {k : Nat} {u : Value} {l : List Nat} {v' : Value} {wa w3 : World} (h : BxIs col K w0 W p q s d vs vc xs css b f A c) (hr : OutR col W v k ys ls) (hu : Dat col W u l) (hB : Below W.heap.size W wa)
    (hr3 : w3.ownsRow 0 29 1 v' (k + 1) (ys ++ [u])) (hg : wa.grownBy w3 v.ownBlock) (hat : v'.ownBlock = v.ownBlock ∨ v'.ownBlock = some wa.heap.size) :
    ∃ col', BxIs col' K w0 w3 p q s d vs vc xs css b f A c ∧ OutR col' w3 v' (k + 1) (ys ++ [u]) (ls ++ [l]) := by
  have hp := h.pl.below hB
  have hgb : Chg col 99 W wa := Chg.of_below _ _ hB
  have hr2 : RowC col 6 wa 29 1 v k ys := hr.1.other hgb (by decide) (Ext.refl _ _)
  have hd2 := hr.2.go hgb (by decide) (Ext.refl _ _)
  have hu2 := hu.go hgb (by decide) (Ext.refl _ _)
  have hf2 := h.fr.below hB
  obtain ⟨e1, e2, e3, e4⟩ := app_col hp.fresh hr2.2 hg hr3 hat
  refine ⟨paintB col v' 6, ⟨⟨hp.a.other e3 (by decide) (by decide) e1, hp.b.other e3 (by decide) (by decide) (by decide) (by decide) e1, e2, hp.bel.chg e3 (fun i hi hK => by rw [hp.zero i hi hK]; decide), hp.ext0 e1⟩, (e1 b (World.rowIs.lt hf2)).trans h.cb, hf2.chg e3 (by rw [h.cb]; decide)⟩, ⟨hr3, e4⟩, (hd2.go e3 (by decide) e1).snoc (hu2.go e3 (by decide) e1)⟩
theorem take_succ (ls : List (List Nat)) {k : Nat} (h : k < ls.length) : ls.take k ++ [lth ls k] = ls.take (k + 1) := by
  rw [List.take_add_one, List.getElem?_eq_getElem h, lth_eq h]; rfl
/-- The rounds of In, at the end. -/
def Rnd (K : Nat → Prop) (w0 wr : World) (p q : Nat) (s : St) (d : Dm) (b : Nat) (f : Fm) (A : Option Addr) (c : Nat) (v : Value) (k : Nat) (ls : List (List Nat)) : Prop :=
  ∃ col vs vc xs css ys, BxIs col K w0 wr p q s (gotD d k) vs vc xs css b f A c ∧ OutR col wr v k ys (ls.take k)
theorem Rnd.start (h : Bx K w0 W p q s d b f A c) (ls : List (List Nat)) : Rnd K w0 W p q s d b f A c (.slice none 0 0) 0 ls := by
  obtain ⟨col, vs, vc, xs, css, h⟩ := h
  exact ⟨col, vs, vc, xs, css, [], h, OutR.nil _ _⟩

/-- Another body is kept. -/
theorem addC (h : BxIs col K w0 W p q s d vs vc xs css b f A c) {z : Nat} {l : List Nat} {A3 : Option Addr} {c3 : Nat} {wb : Nat} (hown : Own W wb (.slice A3 l.length c3) l.length l) (hw : ∀ k, wb ≤ k → col k = 0) {wa w3 : World} {v' : Value} (hB : Below W.heap.size W wa)
    (hr : w3.ownsRow 0 72 2 v' (d.came.length + 1) (css.flatten ++ [.int .i64 z, .slice A3 l.length c3])) (hg : wa.grownBy w3 vc.ownBlock) (hat : v'.ownBlock = vc.ownBlock ∨ v'.ownBlock = some wa.heap.size) (hcl : d.came.length < 100000) (hz : z ≤ 10000000) :
    Bx K w0 (w3.setCell ⟨q, 3, none⟩ v') p q s { d with came := d.came ++ [(z, l)] } b f A c := by
  have hd : Dat col W (.slice A3 l.length c3) l := by
    refine ⟨A3, c3, rfl, own_bl hown, .inr fun y e => ?_⟩
    subst e
    obtain ⟨A', cap', e0, _, _, _, hy, _⟩ := hown.form
    cases e0
    obtain ⟨g, rfl⟩ := hy _ rfl
    have := hown.2.2.2.lt g rfl
    exact ⟨hw _ this.1, this.2⟩
  have hf2 := h.fr.below hB
  have h2 := h.pl.below hB
  obtain ⟨e1, e2, e3, e4⟩ := app_col h2.fresh h2.b.came.2 hg hr hat
  have hx : Cm col W [.int .i64 z, .slice A3 l.length c3] (z, l) := ⟨A3, c3, rfl, hd⟩
  have hd2 := hx.go (Chg.of_below col 99 hB) (by decide) (Ext.refl _ _)
  obtain ⟨k1, k2, k3, k4, k5⟩ := h.pl.ok
  have hq : paintB col v' 5 q = 3 := (e1 q h2.b.row.lt).trans h2.b.cq
  have hb0 : paintB col v' 5 b = 0 := (e1 b (World.rowIs.lt hf2)).trans h.cb
  have hne : b ≠ q := fun e => by rw [e] at hb0; omega
  refine ⟨_, vs, v', xs, css ++ [[.int .i64 z, .slice A3 l.length c3]], h2.stored (c := 5) (by decide) e3 e1 e2 ({ d with came := d.came ++ [(z, l)] }) (h2.b.sent.other e3 (by decide) e1) (h2.b.sentd.go e3 (by decide) e1) ⟨?_, e4⟩ (Cms.app (vs2 := [_]) (ls2 := [(z, l)]) (show Cms _ _ [_] [(z, l)] from ⟨hd2.go e3 (by decide) e1, trivial⟩) (h2.b.camed.go e3 (by decide) e1)) ⟨k1, k2, ?_, k4, ?_⟩ 3 v' (fun j hj => ?_), hb0, World.rowIs.of_block (hf2.chg e3 (by rw [h.cb]; decide)) (Below.heap_setCell _ _ _ _ hne)⟩
  · rw [List.length_append, List.flatten_append]; simpa using hr
  · show (d.came ++ [(z, l)]).length ≤ 100000
    rw [List.length_append]; simp; omega
  · intro y hy
    rcases List.mem_append.1 hy with h1 | h1
    · exact k5 y h1
    · rw [List.mem_singleton.1 h1]; exact hz
  · have : j = 0 ∨ j = 1 ∨ j = 2 ∨ j = 3 ∨ j = 4 := by omega
    rcases this with rfl | rfl | rfl | rfl | rfl <;> rfl
def lenV : Value → Nat
  | .slice _ n _ => n
  | _ => 0
abbrev SB (b q z : Nat) (A : Option Addr) (L cap : Nat) (w : World) : Prop := w.cell? ⟨b, 2, none⟩ = some (.int .i64 z) ∧ w.cell? ⟨b, 4, none⟩ = some (.slice A L cap) ∧ b < w.heap.size ∧ q < w.heap.size ∧ b ≠ q
theorem SB.below {b q z L cap : Nat} {A : Option Addr} {w w' : World} (h : SB b q z A L cap w) (hB : Below w.heap.size w w') : SB b q z A L cap w' :=
  ⟨(hB.cell (p := ⟨b, 2, none⟩) h.2.2.1).trans h.1, (hB.cell (p := ⟨b, 4, none⟩) h.2.2.1).trans h.2.1, Nat.lt_of_lt_of_le h.2.2.1 hB.size, Nat.lt_of_lt_of_le h.2.2.2.1 hB.size, h.2.2.2.2⟩
theorem SB.alloc {b q z L cap : Nat} {A : Option Addr} {w : World} (h : SB b q z A L cap w) (o : Obj) : SB b q z A L cap (w.alloc o) := h.below (al0 w o)
theorem SB.setq {b q z L cap : Nat} {A : Option Addr} {w : World} (h : SB b q z A L cap w) (i : Nat) (v : Value) : SB b q z A L cap (w.setCell ⟨q, i, none⟩ v) := by
  have e : ∀ j, (w.setCell ⟨q, i, none⟩ v).cell? ⟨b, j, none⟩ = w.cell? ⟨b, j, none⟩ := fun j => World.cell?_of_block (a := ⟨b, j, none⟩) (Below.heap_setCell w ⟨q, i, none⟩ v b h.2.2.2.2)
  exact ⟨(e 2).trans h.1, (e 4).trans h.2.1, by rw [World.size_setCell]; exact h.2.2.1, by rw [World.size_setCell]; exact h.2.2.2.1, h.2.2.2.2⟩
set_option maxRecDepth 100000 in
set_option maxHeartbeats 4000000 in
theorem ind_rest (ls : List (List Nat)) (f : Fm) (A : Option Addr) (cap : Nat) (w : World) (h : PlAt K w0 w p q s d) (hb : BL w0 A f.body.length f.body) (hA : f.body.length = 0 ∨ ∀ y, A = some y → K y.block) (hcl : d.came.length < 100000) (hgl : d.got ≤ 900000) (hs9 : f.s ≤ 9223372036854775807) (hbl : f.body.length ≤ 1048576) (h17 : ls.length ≤ 17)
    (h1 : f.e = d.ep) (h2 : ¬ (f.s < 0 ∨ f.a < 0 ∨ (lastD d : Int) < f.a))
    (hround : (d.got : Int) < f.s → f.s ≤ d.got + 16 → ∀ i, i < ls.length → keptD (gotD (keepD (ackD d f.a) f.s.toNat f.body) i) (d.got + i + 1) = some (lth ls i))
    (hend : (d.got : Int) < f.s → f.s ≤ d.got + 16 → keptD (gotD (keepD (ackD d f.a) f.s.toNat f.body) ls.length) (d.got + ls.length + 1) = none) :
    Calls Try.prog 15 #[.pointer (some ⟨q, 0, none⟩), .agg (cf f A cap)] w (InnedD K w0 p q s d f ls) := by
  have hok := h.ok
  obtain ⟨N0, hN0, h16, hNl⟩ := lastD_le hok.1
  have hB := Lib.hid (Bx.new (f := f) (A := A) (c := cap) h)
  have hw : Hid (∀ (W : World) b, Bx K w0 W p q s d b f A cap → Calls Try.prog 32 #[.pointer (some ⟨q, 0, none⟩)] W fun e w' => e = .returned (.int .i64 (lastD d : Nat)) ∧ ∃ m, w' = W.drewN m) := Lib.hid fun W b hB => lastd_any hB.at_
  obtain ⟨e0, -⟩ := hB.out.nums
  obtain ⟨-, k1, k2, k3, -⟩ := hB.out.fr.cells
  rw [h1] at k1
  have hne : (d.ep != d.ep) = false := by simp
  have q0 : 0 ≤ f.s := by omega
  have q1 : 0 ≤ f.a := by omega
  have q2 : f.a ≤ lastD d := by omega
  have d1 : decide (f.s < 0) = false := by simpa using q0
  have d2 : decide (f.a < 0) = false := by simpa using q1
  have d3 : decide ((lastD d : Int) < f.a) = false := by simp; omega
  have hal : Hid (f.a.toNat ≤ d.sent.length) := Lib.hid (by omega)
  have hdg : ∀ a, (ackD d a).got = d.got := fun a => by unfold ackD; split <;> rfl
  have hdc : ∀ a, (ackD d a).came = d.came := fun a => by unfold ackD; split <;> rfl
  have hkg : ∀ d z l, (keepD d z l).got = d.got := fun d z l => by unfold keepD; split <;> rfl
  have hfin0 : Hid (f.s ≤ d.got → ∀ W b, Bx K w0 W p q s (ackD d f.a) b f A cap → InnedD K w0 p q s d f ls (.returned (.tuple #[.slice none 0 0, .int .i64 (0 : Nat)])) W) :=
    Lib.hid fun g W b hB => innedd_none (by unfold inE'; rw [if_neg (by simpa using h1), if_neg h2, if_pos g]) (by unfold inL'; rw [if_neg (by simpa using h1), if_neg h2, if_pos g]) (by unfold inD; rw [if_neg (by simpa using h1), if_neg h2, if_pos g]; exact hB.at_)
  have hfin9 : Hid (¬ f.s ≤ d.got → 16 < f.s - d.got → ∀ W b, Bx K w0 W p q s (ackD d f.a) b f A cap → InnedD K w0 p q s d f ls (.returned (.tuple #[.slice none 0 0, .int .i64 (9 : Nat)])) W) :=
    Lib.hid fun g g2 W b hB => innedd_none (by unfold inE'; rw [if_neg (by simpa using h1), if_neg h2, if_neg g, if_pos g2]) (by unfold inL'; rw [if_neg (by simpa using h1), if_neg h2, if_neg g, if_pos g2]) (by unfold inD; rw [if_neg (by simpa using h1), if_neg h2, if_neg g, if_pos g2]; exact hB.at_)
  have hfin : Hid (∀ z : Nat, f.s = z → d.got < z → z ≤ d.got + 16 → ∀ W b v, Rnd K w0 W p q s (keepD (ackD d f.a) z f.body) b f A cap v ls.length ls → InnedD K w0 p q s d f ls (.returned (.tuple #[v, .int .i64 (0 : Nat)])) W) := Lib.hid fun z hz g1 g2 W b v hR => by
    obtain ⟨col, vs, vc, xs, css, ys, hX, hr, hd⟩ := hR
    have g : ¬ f.s ≤ d.got := by omega
    have g3 : ¬ 16 < f.s - d.got := by omega
    have eq : f.s.toNat = z := by omega
    have eL : inL' d f ls = ls := by unfold inL'; rw [if_neg (by simpa using h1), if_neg h2, if_neg g, if_neg g3]
    have eD : inD d f ls.length = gotD (keepD (ackD d f.a) z f.body) ls.length := by unfold inD; rw [if_neg (by simpa using h1), if_neg h2, if_neg g, if_neg g3, eq]
    have eE : inE' d f = 0 := by unfold inE'; rw [if_neg (by simpa using h1), if_neg h2, if_neg g, if_neg g3]
    rw [List.take_of_length_le (Nat.le_refl _)] at hd
    obtain ⟨A9, c9, rfl, hq⟩ := LQ.of hr.1 hd (by omega)
    exact ⟨A9, c9, by rw [eE, eL], by rw [eL]; exact hq, by rw [eD]; exact (BxIs.bx hX).at_⟩
  obtain ⟨z, hz⟩ : ∃ z : Nat, f.s = z := ⟨f.s.toNat, by omega⟩
  rw [show f.s.toNat = z by omega] at hround hend
  replace hround := Lib.hid hround
  replace hend := Lib.hid hend
  replace hz := Lib.hid hz
  replace hb := Lib.hid hb
  replace hA := Lib.hid hA
  replace hok := Lib.hid hok
  clear h h1 h2 hN0 h16 hNl q2
  generalize lastD d = N at *
  go_enter Try.func15, Try.ntmps15
  go_wp2
  generalize w.heap.size = b at *
  generalize w.alloc (.cells (cf f A cap) 31) = W at *
  go_region
  have hB1 := Lib.hid hB.out.drew
  generalize W.drew = W1 at hB1 ⊢
  clear e0 k1 k2 k3 hne hB
  obtain ⟨-, -, k2, k3, -⟩ := hB1.out.fr.cells
  go_wp2
  go_quiet ((go_at_call 32; exact Calls.quiet_of (hw.out _ _ (hB1.out.drewN _))))
  have hB2 := Lib.hid (hB1.out.drewN nq)
  generalize W1.drewN nq = W2 at hB2 ⊢
  clear k2 k3 hB1 d1 d2 d3 hw
  obtain ⟨-, -, k2, k3, -⟩ := hB2.out.fr.cells
  obtain ⟨-, e2, -, f2, -, l1, l2⟩ := hB2.out.nums
  go_upto_region 5 with fail
  go_region
  go_upto_if 39 with fail
  go_cut [] from 40 to 44 (fun wx => Hid (Bx K w0 wx p q s (ackD d f.a) b f A cap))
  case first =>
    have hack : Hid ((d.acked : Int) < f.a → Bx K w0 (W2.setCell ⟨q, 2, none⟩ (.int .i64 f.a)).drew p q s (ackD d f.a) b f A cap) := Lib.hid fun ha => by
      have := (hB2.out.setAck hal.out).drew
      rw [show ((f.a.toNat : Nat) : Int) = f.a by omega] at this
      unfold ackD; rw [if_pos ha]; exact this
    have hstay : Hid (f.a ≤ (d.acked : Int) → Bx K w0 W2.drew p q s (ackD d f.a) b f A cap) := Lib.hid fun ha => by unfold ackD; rw [if_neg (by omega)]; exact hB2.out.drew
    go_wp2
    all_goals
      rename_i ha
      go_meet
      first
        | exact Lib.hid (hack.out ha)
        | exact Lib.hid (hstay.out ha)
  case rest =>
  have hB3 := Lib.hid hcut.out
  clear hcut hB2 k2 k3 e2 f2 l1 l2 W2
  generalize hD1 : ackD d f.a = D1 at *
  have hg1 : Hid (D1.got = d.got ∧ D1.came = d.came) := Lib.hid (by rw [← hD1]; exact ⟨hdg _, hdc _⟩)
  clear hD1
  obtain ⟨-, -, e4, -, -, l1, l2⟩ := hB3.out.nums
  obtain ⟨-, -, k2, -, -⟩ := hB3.out.fr.cells
  rw [hg1.out.1] at e4
  by_cases g : f.s ≤ d.got
  · clear hfin hfin9
    go_wp2
    go_region
    go_wp2
    go_ret2
    exact hfin0.out g _ _ hB3.out.drew
  · have g' : (d.got : Int) < f.s := by omega
    clear hfin0
    go_wp2
    go_region
    have hB4 := Lib.hid hB3.out.drew
    generalize wc.drew = W4 at hB4 ⊢
    clear e4 k2 hB3 l1 l2
    obtain ⟨-, -, e4, -, -, l1, l2⟩ := hB4.out.nums
    obtain ⟨-, -, k2, -, -⟩ := hB4.out.fr.cells
    rw [hg1.out.1] at e4
    have ws := wrap_in (f.s - d.got) (by omega) (by omega)
    by_cases g2 : 16 < f.s - d.got
    · go_wp2
      go_region
      go_wp2
      go_ret2
      exact hfin9.out g g2 _ _ hB4.out.drew
    · have g2' : decide ((16 : Int) < f.s - d.got) = false := by simpa using g2
      go_wp2
      go_region
      have hB5 := Lib.hid hB4.out.drew
      generalize W4.drew = W5 at hB5 ⊢
      clear e4 k2 hB4 l1 l2 hfin9 ws
      have z1 : Hid (d.got < z) := Lib.hid (by have := hz.out; omega)
      have z2 : Hid (z ≤ d.got + 16) := Lib.hid (by have := hz.out; omega)
      replace hround := Lib.hid (hround.out (by have := hz.out; have := z1.out; omega) (by have := hz.out; have := z2.out; omega))
      replace hend := Lib.hid (hend.out (by have := hz.out; have := z1.out; omega) (by have := hz.out; have := z2.out; omega))
      obtain ⟨-, -, k2, -, k4⟩ := hB5.out.fr.cells
      rw [hz.out] at k2
      have hkept := hB5
      obtain ⟨col, vs, vc, xs, css, hX⟩ := hkept.out
      have hkq := Lib.hid (kept_any z hX.pl.b)
      clear hkept
      go_wp2_with (fail)
      refine hkq.out.mono ?_
      rintro e w' ⟨A1, c1, rfl, -, rfl⟩
      clear hkq
      generalize hLen : ((keptD D1 z).getD []).length = L1 at *
      clear hLen
      generalize hy : (keptD D1 z).isSome = y at *
      replace hy := Lib.hid hy
      go_upto_if 68 with fail
      go_cut [7] from 60 to 84 (fun u wx => Hid (Bx K w0 wx p q s (keepD D1 z f.body) b f A cap))
      case first =>
        cases y
        case true =>
          have hY : Hid (Bx K w0 W5 p q s (keepD D1 z f.body) b f A cap) := Lib.hid (by unfold keepD; rw [if_pos hy.out]; exact hB5.out)
          clear hX k2 k4
          go_wp2
          go_meet
          exact hY
        case false =>
          have hs : ¬ (keptD D1 z).isSome = true := by rw [hy.out]; decide
          have hY : ∀ W', Bx K w0 W' p q s { D1 with came := D1.came ++ [(z, f.body)] } b f A cap → Hid (Bx K w0 W' p q s (keepD D1 z f.body) b f A cap) := fun W' h => Lib.hid (by unfold keepD; rw [if_neg hs]; exact h)
          replace hY := Lib.hid hY
          clear hs
          obtain ⟨i0, hi, hz0, hz1, hz2⟩ := info_parts infoC
          obtain ⟨i1, hj, hy0, hy1, hy2⟩ := info_parts bytes8
          obtain ⟨-, -, -, k3, -⟩ := hX.pl.b.cells
          obtain ⟨A0, c0, rfl, k6, k7⟩ := own_form hX.pl.b.came.1
          have hql := hX.pl.b.row.lt
          have hbl' := World.rowIs.lt hX.fr
          have hcl' : D1.came.length < 100000 := by rw [hg1.out.2]; exact hcl
          have hls := Lib.hid (show D1.came.length + 1 ≤ maxLen by unfold maxLen; omega)
          have hO : Hid (∀ w2, Below W5.heap.size W5 w2 → w2.ownsRow 0 72 2 (.slice A0 D1.came.length c0) D1.came.length css.flatten) := Lib.hid fun w2 h => (hX.pl.below h).b.came.1
          have hbW : BL W5 A f.body.length f.body := hX.pl.bel.bl hb.out hA.out
          have h256 := Lib.hid hbW.2.2.1
          have hbb : Hid (∀ w2, Below W5.heap.size W5 w2 → Stand w2 A f.body.length (ub f.body)) := Lib.hid fun w2 h => stand_bl (hbW.below h)
          have hulen := Lib.hid (show (ub f.body).length = f.body.length * 1 by rw [ub_len]; omega)
          have hl9 := hbW.2.1
          have hcl9 := Lib.hid hcl'
          have hn0 : D1.came.length ≤ 100000 := by omega
          have hX' := Lib.hid hX
          have hfr : Hid (∀ w2, Below W5.heap.size W5 w2 → w2.cell? ⟨b, 2, none⟩ = some (.int .i64 z) ∧ w2.cell? ⟨q, 3, none⟩ = some (.slice A0 D1.came.length c0) ∧ q < w2.heap.size ∧ b < w2.heap.size) := Lib.hid fun w2 h => ⟨(h.cell (p := ⟨b, 2, none⟩) hbl').trans k2, (h.cell (p := ⟨q, 3, none⟩) hql).trans k3, Nat.lt_of_lt_of_le hql h.size, Nat.lt_of_lt_of_le hbl' h.size⟩
          have hfar : Hid (∀ wa w3, Below W5.heap.size W5 wa → wa.grownBy w3 (Value.slice A0 D1.came.length c0).ownBlock → w3.cell? ⟨q, 3, none⟩ = some (.slice A0 D1.came.length c0) ∧ w3.frozen? ⟨q, 3, none⟩ = false ∧ q < w3.heap.size ∧ SB b q z A f.body.length cap w3) := Lib.hid fun wa w3 hB hg => by
            have z9 := farD hX.pl hB (.inr rfl) hg
            have h2 := hX.pl.below hB
            have hcg : Chg col 5 wa w3 := Chg.grown hg h2.b.came.2
            have f9 := (hX.fr.below hB).chg hcg (by rw [hX.cb]; decide)
            obtain ⟨-, -, g2, -, g4⟩ := f9.cells
            rw [hz.out] at g2
            exact ⟨z9.cell (i := 3) (by omega), z9.frozen 3, z9.lt, g2, g4, World.rowIs.lt f9, z9.lt, fun e => by have := hX.pl.b.cq; have := hX.cb; rw [e] at this; omega⟩
          have hS5 : Hid (SB b q z A f.body.length cap W5) := Lib.hid ⟨k2, k4, hbl', hql, fun e => by have := hX.pl.b.cq; have := hX.cb; rw [e] at this; omega⟩
          have hSd : Hid (SB b q z A f.body.length cap W5.drew) := Lib.hid hS5.out
          have hE0 : Hid ((W5.drew.alloc (.cells #[] 5)).ownsRow W5.heap.size 5 1 (.slice (some ⟨W5.heap.size, 0, none⟩) 0 0) 0 []) := Lib.hid (World.ownsRow_made (W5.drew) #[] 0 (Nat.le_refl _) (by decide) rfl)
          have hB0 : Hid (Below W5.heap.size W5 (W5.drew.alloc (.cells #[] 5))) := Lib.hid ((below_drew W5).alloc (Nat.le_refl _) _)
          have hSn : Hid (SB b q z A f.body.length cap (W5.alloc (.cells #[] 5)).drew) := Lib.hid (SB.alloc hS5.out (.cells #[] 5))
          clear hX hbW hA hb
          generalize hk : D1.came.length = k at *
          generalize hL : f.body.length = L at *
          replace hk := Lib.hid hk
          replace hL := Lib.hid hL
          have hdone : Hid (∀ A3 c3 w3 A9 c9 w9, w3.ownsRow W5.heap.size 5 1 (.slice A3 (0 + L) c3) (0 + L) ([] ++ ub f.body) → Below W5.heap.size W5 w3 →
              World.ownsRow w9 0 72 2 (.slice A9 (k + 1) c9) (k + 1) (css.flatten ++ [.int .i64 z, .slice A3 L c3]) → (World.alloc w3 (.cells #[.int .i64 z, .slice A3 L c3] 72)).grownBy w9 (Value.slice A0 k c0).ownBlock →
              ((Value.slice A9 (k + 1) c9).ownBlock = (Value.slice A0 k c0).ownBlock ∨ (Value.slice A9 (k + 1) c9).ownBlock = some (w3.alloc (.cells #[.int .i64 z, .slice A3 L c3] 72)).heap.size) →
              Hid (Bx K w0 (w9.setCell ⟨q, 3, none⟩ (.slice A9 (k + 1) c9)) p q s (keepD D1 z f.body) b f A cap)) := Lib.hid fun A3 c3 w3 A9 c9 w9 hr3 hB3 hr9 hg9 hat9 => by
            refine hY.out _ ?_
            have hown : Own w3 W5.heap.size (.slice A3 f.body.length c3) f.body.length f.body := ⟨rfl, h256.out, by rw [hL.out]; omega, by rw [Nat.zero_add, List.nil_append] at hr3; rw [hL.out]; exact hr3⟩
            exact addC ⟨hX'.out.pl.below hB3, hX'.out.cb, hX'.out.fr.below hB3⟩ hown hX'.out.pl.fresh (al0 _ _) (by rw [hk.out, hL.out]; exact hr9) hg9 hat9 (by rw [hk.out]; exact hcl9.out) (by have := z2.out; omega)
          clear hdg hdc hkg q0 q1 g' g g2' g2 hgl hs9 h17 hY hfin hround hend hok hB5 hal hy hg1 hz hX' h256 hcl9 hk hL
          go_wp2
          go_region_law (first
            | (refine step_gen rfl (.tmp 76) (.tmp 78) 29 rfl W5.heap.size 5 i1 _ 1 1 Try.underlying29 hj hy0 hy1 hy2 rfl (by decide) (.slice (some ⟨W5.heap.size, 0, none⟩) 0 0) 0 [] (by rfl) hE0.out A L cap (ub f.body) (by rfl) hulen.out (hbb.out _ hB0.out) (ub_one f.body) (by unfold maxLen; omega) (by omega) (by simp) ?_; intro A3 c3 w3 hr3 hg3 hat3; have hr3' := Lib.hid hr3; have hB3 := Lib.hid (hB0.out.grown hg3 (by simp) (fun k e => by cases e; exact Nat.le_refl _)); obtain ⟨q9, q8, l9, l8⟩ := hfr.out _ hB3.out; clear hr3 hg3 hat3)
            | (refine step_gen rfl (.tmp 73) (.tmp 81) 26 rfl 0 72 i0 _ 2 32 Try.underlying26 hi hz0 hz1 hz2 rfl (by decide) _ k css.flatten (by rfl) (hO.out _ (trans0 hB3.out (al0 _ _))) (some ⟨_, 0, none⟩) 1 1 [.int .i64 z, .slice A3 L c3] (by rfl) rfl (stand_new _ _ _ _) (by intro u hu; simp only [List.mem_cons, List.not_mem_nil, or_false] at hu; rcases hu with rfl | rfl <;> rfl) hls.out (by omega) (Nat.zero_le _) ?_; intro A9 c9 w9 hr9 hg9 hat9; obtain ⟨q7, q6, l7, -⟩ := hfar.out _ _ (trans0 hB3.out (al0 _ _)) hg9))
          all_goals
            go_wp2
            go_meet
            exact hdone.out _ _ _ _ _ _ hr3'.out hB3.out hr9 hg9 hat9
      case rest =>
      have hB6 := Lib.hid hcut.out
      clear hcut hB5 hX k2 k4
      have hG : Hid ((keepD D1 z f.body).got = d.got) := Lib.hid ((hkg _ _ _).trans hg1.out.1)
      have hfin' := Lib.hid (hfin.out z hz.out z1.out z2.out)
      clear hfin hy
      generalize keepD D1 z f.body = D2 at *
      obtain ⟨i0, hi, hz0, hz1, hz2⟩ := info_parts info24
      have hst := Lib.hid (Rnd.start hB6.out ls)
      generalize hn : ls.length = n at *
      replace hn := Lib.hid hn
      generalize hGe : d.got = G at *
      clear hGe
      go_wp2
      go_loopw [8] (fun v wr => ∃ k : Nat, k ≤ n ∧ Hid (Rnd K w0 wr p q s D2 b f A cap v k ls)) (fun v _ => n - lenV v)
      case atStart => exact ⟨0, by omega, hst⟩
      case round =>
        obtain ⟨k, hk, hR⟩ := hrel
        obtain ⟨col8, vs8, vc8, xs8, css8, ys8, hX8, hO8⟩ := hR.out
        obtain ⟨A8, c8, rfl, -, -⟩ := own_form hO8.1.1
        have hw1 := wrap_in ((G : Int) + k + 1) (by omega) (by omega)
        obtain ⟨-, -, -, -, e8⟩ := hX8.pl.b.cells
        have f8 := hX8.pl.b.row.frozen 4
        have l8 := hX8.pl.b.row.lt
        rw [show ((gotD D2 k).got : Int) = (G : Int) + k by show ((D2.got + k : Nat) : Int) = _; rw [hG.out]; omega] at e8
        have hkq := kept_any (G + k + 1) hX8.pl.b
        rw [show ((G + k + 1 : Nat) : Int) = (G : Int) + k + 1 by omega] at hkq
        by_cases hlt : k < n
        · have hkr := hround.out k hlt
          replace hkq : Hid (Calls Try.prog 33 #[.pointer (some ⟨q, 0, none⟩), .int .i64 ((G : Int) + k + 1)] wr fun e w' => ∃ A c, e = .returned (.tuple #[.slice A (lth ls k).length c, .bool true]) ∧ Dat col8 wr (.slice A (lth ls k).length c) (lth ls k) ∧ wr = w') :=
            Lib.hid (hkq.mono (by rintro e w' ⟨A, c, rfl, hd, rfl⟩; exact ⟨A, c, by rw [hkr]; rfl, hd _ hkr, rfl⟩))
          have hX9 := BxIs.setGot hX8 (g := G + k + 1) (by omega)
          have hO9 := OutR.setQ hO8 hX8.pl.b.cq 4 (.int .i64 ((G + k + 1 : Nat) : Int))
          have hgd : ({ gotD D2 k with got := G + k + 1 } : Dm) = gotD D2 (k + 1) := by unfold gotD; rw [hG.out]; rfl
          rw [hgd] at hX9
          rw [show ((G + k + 1 : Nat) : Int) = (G : Int) + k + 1 by omega] at hX9 hO9
          have hcg : Chg col8 3 wr (wr.setCell ⟨q, 4, none⟩ (.int .i64 ((G : Int) + k + 1))) := (Chg.refl _ _ _).setCell (p := ⟨q, 4, none⟩) hX8.pl.b.cq _
          have hlsl := Lib.hid (show k < ls.length by rw [hn.out]; exact hlt)
          replace hX9 := Lib.hid hX9
          replace hO9 := Lib.hid hO9
          replace hcg := Lib.hid hcg
          clear hX8 hO8 hR hkr hst hB6
          go_wp2_with (fail)
          refine hkq.out.mono ?_
          rintro e w' ⟨A7, c7, rfl, hd7, rfl⟩
          have hd9 := Lib.hid (hd7.go hcg.out (by decide) (Ext.refl _ _))
          clear hd7 hkq
          generalize hLl : (lth ls k).length = L7 at *
          replace hLl := Lib.hid hLl
          have hstn := Lib.hid (show Stand ((wr.setCell ⟨q, 4, none⟩ (.int .i64 ((G : Int) + k + 1))).alloc (.cells #[.slice A7 L7 c7] 29)) (some ⟨wr.heap.size, 0, none⟩) 1 [.slice A7 L7 c7] by have := stand_new (wr.setCell ⟨q, 4, none⟩ (.int .i64 ((G : Int) + k + 1))) [.slice A7 L7 c7] 29 1; rwa [World.size_setCell] at this)
          go_wp2_with (at_builtin; refine wpList_gen rfl (.tmp 106) (.tmp 108) 25 rfl 0 29 i0 _ 1 24 Try.underlying25 hi hz0 hz1 hz2 rfl (by decide) (.slice A8 k c8) k ys8 (by rfl) (hO9.out.1.1.alloc _) (some ⟨wr.heap.size, 0, none⟩) 1 1 [.slice A7 L7 c7] (by rfl) rfl hstn.out (by intro u hu; rw [List.mem_singleton.1 hu]; rfl) (by unfold maxLen; omega) (by omega) (Nat.zero_le _) ?_; intro A9 c9 w9 hr9 hg9 hat9)
          obtain ⟨col9, hX10, hO10⟩ := grow_out hX9.out hO9.out hd9.out (al0 _ _) hr9 hg9 hat9
          rw [take_succ ls hlsl.out] at hO10
          have hnew : Hid (Rnd K w0 w9 p q s D2 b f A cap (.slice A9 (k + 1) c9) (k + 1) ls) := Lib.hid ⟨col9, _, _, _, _, _, hX10, hO10⟩
          clear hX10 hO10 hr9 hg9 hat9 hX9 hO9 hd9 hcg
          go_wp2
          go_roundw
          case rel => exact ⟨k + 1, by omega, hnew⟩
          case measure => simp [lenV]; omega
        · obtain rfl : k = n := by omega
          have hkr := hend.out
          replace hkq : Hid (Calls Try.prog 33 #[.pointer (some ⟨q, 0, none⟩), .int .i64 ((G : Int) + k + 1)] wr fun e w' => ∃ A c, e = .returned (.tuple #[.slice A 0 c, .bool false]) ∧ wr = w') :=
            Lib.hid (hkq.mono (by rintro e w' ⟨A, c, rfl, hd, rfl⟩; exact ⟨A, c, by rw [hkr]; rfl, rfl⟩))
          have hdone := Lib.hid (hfin'.out _ _ _ hR.out)
          clear hX8 hO8 hR hkr hst hB6
          go_wp2_with (fail)
          refine hkq.out.mono ?_
          rintro e w' ⟨A7, c7, rfl, rfl⟩
          clear hkq
          go_wp2
          go_ret2
          exact hdone.out
end
end Go.Proofs.Ythiadkpndemeeaa.lnkPf
