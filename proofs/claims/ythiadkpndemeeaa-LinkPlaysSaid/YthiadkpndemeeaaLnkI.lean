/- The contract of In. -/
import Derived.Test.YthiadkpndemeeaaLnkH
namespace Go.Proofs.Ythiadkpndemeeaa.lnkI
open Go.ChangeShapes Go.WideShapes Go.ChangeAt Go.RowKit Go.Deep
open numM rowA byt numA numB numC lnkA lnkB lnkC lnkD lnkE lnkG lnkH

def inE (s : St) (f : Fm) : Nat :=
  if f.e ≠ s.ep then 5 else if f.s < 0 ∨ f.a < 0 ∨ s.acked + outN s < f.a then 1 else if f.s ≤ s.got then 0 else if 16 < f.s - s.got then 9 else 0
def inS (s : St) (f : Fm) : St :=
  if f.e ≠ s.ep then s else if f.s < 0 ∨ f.a < 0 ∨ s.acked + outN s < f.a then s else if f.s ≤ s.got then ackS s f.a else if 16 < f.s - s.got then ackS s f.a else turnS (keepS (ackS s f.a) f.s.toNat f.body)
def inL (s : St) (f : Fm) : List (List Nat) :=
  if f.e ≠ s.ep then [] else if f.s < 0 ∨ f.a < 0 ∨ s.acked + outN s < f.a then [] else if f.s ≤ s.got then [] else if 16 < f.s - s.got then [] else turnL (keepS (ackS s f.a) f.s.toNat f.body)
/-- What In answers. -/
def Inned (col : Nat → Nat) (c p : Nat) (s : St) (f : Fm) (w : World) (e : Ending) (w' : World) : Prop :=
  ∃ b us, e = .returned (.tuple #[b, .int .i64 (inE s f)]) ∧ w'.ownsRow w.heap.size 29 1 b (inL s f).length us ∧ Dats col w' us (inL s f) ∧ Chg col c w w' ∧ EndAt col c w' p (inS s f)
theorem inned_none {col : Nat → Nat} {c p : Nat} {s : St} {f : Fm} {w w' : World} {n : Nat} (hE : inE s f = n) (hL : inL s f = []) (hc : Chg col c w w') (h : EndAt col c w' p (inS s f)) : Inned col c p s f w (.returned (.tuple #[.slice none 0 0, .int .i64 (n : Nat)])) w' :=
  ⟨.slice none 0 0, [], by rw [hE], by rw [hL]; exact World.ownsRow_nil _ _ _ 1, by rw [hL]; trivial, hc, h⟩
theorem cfrow (w : World) (f : Fm) (A : Option Addr) (c : Nat) : (w.alloc (.cells (cf f A c) 31)).rowIs w.heap.size 31 5 (fun i => (cf f A c).getD i undef) := by
  have h := World.rowIs_alloc w (cf f A c) 31 (fun i => (cf f A c).getD i undef) (fun i hi => ?_)
  · exact h
  · have : i = 0 ∨ i = 1 ∨ i = 2 ∨ i = 3 ∨ i = 4 := by simp [cf] at hi; omega
    rcases this with rfl | rfl | rfl | rfl | rfl <;> rfl
theorem below_drewN (w : World) (n : Nat) : Below w.heap.size w (w.drewN n) := ⟨rfl, rfl, rfl, Nat.le_refl _, fun _ _ => rfl⟩
theorem below_drew (w : World) : Below w.heap.size w w.drew := ⟨rfl, rfl, rfl, Nat.le_refl _, fun _ _ => rfl⟩
/-- the frame that came in, boxed -/
def FB (w : World) (b : Nat) (f : Fm) (A : Option Addr) (c : Nat) : Prop := w.rowIs b 31 5 (fun i => (cf f A c).getD i undef)
theorem FB.cells {w : World} {b : Nat} {f : Fm} {A : Option Addr} {c : Nat} (h : FB w b f A c) :
    w.cell? ⟨b, 0, none⟩ = some (.int .i64 f.v) ∧ w.cell? ⟨b, 1, none⟩ = some (.int .i64 f.e) ∧ w.cell? ⟨b, 2, none⟩ = some (.int .i64 f.s) ∧ w.cell? ⟨b, 3, none⟩ = some (.int .i64 f.a) ∧ w.cell? ⟨b, 4, none⟩ = some (.slice A f.body.length c) :=
  ⟨World.rowIs.cell h (i := 0) (by omega), World.rowIs.cell h (i := 1) (by omega), World.rowIs.cell h (i := 2) (by omega), World.rowIs.cell h (i := 3) (by omega), World.rowIs.cell h (i := 4) (by omega)⟩
theorem FB.below {w w1 : World} {b : Nat} {f : Fm} {A : Option Addr} {c : Nat} (h : FB w b f A c) (hB : Below w.heap.size w w1) : FB w1 b f A c := World.rowIs.of_block h (hB.block b (World.rowIs.lt h))
theorem FB.chg {w w1 : World} {b d : Nat} {f : Fm} {A : Option Addr} {c : Nat} {col : Nat → Nat} (h : FB w b f A c) (hg : Chg col d w w1) (hb : col b ≠ d) : FB w1 b f A c := World.rowIs.of_block h (hg.block b (World.rowIs.lt h) hb)
theorem quiet2 {P : Program} {f : FuncId} {args : Array Value} {w : World} {n : Nat} {v : Value} (h : Calls P f args (w.drewN n) fun e w' => e = .returned v ∧ w.drewN n = w') :
    Calls P f args (w.drewN n) fun e w'' => e = .returned v ∧ ∃ m, w'' = w.drewN m := h.mono fun _ _ ⟨he, hm⟩ => ⟨he, n, hm.symm⟩
theorem end_drewN {col : Nat → Nat} {c : Nat} {w : World} {p : Nat} {s : St} (h : EndAt col c w p s) (n : Nat) : EndAt col c (w.drewN n) p s := h.below (below_drewN w n)

section
variable {col : Nat → Nat} {c p : Nat} {s : St} (f : Fm) (A : Option Addr) (cap : Nat) (w : World)
set_option maxRecDepth 100000 in
set_option maxHeartbeats 1000000 in
theorem in_kind (h : EndAt col c w p s) (h1 : f.e ≠ s.ep) : Calls Try.prog 14 #[.pointer (some ⟨p, 0, none⟩), .agg (cf f A cap)] w (Inned col c p s f w) := by
  have hfin : Hid (Inned col c p s f w (.returned (.tuple #[.slice none 0 0, .int .i64 (5 : Nat)])) (w.alloc (.cells (cf f A cap) 31)).drew) :=
    Lib.hid (inned_none (by unfold inE; rw [if_pos h1]) (by unfold inL; rw [if_pos h1]) (Chg.of_below _ _ (trans0 (al0 _ _) (below_drew _))) (by unfold inS; rw [if_pos h1]; exact h.below (trans0 (al0 _ _) (below_drew _))))
  have hE := h.below (al0 w (.cells (cf f A cap) 31))
  obtain ⟨v, m, xs, n, D, hI⟩ := hE
  obtain ⟨c0, -⟩ := hI.cells
  obtain ⟨-, k1, -⟩ := FB.cells (cfrow w f A cap)
  have hne : (f.e != s.ep) = true := by rw [bne_iff_ne]; exact h1
  have hne2 : ¬ f.e = s.ep := h1
  clear hI h
  go_enter Try.func14, Try.ntmps14
  clear hne2 h1
  go_wp2
  generalize w.alloc (.cells (cf f A cap) 31) = W at *
  go_region
  go_wp2
  go_ret2
  exact hfin.out

/-- what the walk is told of an end and of the frame, boxed -/
structure Box (col : Nat → Nat) (c p : Nat) (s : St) (f : Fm) (A : Option Addr) (cap : Nat) (w W : World) : Prop where
  chg : Chg col c w W
  fr : FB W w.heap.size f A cap
  ep : W.cell? ⟨p, 0, none⟩ = some (.int .i64 s.ep)
  ac : W.cell? ⟨p, 1, none⟩ = some (.int .i64 s.acked)
  gt : W.cell? ⟨p, 3, none⟩ = some (.int .i64 s.got)
  at_ : EndAt col c W p s
theorem Box.new {f : Fm} {A : Option Addr} {cap : Nat} {w : World} (h : EndAt col c w p s) : Box col c p s f A cap w (w.alloc (.cells (cf f A cap) 31)) := by
  have hE := h.below (al0 w (.cells (cf f A cap) 31))
  obtain ⟨v, m, xs, n, D, hI⟩ := id hE
  obtain ⟨c0, c1, c2, c3, c4⟩ := hI.cells
  exact ⟨Chg.of_below _ _ (al0 _ _), cfrow w f A cap, c0, c1, c3, hE⟩
theorem Box.drew {f : Fm} {A : Option Addr} {cap : Nat} {w W : World} (h : Box col c p s f A cap w W) : Box col c p s f A cap w W.drew := ⟨h.chg.drew, h.fr, h.ep, h.ac, h.gt, h.at_.below (below_drew _)⟩
theorem Box.drewN {f : Fm} {A : Option Addr} {cap : Nat} {w W : World} (h : Box col c p s f A cap w W) (n : Nat) : Box col c p s f A cap w (W.drewN n) := ⟨h.chg.then (below_drewN _ _), h.fr, h.ep, h.ac, h.gt, end_drewN h.at_ n⟩
theorem Box.acked {f : Fm} {A : Option Addr} {cap : Nat} {w W W' : World} {t : St} (h : Box col c p s f A cap w W) (hf : col w.heap.size = 0) (hc : c ≠ 0) (hg : Chg col c W W') (hE : EndAt col c W' p t) : Box col c p t f A cap w W' := by
  obtain ⟨v, m, xs, n, D, hI⟩ := id hE
  obtain ⟨c0, c1, c2, c3, c4⟩ := hI.cells
  exact ⟨h.chg.tran hg, h.fr.chg hg (by rw [hf]; exact fun e => hc e.symm), c0, c1, c3, hE⟩

set_option maxRecDepth 100000 in
set_option maxHeartbeats 1000000 in
theorem in_arg (h : EndAt col c w p s) (h1 : f.e = s.ep) (h2 : f.s < 0 ∨ f.a < 0 ∨ s.acked + outN s < f.a) : Calls Try.prog 14 #[.pointer (some ⟨p, 0, none⟩), .agg (cf f A cap)] w (Inned col c p s f w) := by
  have hac : s.acked ≤ 1000000 := by obtain ⟨v, m, xs, n, D, hI⟩ := h; have := hI.ok.sent; have := hI.ok.cnt; omega
  have hn16 : outN s ≤ 16 := by unfold outN; omega
  have hfin : Hid (∀ W, Box col c p s f A cap w W → Inned col c p s f w (.returned (.tuple #[.slice none 0 0, .int .i64 (1 : Nat)])) W) :=
    Lib.hid fun W hB => inned_none (by unfold inE; rw [if_neg (by simpa using h1), if_pos h2]) (by unfold inL; rw [if_neg (by simpa using h1), if_pos h2]) hB.chg (by unfold inS; rw [if_neg (by simpa using h1), if_pos h2]; exact hB.at_)
  have hB := Lib.hid (Box.new (f := f) (A := A) (cap := cap) h)
  have hw : Hid (∀ W : World, Box col c p s f A cap w W → Calls Try.prog 28 #[.pointer (some ⟨p, 0, none⟩)] W fun e w' => e = .returned (.int .i64 (outN s : Nat)) ∧ W = w') := Lib.hid fun W hB => window_any W hB.at_
  have e0 := hB.out.ep
  have e1 := hB.out.ac
  obtain ⟨-, k1, k2, k3, k4⟩ := hB.out.fr.cells
  rw [h1] at k1
  have wr := wrap_in ((s.acked : Int) + (outN s : Nat)) (by omega) (by omega)
  clear h h1
  generalize outN s = N at *
  generalize s.ep = E at *
  have hne : (E != E) = false := by simp
  rcases (show f.s < 0 ∨ (0 ≤ f.s ∧ f.a < 0) ∨ (0 ≤ f.s ∧ 0 ≤ f.a ∧ s.acked + N < f.a) by omega) with q | q | q
  · clear h2
    have d1 : decide (f.s < 0) = true := by simpa using q
    go_enter Try.func14, Try.ntmps14
    go_wp2
    generalize w.alloc (.cells (cf f A cap) 31) = W at *
    go_region
    have hB1 := Lib.hid hB.out.drew
    generalize W.drew = W1 at hB1 ⊢
    clear e0 e1 k1 k2 k3 k4 hne hB
    have e1 := hB1.out.ac
    obtain ⟨-, -, k2, k3, k4⟩ := hB1.out.fr.cells
    go_wp2
    go_quiet (fail)
    go_wp2
    go_ret2
    exact hfin.out _ (hB1.out.drewN _)
  · clear h2
    obtain ⟨q0, q1⟩ := q
    have d1 : decide (f.s < 0) = false := by simpa using q0
    have d2 : decide (f.a < 0) = true := by simpa using q1
    go_enter Try.func14, Try.ntmps14
    go_wp2
    generalize w.alloc (.cells (cf f A cap) 31) = W at *
    go_region
    have hB1 := Lib.hid hB.out.drew
    generalize W.drew = W1 at hB1 ⊢
    clear e0 e1 k1 k2 k3 k4 hne hB
    have e1 := hB1.out.ac
    obtain ⟨-, -, k2, k3, k4⟩ := hB1.out.fr.cells
    go_wp2
    go_quiet (fail)
    go_wp2
    go_ret2
    exact hfin.out _ (hB1.out.drewN _)
  · clear h2
    obtain ⟨q0, q1, q2⟩ := q
    have d1 : decide (f.s < 0) = false := by simpa using q0
    have d2 : decide (f.a < 0) = false := by simpa using q1
    have d3 : decide ((s.acked : Int) + (N : Nat) < f.a) = true := by simpa using q2
    go_enter Try.func14, Try.ntmps14
    go_wp2
    generalize w.alloc (.cells (cf f A cap) 31) = W at *
    go_region
    have hB1 := Lib.hid hB.out.drew
    generalize W.drew = W1 at hB1 ⊢
    clear e0 e1 k1 k2 k3 k4 hne hB
    have e1 := hB1.out.ac
    obtain ⟨-, -, k2, k3, k4⟩ := hB1.out.fr.cells
    go_wp2
    go_quiet ((go_at_call 28; exact quiet2 (hw.out _ (hB1.out.drewN _))))
    go_wp2
    go_ret2
    exact hfin.out _ (hB1.out.drewN _)
end
theorem bl_chg {col : Nat → Nat} {c : Nat} {w w' : World} {A : Option Addr} {n : Nat} {l : List Nat} (h : BL w A n l) (hg : Chg col c w w') (hA : ∀ y, A = some y → col y.block ≠ c) : BL w' A n l := by
  refine ⟨h.1, h.2.1, h.2.2.1, h.2.2.2.imp id ?_⟩
  rintro ⟨b, off, rfl, hlt, hc⟩
  refine ⟨b, off, rfl, by have := hg.size; omega, fun i hi => ?_⟩
  rw [World.cell?_of_block (a := ⟨b, off + i, none⟩) (hg.block b hlt (hA _ rfl))]
  exact hc i hi
theorem ack_got (s : St) (a : Int) : (ackS s a).got = s.got ∧ (ackS s a).cnt = s.cnt ∧ (ackS s a).ep = s.ep := by unfold ackS; split <;> exact ⟨rfl, rfl, rfl⟩
theorem keep_cnt (s : St) (q : Nat) (l : List Nat) : (keepS s q l).cnt ≤ s.cnt + 1 ∧ (keepS s q l).ep = s.ep ∧ (keepS s q l).got = s.got := by
  unfold keepS
  split
  · exact ⟨Nat.le_succ _, rfl, rfl⟩
  · exact ⟨Nat.le_refl _, rfl, rfl⟩
theorem own_le {w : World} {base base' size n : Nat} {e : TypeId} {v : Value} {xs : List Value} (h : w.ownsRow base e size v n xs) (hb : base' ≤ base) : w.ownsRow base' e size v n xs :=
  ⟨h.1, h.2.elim Or.inl (fun ⟨g, cap, cur, hv, hg, r⟩ => Or.inr ⟨g, cap, cur, hv, Nat.le_trans hb hg, r⟩)⟩
set_option maxRecDepth 100000 in
set_option maxHeartbeats 2000000 in
theorem in_rest {col : Nat → Nat} {c p : Nat} {s : St} (f : Fm) (A : Option Addr) (cap : Nat) (w : World) (h : EndAt col c w p s) (hb : BL w A f.body.length f.body) (hl : f.body.length ≤ 140737488355328) (hA : ∀ y, A = some y → col y.block ≠ c) (hc : c ≠ 0) (hf : Fresh col w)
    (hcn : s.cnt + 2 ≤ 1000000) (hs9 : f.s ≤ 9223372036854775807) (h1 : f.e = s.ep) (h2 : ¬ (f.s < 0 ∨ f.a < 0 ∨ s.acked + outN s < f.a)) :
    Calls Try.prog 14 #[.pointer (some ⟨p, 0, none⟩), .agg (cf f A cap)] w (Inned col c p s f w) := by
  have hac : s.acked ≤ 1000000 ∧ s.got ≤ 16000000 := by obtain ⟨v, m, xs, n, D, hI⟩ := h; have := hI.ok.sent; have := hI.ok.cnt; have := hI.ok.got; omega
  have hn16 : outN s ≤ 16 ∧ outN s ≤ s.wait.length := by unfold outN; omega
  have hB := Lib.hid (Box.new (f := f) (A := A) (cap := cap) h)
  have hw : Hid (∀ W : World, Box col c p s f A cap w W → Calls Try.prog 28 #[.pointer (some ⟨p, 0, none⟩)] W fun e w' => e = .returned (.int .i64 (outN s : Nat)) ∧ W = w') := Lib.hid fun W hB => window_any W hB.at_
  have hack : Hid (∀ W : World, Box col c p s f A cap w W → Calls Try.prog 29 #[.pointer (some ⟨p, 0, none⟩), .int .i64 f.a] W (fun e w' => e = .returned (.tuple #[]) ∧ Box col c p (ackS s f.a) f A cap w w')) :=
    Lib.hid fun W hB => (ack_any f.a W hB.at_ hc (by omega) (by omega)).mono fun e w' hh => ⟨hh.1, hB.acked (hf _ (Nat.le_refl _)) hc hh.2.1 hh.2.2⟩
  have hE1 : f.e ≠ s.ep ↔ False := by simp [h1]
  have e0 := hB.out.ep
  have e1 := hB.out.ac
  obtain ⟨-, k1, k2, k3, k4⟩ := hB.out.fr.cells
  rw [h1] at k1
  have wr := wrap_in ((s.acked : Int) + (outN s : Nat)) (by omega) (by omega)
  have q0 : 0 ≤ f.s := by omega
  have q1 : 0 ≤ f.a := by omega
  have d1 : decide (f.s < 0) = false := by simpa using q0
  have d2 : decide (f.a < 0) = false := by simpa using q1
  have d3 : decide ((s.acked : Int) + (outN s : Nat) < f.a) = false := by simp; omega
  -- what follows once all is acknowledged
  have hgot := (ack_got s f.a).1
  have hcnt := (ack_got s f.a).2.1
  have hfin0 : Hid (f.s ≤ s.got → ∀ W, Box col c p (ackS s f.a) f A cap w W → Inned col c p s f w (.returned (.tuple #[.slice none 0 0, .int .i64 (0 : Nat)])) W) :=
    Lib.hid fun g W hB => inned_none (by unfold inE; rw [if_neg (by simpa using h1), if_neg h2, if_pos g]) (by unfold inL; rw [if_neg (by simpa using h1), if_neg h2, if_pos g]) hB.chg (by unfold inS; rw [if_neg (by simpa using h1), if_neg h2, if_pos g]; exact hB.at_)
  have hfin9 : Hid (¬ f.s ≤ s.got → 16 < f.s - s.got → ∀ W, Box col c p (ackS s f.a) f A cap w W → Inned col c p s f w (.returned (.tuple #[.slice none 0 0, .int .i64 (9 : Nat)])) W) :=
    Lib.hid fun g g2 W hB => inned_none (by unfold inE; rw [if_neg (by simpa using h1), if_neg h2, if_neg g, if_pos g2]) (by unfold inL; rw [if_neg (by simpa using h1), if_neg h2, if_neg g, if_pos g2]) hB.chg (by unfold inS; rw [if_neg (by simpa using h1), if_neg h2, if_neg g, if_pos g2]; exact hB.at_)
  have hkeep : Hid (∀ q : Nat, f.s = q → s.got < q → q ≤ s.got + 16 → ∀ W, Box col c p (ackS s f.a) f A cap w W → Calls Try.prog 30 #[.pointer (some ⟨p, 0, none⟩), .int .i64 (q : Int), .slice A f.body.length cap] W (fun e w' => e = .returned (.tuple #[]) ∧ Chg col c w w' ∧ EndAt col c w' p (keepS (ackS s f.a) q f.body))) :=
    Lib.hid fun q _ g1 g2 W hB => (keep_any q A cap f.body W hB.at_ (bl_chg hb hB.chg hA) hl hc (hf.size hB.chg.size) (by omega) (by omega) (by omega)).mono fun e w' hh => ⟨hh.1, hB.chg.tran hh.2.1, hh.2.2⟩
  have hturn : Hid (∀ q : Nat, f.s = q → s.got < q → q ≤ s.got + 16 → ∀ W, Chg col c w W → EndAt col c W p (keepS (ackS s f.a) q f.body) → Calls Try.prog 31 #[.pointer (some ⟨p, 0, none⟩)] W (fun e w' => ∃ b, e = .returned b ∧ Inned col c p s f w (.returned (.tuple #[b, .int .i64 (0 : Nat)])) w')) := by
    intro q hq g1 g2 W hch hE
    have hkc := (keep_cnt (ackS s f.a) q f.body).1
    refine (turn_any W hE hc (by omega)).mono ?_
    rintro e w' ⟨b, us, rfl, t1, t2, t3, t4⟩
    have g : ¬ f.s ≤ s.got := by omega
    have g3 : ¬ 16 < f.s - s.got := by omega
    have eq : f.s.toNat = q := by omega
    have eL : inL s f = turnL (keepS (ackS s f.a) q f.body) := by unfold inL; rw [if_neg (by simpa using h1), if_neg h2, if_neg g, if_neg g3, eq]
    have eS : inS s f = turnS (keepS (ackS s f.a) q f.body) := by unfold inS; rw [if_neg (by simpa using h1), if_neg h2, if_neg g, if_neg g3, eq]
    have eE : inE s f = 0 := by unfold inE; rw [if_neg (by simpa using h1), if_neg h2, if_neg g, if_neg g3]
    exact ⟨b, rfl, b, us, by rw [eE], by rw [eL]; exact own_le t1 hch.size, by rw [eL]; exact t2, hch.tran t3, by rw [eS]; exact t4⟩
  clear h h1 h2 hE1 hb hA hf hcnt
  generalize outN s = N at *
  generalize hE : s.ep = E at *
  have hne : (E != E) = false := by simp
  obtain ⟨q, hq⟩ : ∃ q : Nat, f.s = q := ⟨f.s.toNat, by omega⟩
  replace hq := Lib.hid hq
  replace hgot := Lib.hid hgot
  clear hE
  go_enter Try.func14, Try.ntmps14
  go_wp2
  generalize w.alloc (.cells (cf f A cap) 31) = W at *
  go_region
  have hB1 := Lib.hid hB.out.drew
  generalize W.drew = W1 at hB1 ⊢
  clear e0 e1 k1 k2 k3 k4 hne hB
  have e1 := hB1.out.ac
  obtain ⟨-, -, k2, k3, k4⟩ := hB1.out.fr.cells
  go_wp2
  go_quiet ((go_at_call 28; exact quiet2 (hw.out _ (hB1.out.drewN _))))
  have hB2 := Lib.hid (hB1.out.drewN nq)
  generalize W1.drewN nq = W2 at hB2 ⊢
  clear e1 k2 k3 k4 hB1 d1 d2 d3 wr
  obtain ⟨-, -, k2, k3, k4⟩ := hB2.out.fr.cells
  go_wp2_with (fail)
  refine (hack.out W2 hB2.out).mono ?_
  rintro e W3 ⟨rfl, hB3⟩
  clear hB2 k2 k3 k4 hack hw
  have e3 := hB3.gt
  rw [hgot.out] at e3
  obtain ⟨-, -, k2, k3, k4⟩ := hB3.fr.cells
  replace hB3 := Lib.hid hB3
  by_cases g : f.s ≤ s.got
  · go_wp2
    go_region
    go_wp2
    go_ret2
    exact hfin0.out g _ hB3.out.drew
  · have g' : (s.got : Int) < f.s := by omega
    go_wp2
    go_region
    have hB4 := Lib.hid hB3.out.drew
    generalize W3.drew = W4 at hB4 ⊢
    clear e3 k2 k3 k4 hB3
    have e3 := hB4.out.gt
    rw [hgot.out] at e3
    obtain ⟨-, -, k2, k3, k4⟩ := hB4.out.fr.cells
    have ws := wrap_in (f.s - s.got) (by omega) (by omega)
    by_cases g2 : 16 < f.s - s.got
    · go_wp2
      go_region
      go_wp2
      go_ret2
      exact hfin9.out g g2 _ hB4.out.drew
    · go_wp2
      go_region
      have hB5 := Lib.hid hB4.out.drew
      generalize W4.drew = W5 at hB5 ⊢
      clear e3 k2 k3 k4 hB4 ws
      obtain ⟨-, -, k2, k3, k4⟩ := hB5.out.fr.cells
      have gq1 := Lib.hid (show s.got < q by have := hq.out; omega)
      have gq2 := Lib.hid (show q ≤ s.got + 16 by have := hq.out; omega)
      rw [hq.out] at k2
      go_wp2_with (fail)
      refine (hkeep.out q hq.out gq1.out gq2.out W5 hB5.out).mono ?_
      rintro e W6 ⟨rfl, hch6, hE6⟩
      replace hch6 := Lib.hid hch6
      replace hE6 := Lib.hid hE6
      clear k2 k3 k4 hB5
      go_wp2_with (fail)
      refine (hturn.out q hq.out gq1.out gq2.out W6 hch6.out hE6.out).mono ?_
      rintro e W7 ⟨b, rfl, hfin⟩
      replace hfin := Lib.hid hfin
      go_wp2
      go_ret2
      exact hfin.out
end Go.Proofs.Ythiadkpndemeeaa.lnkI
