/- The contract of In where the body may be empty, wherever it lies. -/
import Derived.Test.YthiadkpndemeeaaLnkI
namespace Go.Proofs.Ythiadkpndemeeaa.lnkZ
open Go.ChangeShapes Go.WideShapes Go.ChangeAt Go.RowKit Go.Deep
open numM rowA byt numA numB numC lnkA lnkB lnkC lnkD lnkE lnkG lnkH lnkI

theorem bl_chg0 {col : Nat → Nat} {c : Nat} {w w' : World} {A : Option Addr} {n : Nat} {l : List Nat} (h : BL w A n l) (hg : Chg col c w w') (hA : n = 0 ∨ ∀ y, A = some y → col y.block ≠ c) : BL w' A n l := by
  rcases hA with h0 | hA
  · exact ⟨h.1, h.2.1, h.2.2.1, .inl h0⟩
  · exact bl_chg h hg hA
set_option maxRecDepth 100000 in
set_option maxHeartbeats 2000000 in
theorem in_rest0 {col : Nat → Nat} {c p : Nat} {s : St} (f : Fm) (A : Option Addr) (cap : Nat) (w : World) (h : EndAt col c w p s) (hb : BL w A f.body.length f.body) (hl : f.body.length ≤ 140737488355328) (hA : f.body.length = 0 ∨ ∀ y, A = some y → col y.block ≠ c) (hc : c ≠ 0) (hf : Fresh col w)
    (hcn : s.cnt + 2 ≤ 1000000) (hs9 : f.s ≤ 9223372036854775807) (h1 : f.e = s.ep) (h2 : ¬ (f.s < 0 ∨ f.a < 0 ∨ s.acked + outN s < f.a)) :
    Calls Try.prog 14 #[.pointer (some ⟨p, 0, none⟩), .agg (cf f A cap)] w (Inned col c p s f w) := by
  have hac : s.acked ≤ 1000000 ∧ s.got ≤ 16000000 := by obtain ⟨v, m, xs, n, D, hI⟩ := h; have := hI.ok.sent; have := hI.ok.cnt; have := hI.ok.got; omega
  have hn16 : outN s ≤ 16 ∧ outN s ≤ s.wait.length := by unfold outN; omega
  have hB := Lib.hid (Box.new (f := f) (A := A) (cap := cap) h)
  have hw : Hid (∀ W : World, Box col c p s f A cap w W → Calls Try.prog 28 #[.pointer (some ⟨p, 0, none⟩)] W fun e w' => e = .returned (.int .i64 (outN s : Nat)) ∧ W = w') := Lib.hid fun W hB => window_any W hB.at_
  have hack : Hid (∀ W : World, Box col c p s f A cap w W → Calls Try.prog 29 #[.pointer (some ⟨p, 0, none⟩), .int .i64 f.a] W (fun e w' => e = .returned (.tuple #[]) ∧ Box col c p (ackS s f.a) f A cap w w')) :=
    Lib.hid fun W hB => (ack_any f.a W hB.at_ hc (by omega) (by omega)).mono fun e w' hh => ⟨hh.1, hB.acked (hf _ (Nat.le_refl _)) hc hh.2.1 hh.2.2⟩
  have hE1 : f.e ≠ s.ep ↔ False := by simp [h1]
  have e0 := hB.out.ep
  have e1 := hB.out.ac
  obtain ⟨-, k1, k2, k3, k4⟩ := hB.out.fr.cells
  rw [h1] at k1
  have wr := wrap_in ((s.acked : Int) + (outN s : Nat)) (by omega) (by omega)
  have q0 : 0 ≤ f.s := by omega
  have q1 : 0 ≤ f.a := by omega
  have d1 : decide (f.s < 0) = false := by simpa using q0
  have d2 : decide (f.a < 0) = false := by simpa using q1
  have d3 : decide ((s.acked : Int) + (outN s : Nat) < f.a) = false := by simp; omega
  -- what follows once all is acknowledged
  have hgot := (ack_got s f.a).1
  have hcnt := (ack_got s f.a).2.1
  have hfin0 : Hid (f.s ≤ s.got → ∀ W, Box col c p (ackS s f.a) f A cap w W → Inned col c p s f w (.returned (.tuple #[.slice none 0 0, .int .i64 (0 : Nat)])) W) :=
    Lib.hid fun g W hB => inned_none (by unfold inE; rw [if_neg (by simpa using h1), if_neg h2, if_pos g]) (by unfold inL; rw [if_neg (by simpa using h1), if_neg h2, if_pos g]) hB.chg (by unfold inS; rw [if_neg (by simpa using h1), if_neg h2, if_pos g]; exact hB.at_)
  have hfin9 : Hid (¬ f.s ≤ s.got → 16 < f.s - s.got → ∀ W, Box col c p (ackS s f.a) f A cap w W → Inned col c p s f w (.returned (.tuple #[.slice none 0 0, .int .i64 (9 : Nat)])) W) :=
    Lib.hid fun g g2 W hB => inned_none (by unfold inE; rw [if_neg (by simpa using h1), if_neg h2, if_neg g, if_pos g2]) (by unfold inL; rw [if_neg (by simpa using h1), if_neg h2, if_neg g, if_pos g2]) hB.chg (by unfold inS; rw [if_neg (by simpa using h1), if_neg h2, if_neg g, if_pos g2]; exact hB.at_)
  have hkeep : Hid (∀ q : Nat, f.s = q → s.got < q → q ≤ s.got + 16 → ∀ W, Box col c p (ackS s f.a) f A cap w W → Calls Try.prog 30 #[.pointer (some ⟨p, 0, none⟩), .int .i64 (q : Int), .slice A f.body.length cap] W (fun e w' => e = .returned (.tuple #[]) ∧ Chg col c w w' ∧ EndAt col c w' p (keepS (ackS s f.a) q f.body))) :=
    Lib.hid fun q _ g1 g2 W hB => (keep_any q A cap f.body W hB.at_ (bl_chg0 hb hB.chg hA) hl hc (hf.size hB.chg.size) (by omega) (by omega) (by omega)).mono fun e w' hh => ⟨hh.1, hB.chg.tran hh.2.1, hh.2.2⟩
  have hturn : Hid (∀ q : Nat, f.s = q → s.got < q → q ≤ s.got + 16 → ∀ W, Chg col c w W → EndAt col c W p (keepS (ackS s f.a) q f.body) → Calls Try.prog 31 #[.pointer (some ⟨p, 0, none⟩)] W (fun e w' => ∃ b, e = .returned b ∧ Inned col c p s f w (.returned (.tuple #[b, .int .i64 (0 : Nat)])) w')) := by
    intro q hq g1 g2 W hch hE
    have hkc := (keep_cnt (ackS s f.a) q f.body).1
    refine (turn_any W hE hc (by omega)).mono ?_
    rintro e w' ⟨b, us, rfl, t1, t2, t3, t4⟩
    have g : ¬ f.s ≤ s.got := by omega
    have g3 : ¬ 16 < f.s - s.got := by omega
    have eq : f.s.toNat = q := by omega
    have eL : inL s f = turnL (keepS (ackS s f.a) q f.body) := by unfold inL; rw [if_neg (by simpa using h1), if_neg h2, if_neg g, if_neg g3, eq]
    have eS : inS s f = turnS (keepS (ackS s f.a) q f.body) := by unfold inS; rw [if_neg (by simpa using h1), if_neg h2, if_neg g, if_neg g3, eq]
    have eE : inE s f = 0 := by unfold inE; rw [if_neg (by simpa using h1), if_neg h2, if_neg g, if_neg g3]
    exact ⟨b, rfl, b, us, by rw [eE], by rw [eL]; exact own_le t1 hch.size, by rw [eL]; exact t2, hch.tran t3, by rw [eS]; exact t4⟩
  clear h h1 h2 hE1 hb hA hf hcnt
  generalize outN s = N at *
  generalize hE : s.ep = E at *
  have hne : (E != E) = false := by simp
  obtain ⟨q, hq⟩ : ∃ q : Nat, f.s = q := ⟨f.s.toNat, by omega⟩
  replace hq := Lib.hid hq
  replace hgot := Lib.hid hgot
  clear hE
  go_enter Try.func14, Try.ntmps14
  go_wp2
  generalize w.alloc (.cells (cf f A cap) 31) = W at *
  go_region
  have hB1 := Lib.hid hB.out.drew
  generalize W.drew = W1 at hB1 ⊢
  clear e0 e1 k1 k2 k3 k4 hne hB
  have e1 := hB1.out.ac
  obtain ⟨-, -, k2, k3, k4⟩ := hB1.out.fr.cells
  go_wp2
  go_quiet ((go_at_call 28; exact quiet2 (hw.out _ (hB1.out.drewN _))))
  have hB2 := Lib.hid (hB1.out.drewN nq)
  generalize W1.drewN nq = W2 at hB2 ⊢
  clear e1 k2 k3 k4 hB1 d1 d2 d3 wr
  obtain ⟨-, -, k2, k3, k4⟩ := hB2.out.fr.cells
  go_wp2_with (fail)
  refine (hack.out W2 hB2.out).mono ?_
  rintro e W3 ⟨rfl, hB3⟩
  clear hB2 k2 k3 k4 hack hw
  have e3 := hB3.gt
  rw [hgot.out] at e3
  obtain ⟨-, -, k2, k3, k4⟩ := hB3.fr.cells
  replace hB3 := Lib.hid hB3
  by_cases g : f.s ≤ s.got
  · go_wp2
    go_region
    go_wp2
    go_ret2
    exact hfin0.out g _ hB3.out.drew
  · have g' : (s.got : Int) < f.s := by omega
    go_wp2
    go_region
    have hB4 := Lib.hid hB3.out.drew
    generalize W3.drew = W4 at hB4 ⊢
    clear e3 k2 k3 k4 hB3
    have e3 := hB4.out.gt
    rw [hgot.out] at e3
    obtain ⟨-, -, k2, k3, k4⟩ := hB4.out.fr.cells
    have ws := wrap_in (f.s - s.got) (by omega) (by omega)
    by_cases g2 : 16 < f.s - s.got
    · go_wp2
      go_region
      go_wp2
      go_ret2
      exact hfin9.out g g2 _ hB4.out.drew
    · go_wp2
      go_region
      have hB5 := Lib.hid hB4.out.drew
      generalize W4.drew = W5 at hB5 ⊢
      clear e3 k2 k3 k4 hB4 ws
      obtain ⟨-, -, k2, k3, k4⟩ := hB5.out.fr.cells
      have gq1 := Lib.hid (show s.got < q by have := hq.out; omega)
      have gq2 := Lib.hid (show q ≤ s.got + 16 by have := hq.out; omega)
      rw [hq.out] at k2
      go_wp2_with (fail)
      refine (hkeep.out q hq.out gq1.out gq2.out W5 hB5.out).mono ?_
      rintro e W6 ⟨rfl, hch6, hE6⟩
      replace hch6 := Lib.hid hch6
      replace hE6 := Lib.hid hE6
      clear k2 k3 k4 hB5
      go_wp2_with (fail)
      refine (hturn.out q hq.out gq1.out gq2.out W6 hch6.out hE6.out).mono ?_
      rintro e W7 ⟨b, rfl, hfin⟩
      replace hfin := Lib.hid hfin
      go_wp2
      go_ret2
      exact hfin.out
theorem in_any0 {col : Nat → Nat} {c p : Nat} {s : St} (f : Fm) (A : Option Addr) (cap : Nat) (w : World) (h : EndAt col c w p s) (hb : BL w A f.body.length f.body) (hl : f.body.length ≤ 140737488355328) (hA : f.body.length = 0 ∨ ∀ y, A = some y → col y.block ≠ c) (hc : c ≠ 0) (hf : Fresh col w)
    (hcn : s.cnt + 2 ≤ 1000000) (hs9 : f.s ≤ 9223372036854775807) :
    Calls Try.prog 14 #[.pointer (some ⟨p, 0, none⟩), .agg (cf f A cap)] w (Inned col c p s f w) := by
  by_cases h1 : f.e = s.ep
  · by_cases h2 : f.s < 0 ∨ f.a < 0 ∨ s.acked + outN s < f.a
    · exact in_arg f A cap w h h1 h2
    · exact in_rest0 f A cap w h hb hl hA hc hf hcn hs9 h1 h2
  · exact in_kind f A cap w h h1
end Go.Proofs.Ythiadkpndemeeaa.lnkZ
