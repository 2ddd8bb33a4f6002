/- reshape: what a command does to a map of a configuration's. -/
import Derived.Test.YtpijljbkdfjhcaaCfF
set_option linter.unusedVariables false
set_option maxRecDepth 100000
namespace Go.Proofs.Ytpijljbkdfjhcaa.cfG
open Go.ChangeShapes Go.WideShapes Go.ChangeAt Go.RowKit Go.Deep
open spnM spnA spnB spnD spnI spnJ spnK spnS cfA cfB cfC cfD cfE cfF

/-- what the call's region loads -/
abbrev L9 (b q j : Nat) (s : Cf) (a : Wh) (c : Cm) (w : World) : Prop :=
  w.cell? ⟨q, 0, none⟩ = some (.int .i64 c.kind) ∧ w.cell? ⟨q, 1, none⟩ = some (.int .i64 c.dc) ∧ w.cell? ⟨q, 2, none⟩ = some (.int .i64 c.shard) ∧ w.cell? ⟨q, 3, none⟩ = some (.int .i64 c.node) ∧ w.cell? ⟨q, 4, none⟩ = some (.int .i64 c.mode) ∧ w.cell? ⟨q, 5, none⟩ = some (.string c.key) ∧
  w.cell? ⟨b, 1, none⟩ = some (.int .i64 s.nodes) ∧ w.cell? ⟨b, 6 + j * 2, none⟩ = some (.slice (a j).A1 (s.ms j).cs.length (a j).c1) ∧ w.cell? ⟨b, 6 + j * 2 + 1, none⟩ = some (.slice (a j).A2 (s.ms j).ns.length (a j).c2)
theorem L9.to {b q j : Nat} {s : Cf} {a : Wh} {c : Cm} {w w1 : World} (h : L9 b q j s a c w) (hB : Below w.heap.size w w1) : L9 b q j s a c w1 :=
  ⟨keep_cell hB h.1, keep_cell hB h.2.1, keep_cell hB h.2.2.1, keep_cell hB h.2.2.2.1, keep_cell hB h.2.2.2.2.1, keep_cell hB h.2.2.2.2.2.1, keep_cell hB h.2.2.2.2.2.2.1, keep_cell hB h.2.2.2.2.2.2.2.1, keep_cell hB h.2.2.2.2.2.2.2.2⟩
theorem cell_set2 {w : World} {p b o : Nat} {v : Value} (h : w.cell? ⟨b, o, none⟩ = some v) (hne : p ≠ b) (x y : Value) : ((w.setCell ⟨p, 0, none⟩ x).setCell ⟨p, 1, none⟩ y).cell? ⟨b, o, none⟩ = some v := by
  rw [World.cell?_setCell_other _ _ _ _ (fun e => hne (congrArg Addr.block e)), World.cell?_setCell_other _ _ _ _ (fun e => hne (congrArg Addr.block e))]; exact h
theorem L9.set2 {b q j p : Nat} {s : Cf} {a : Wh} {c : Cm} {w : World} (h : L9 b q j s a c w) (h1 : p ≠ q) (h2 : p ≠ b) (x y : Value) : L9 b q j s a c ((w.setCell ⟨p, 0, none⟩ x).setCell ⟨p, 1, none⟩ y) :=
  ⟨cell_set2 h.1 h1 x y, cell_set2 h.2.1 h1 x y, cell_set2 h.2.2.1 h1 x y, cell_set2 h.2.2.2.1 h1 x y, cell_set2 h.2.2.2.2.1 h1 x y, cell_set2 h.2.2.2.2.2.1 h1 x y, cell_set2 h.2.2.2.2.2.2.1 h2 x y, cell_set2 h.2.2.2.2.2.2.2.1 h2 x y, cell_set2 h.2.2.2.2.2.2.2.2 h2 x y⟩
/-- what the region leaves: the new map in a box p -/
def NM (W : World) (p : Nat) (A1 : Option Addr) (c1 : Nat) (A2 : Option Addr) (c2 : Nat) (m : M) (w : World) : Prop :=
  W.heap.size ≤ p ∧ B2 p (.slice A1 m.cs.length c1) (.slice A2 m.ns.length c2) w ∧ GM w W.heap.size A1 c1 A2 c2 m ∧ Below W.heap.size W w
theorem nm_late {W w' : World} {A1 A2 : Option Addr} {c1 c2 : Nat} {m : M} (hG : GM w' W.heap.size A1 c1 A2 c2 m) (hB : Below W.heap.size W w') :
    NM W w'.heap.size A1 c1 A2 c2 m (w'.alloc (.cells #[.slice A1 m.cs.length c1, .slice A2 m.ns.length c2] 26)) :=
  ⟨hB.size, B2.new w' _ _, hG.below (al0 w' _), hB.alloc hB.size _⟩
theorem nm_early {W w' : World} {A1 A2 : Option Addr} {c1 c2 : Nat} {m : M} (hG : GM w' (W.alloc (.cells #[.slice none 0 0, .slice none 0 0] 26)).heap.size A1 c1 A2 c2 m) (hB : Below (W.alloc (.cells #[.slice none 0 0, .slice none 0 0] 26)).heap.size (W.alloc (.cells #[.slice none 0 0, .slice none 0 0] 26)) w') :
    NM W W.heap.size A1 c1 A2 c2 m ((w'.setCell ⟨W.heap.size, 0, none⟩ (.slice A1 m.cs.length c1)).setCell ⟨W.heap.size, 1, none⟩ (.slice A2 m.ns.length c2)) := by
  have h1 := (B2.new W (.slice none 0 0) (.slice none 0 0)).below hB
  exact ⟨Nat.le_refl _, h1.put _ _, (hG.set2 (by simp) _ _).more (by simp), below2 (trans0 (al0 W _) hB) (Nat.le_refl _) _ _⟩
theorem undrew' {w w' : World} (h : Below w.drew.heap.size w.drew w') : Below w.heap.size w w' := ⟨h.os, h.tape, h.output, h.size, h.block⟩
set_option maxHeartbeats 1000000 in
theorem reshape_any (b base j : Nat) (s : Cf) (a : Wh) (c : Cm) (w : World) (hj : j < 4) (hdc : c.dc = j) (hS : SB TS b s a w) (hG : GS w base s a) (hz : Sz s) (hb : base ≤ b) (hbw : base ≤ w.heap.size) :
    Calls Try.prog 43 #[.pointer (some ⟨b, 0, none⟩), vC c] w fun e w' => e = .returned (.int .i64 (rsE (s.ms j) s.nodes c)) ∧ Bx TS b base (if rsE (s.ms j) s.nodes c = 0 then shpM s j c else s) w w' := by
  have hB0 := al0 w (.cells (cC c) 43)
  obtain ⟨d0, d1, d2⟩ := cells6 w c 43
  obtain ⟨e0, e2, e3, e5⟩ := cells6b w c 43
  obtain ⟨W, hW⟩ : ∃ W, w.alloc (.cells (cC c) 43) = W := ⟨_, rfl⟩
  have hS1 := hS.below hB0
  have hG1 := hG.below hB0
  have hBw := (Below.refl base w).alloc hbw (.cells (cC c) 43)
  have hsz : base ≤ W.heap.size := by rw [← hW]; simp; omega
  have hqW : w.heap.size < W.heap.size := by rw [← hW]; simp
  rw [hW] at hS1 d0 d1 d2 e0 e2 e3 e5 hG1 hBw
  have hbW := hS1.lt
  have hj0 : (0 : Int) ≤ c.dc := by omega
  have hj1 : c.dc < 4 := by omega
  have hj2 : c.dc.toNat = j := by omega
  have hL : L9 b w.heap.size j s a c W := ⟨e0, d0, e2, d1, d2, e5, hS1.c1, hS1.m1 hj, hS1.m2 hj⟩
  have hs4 := Lib.hid (hL.to (below_drew W))
  have hs5 := Lib.hid (hL.to (al0 W (.cells #[.slice none 0 0, .slice none 0 0] 26)).drew)
  have hrA := Lib.hid (reshaped_any _ _ _ _ (s.ms j) s.nodes c W.drew ((hG1.hs hz j hj).below (below_drew W)))
  have hrB := Lib.hid (reshaped_any _ _ _ _ (s.ms j) s.nodes c (W.alloc (.cells #[.slice none 0 0, .slice none 0 0] 26)).drew ((hG1.hs hz j hj).below (al0 W _).drew))
  have hsm := Lib.hid (rs_sm (s.ms j) s.nodes c)
  have hne := Lib.hid (show ∀ p, W.heap.size ≤ p → p ≠ w.heap.size ∧ p ≠ b from fun p hp => ⟨by omega, by omega⟩)
  obtain ⟨R, hR⟩ : ∃ R, (if rsE (s.ms j) s.nodes c = 0 then shpM s j c else s) = R := ⟨_, rfl⟩
  rw [hR]
  unfold shpM at hR
  replace hR := Lib.hid hR
  replace hS1 := Lib.hid hS1
  replace hG1 := Lib.hid hG1
  replace hBw := Lib.hid hBw
  have hWf := Lib.hid hW
  have hbx := Lib.hid (B2.new W (.slice none 0 0) (.slice none 0 0))
  have hdc' := Lib.hid (show W.cell? ⟨w.heap.size, 1, none⟩ = some (.int .i64 c.dc) from d0)
  clear hS hG hB0 hW hdc hL d0 d1 d2 e0 e2 e3 e5 hbW hqW hz
  generalize rsE (s.ms j) s.nodes c = E at *
  generalize rsM (s.ms j) s.nodes c = m at *
  go_enter Try.func43, Try.ntmps43
  go_upto_region 1 with (fail)
  rw [hWf.out]
  go_cut [5, 6] from 5 to 22 (fun x y wx => ∃ p A1 c1 A2 c2, x = .pointer (some ⟨p, 0, none⟩) ∧ y = .int .i64 (E : Int) ∧ Hid (NM W p A1 c1 A2 c2 m wx))
  case first =>
    go_region_held3 (L9 b w.heap.size j s a c)
      (first | with_reducible exact hs4.out | with_reducible exact hs5.out | with_reducible exact s4.out | with_reducible exact s4a.out _ | with_reducible exact s5.out | with_reducible exact t5.out _ _ | (go_must (exact (0 : Nat))) | fail)
      (first
        | (go_at_call 52; ((with_reducible refine hrA.out.mono ?_); rintro e w' ⟨A1', c1', A2', c2', rfl, hG', hB'⟩; have s4 : Hid (L9 b w.heap.size j s a c w') := Lib.hid (L9.to hs4.out hB'); have s4a := Lib.hid (fun o => L9.to s4.out (al0 w' o)); have hn4 := Lib.hid (nm_late (W := W) hG' (undrew' hB')); clear hG' hB'))
        | (go_at_call 52; ((with_reducible refine hrB.out.mono ?_); rintro e w' ⟨A1', c1', A2', c2', rfl, hG', hB'⟩; have s5 : Hid (L9 b w.heap.size j s a c w') := Lib.hid (L9.to hs5.out hB'); have t5 := Lib.hid (fun x y => L9.set2 (p := W.heap.size) s5.out (hne.out _ (Nat.le_refl _)).1 (hne.out _ (Nat.le_refl _)).2 x y); obtain ⟨y0, y1, y2, y3⟩ := (hbx.out.below (undrew' hB')).cells; have hn5 := Lib.hid (nm_early (W := W) hG' (undrew' hB')); clear hG' hB'))
        | (go_at_call 52; go_must (exact (0 : Nat)))
        | fail)
    all_goals
      go_wp2
      go_meet
      first
        | with_reducible exact ⟨_, _, _, _, _, rfl, rfl, hn4⟩
        | with_reducible exact ⟨_, _, _, _, _, rfl, rfl, hn5⟩
        | fail
  case rest =>
    obtain ⟨p, A1, c1, A2, c2, rfl, rfl, hn⟩ := hcut
    obtain ⟨hp, hb2, hG2, hB2⟩ := hn.out
    have hS2 := hS1.out.below hB2
    have hG3 := hG1.out.below hB2
    have hB3 := hBw.out.trans (hB2.mono hsz)
    have hX : Hid (Bx TS b base s w wc) := Lib.hid ⟨a, hS2, hG3, hB3⟩
    have hY := Lib.hid (bx_map hj hS2.drew (fun i hi => ⟨(hG3 i hi).cs, (hG3 i hi).ns⟩) hB3.drew hb (⟨(hG2.more hsz).cs, (hG2.more hsz).ns⟩ : GM wc.drew base A1 c1 A2 c2 m))
    obtain ⟨y0, y1, -, -⟩ := hb2.cells
    have z0 := hS2.m1 hj
    have z1 := hS2.m2 hj
    have f := hS2.fz
    have q := keep_cell hB2 hdc'.out
    clear hn hp hb2 hG2 hB2 hS2 hG3 hB3 hS1 hG1 hBw hbx hdc' hrA hrB hs4 hs5 hne
    rename_i K1 aK1
    by_cases h0 : E = 0
    · subst h0
      obtain rfl := hR.out
      go_wp2_with (fail)
      go_region
      all_goals
        go_wp2
        go_ret
        exact ⟨rfl, hY.out⟩
    · have h0' : ((E : Int) == 0) = false := by rw [beq_eq_false_iff_ne]; omega
      have hR' := Lib.hid (hR.out.symm.trans (if_neg h0))
      clear h0 hY
      go_wp2
      go_ret
      exact ⟨rfl, by rw [hR'.out]; exact hX.out⟩
end Go.Proofs.Ytpijljbkdfjhcaa.cfG
