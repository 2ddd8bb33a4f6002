/- add, remove, reshape: what a command does to a box. -/
import Derived.Test.YtpijljbkdfjhcaaCfE
import Derived.Test.YtpijljbkdfjhcaaSpnJ
import Derived.Test.YtpijljbkdfjhcaaSpnK
set_option linter.unusedVariables false
set_option maxRecDepth 100000
namespace Go.Proofs.Ytpijljbkdfjhcaa.cfF
open Go.ChangeShapes Go.WideShapes Go.ChangeAt Go.RowKit Go.Deep
open spnM spnA spnB spnD spnI spnJ spnK spnS cfA cfB cfC cfD cfE

def addM (s : Cf) (j : Nat) : Cf := spkM (joinM s j) j 5 2
def outM (s : Cf) (j : Nat) : Cf := { s with me := upd s.me j false, ms := upd s.ms j non }
def remM (s : Cf) (j : Nat) : Cf := spkM (outM s j) j 5 2
theorem Bx.trans {T : TypeId} {b base : Nat} {s : Cf} {w0 w1 w2 : World} (h : Bx T b base s w1 w2) (hB : Below base w0 w1) : Bx T b base s w0 w2 := by
  obtain ⟨a', h1, h2, h3⟩ := h
  exact ⟨a', h1, h2, hB.trans h3⟩
theorem add_any (b base j : Nat) (s : Cf) (a : Wh) (w : World) (hj : j < 4) (hS : SB TS b s a w) (hG : GS w base s a) (hb : base ≤ b) (hbw : base ≤ w.heap.size) :
    Calls Try.prog 40 #[.pointer (some ⟨b, 0, none⟩), .int .i64 j] w fun e w' => e = .returned (.int .i64 (if s.me j = true then 8 else 0)) ∧ Bx TS b base (if s.me j = true then s else addM s j) w w' := by
  have hj0 : (0 : Int) ≤ (j : Int) := by omega
  have hj1 : (j : Int) < 4 := by omega
  have k0 := hS.me hj
  have hX : Hid (Bx TS b base s w w) := Lib.hid ⟨a, hS, hG, Below.refl _ _⟩
  have hjn := Lib.hid (join_any b base j s a w hj hS hG hb hbw)
  have hsp := Lib.hid (fun (w1 : World) (h : Bx TS b base (joinM s j) w w1) => (by
    obtain ⟨a', h1, h2, h3⟩ := h
    exact (speak_any b base j 4 2 (joinM s j) a' w1 hj (by omega) h1 h2 hb).mono fun e w' ⟨q1, q2⟩ => ⟨q1, Bx.trans q2 h3⟩ :
    Calls Try.prog 29 #[.pointer (some ⟨b, 0, none⟩), .int .i64 j, .int .i64 4, .int .i64 2] w1 fun e w' => e = .returned (.tuple #[]) ∧ Bx TS b base (addM s j) w w'))
  clear hS hG
  generalize addM s j = s2 at *
  generalize joinM s j = s1 at *
  cases hme : s.me j with
  | true =>
    rw [hme] at k0
    rw [if_pos rfl, if_pos rfl]
    clear hme hjn hsp
    go_enter Try.func40, Try.ntmps40
    go_wp2
    go_ret
    exact ⟨rfl, hX.out⟩
  | false =>
    rw [hme] at k0
    rw [if_neg (by simp), if_neg (by simp)]
    clear hme hX
    go_enter Try.func40, Try.ntmps40
    go_wp2_with (first | (go_at_call 28; ((with_reducible refine hjn.out.mono ?_); rintro e w' ⟨rfl, hq⟩; have hq' := Lib.hid (hsp.out _ hq); clear hq)) | (go_at_call 29; ((with_reducible refine hq'.out.mono ?_); rintro e w2 ⟨rfl, hr⟩; have hr' := Lib.hid hr; clear hr)) | fail)
    go_ret
    exact ⟨rfl, hr'.out⟩
theorem remove_any (b base j : Nat) (s : Cf) (a : Wh) (w : World) (hj : j < 4) (hS : SB TS b s a w) (hG : GS w base s a) (hb : base ≤ b) (hbw : base ≤ w.heap.size) :
    Calls Try.prog 41 #[.pointer (some ⟨b, 0, none⟩), .int .i64 j] w fun e w' => e = .returned (.int .i64 (if cnt s = 1 then 13 else 0)) ∧ Bx TS b base (if cnt s = 1 then s else remM s j) w w' := by
  have hj0 : (0 : Int) ≤ (j : Int) := by omega
  have hj1 : (j : Int) < 4 := by omega
  have hct := Lib.hid (count_any s a w)
  by_cases hc : cnt s = 1
  · rw [if_pos hc, if_pos hc]
    rw [hc] at hct
    have hX := Lib.hid (fun (w1 : World) (hB : Below w.heap.size w w1) => (⟨a, hS.below hB, hG.below hB, hB.mono hbw⟩ : Bx TS b base s w w1))
    clear hc
    go_enter Try.func41, Try.ntmps41
    go_wp2_with (first | (go_at_call 13; ((with_reducible refine hct.out.mono ?_); rintro e w' ⟨rfl, hB⟩; have hx' := Lib.hid (hX.out _ hB); clear hB)) | (refine st_load rfl TS _ rfl b rfl hS (.inl rfl) ?_) | fail)
    go_ret
    exact ⟨rfl, hx'.out⟩
  · rw [if_neg hc, if_neg hc]
    have hc' : (((cnt s : Nat) : Int) == 1) = false := by rw [beq_eq_false_iff_ne]; omega
    have hkb := Lib.hid (fun (w1 : World) (hB : Below w.heap.size w w1) => hS.below hB)
    have hsp := Lib.hid (fun (w1 : World) (hB : Below w.heap.size w w1) => (by
      have g1 := (hS.below hB).setMe hj false
      have g2 := (hG.below hB).box (hS.below hB) ts1 ts2 (2 + j) (.bool false)
      have g3 := ((hB.mono hbw).setCell (p := ⟨b, 2 + j, none⟩) hb (.bool false))
      obtain ⟨a', h1, h2, h3⟩ := bx_map (s := { s with me := upd s.me j false }) hj g1 (g2.ms fun _ _ => rfl) g3 hb (GM.non_ _ base)
      exact (speak_any b base j 4 2 (outM s j) a' _ hj (by omega) h1 h2 hb).mono fun e w' ⟨q1, q2⟩ => ⟨q1, Bx.trans q2 h3⟩ :
      Calls Try.prog 29 #[.pointer (some ⟨b, 0, none⟩), .int .i64 j, .int .i64 4, .int .i64 2] (((w1.setCell ⟨b, 2 + j, none⟩ (.bool false)).setCell ⟨b, 6 + j * 2, none⟩ (.slice none 0 0)).setCell ⟨b, 6 + j * 2 + 1, none⟩ (.slice none 0 0)) fun e w' => e = .returned (.tuple #[]) ∧ Bx TS b base (remM s j) w w'))
    clear hc hG
    generalize remM s j = s2 at *
    generalize cnt s = n at *
    go_enter Try.func41, Try.ntmps41
    go_wp2_with (first
      | (go_at_call 13; ((with_reducible refine hct.out.mono ?_); rintro e w1 ⟨rfl, hB⟩; have hx' := Lib.hid (hsp.out _ hB); have hS1 := hkb.out _ hB; clear hB; have y0 := hS1.me hj; have y1 := hS1.m1 hj; have y2 := hS1.m2 hj; have f := hS1.fz))
      | (go_at_call 29; ((with_reducible refine hx'.out.mono ?_); rintro e w2 ⟨rfl, hr⟩; have hr' := Lib.hid hr; clear hr))
      | (refine st_load rfl TS _ rfl b rfl hS (.inl rfl) ?_; clear hS) | fail)
    go_ret
    exact ⟨rfl, hr'.out⟩
/-- what a command makes of a map -/
def rsE (m : M) (k : Int) (c : Cm) : Nat := if c.kind = 3 then splE m k c.shard c.key else if c.kind = 4 then mrgE m k c.shard else movE m k c.shard c.node
def rsM (m : M) (k : Int) (c : Cm) : M := if c.kind = 3 then splM m k c.shard c.key else if c.kind = 4 then mrgM m k c.shard else movM m k c.shard c.node
theorem cells6b (w : World) (c : Cm) (T : TypeId) : (w.alloc (.cells (cC c) T)).cell? ⟨w.heap.size, 0, none⟩ = some (.int .i64 c.kind) ∧ (w.alloc (.cells (cC c) T)).cell? ⟨w.heap.size, 2, none⟩ = some (.int .i64 c.shard) ∧ (w.alloc (.cells (cC c) T)).cell? ⟨w.heap.size, 3, none⟩ = some (.int .i64 c.node) ∧ (w.alloc (.cells (cC c) T)).cell? ⟨w.heap.size, 5, none⟩ = some (.string c.key) :=
  ⟨cell_of_row _ _ 0 (cC c) T (0, 0) (heap_alloc_new w _), cell_of_row _ _ 2 (cC c) T (0, 0) (heap_alloc_new w _), cell_of_row _ _ 3 (cC c) T (0, 0) (heap_alloc_new w _), cell_of_row _ _ 5 (cC c) T (0, 0) (heap_alloc_new w _)⟩
set_option maxHeartbeats 1000000 in
theorem reshaped_any (A1 : Option Addr) (c1 : Nat) (A2 : Option Addr) (c2 : Nat) (m : M) (k : Int) (c : Cm) (w : World) (h : HM w A1 c1 A2 c2 m) :
    Calls Try.prog 52 #[.agg #[.slice A1 m.cs.length c1, .slice A2 m.ns.length c2], .int .i64 k, vC c] w (Tells (rsE m k c) (rsM m k c) w) := by
  have hb1 := MB.new h
  have hB1 := al0 w (.cells #[.slice A1 m.cs.length c1, .slice A2 m.ns.length c2] 26)
  obtain ⟨W1, hW1⟩ : ∃ W1, w.alloc (.cells #[.slice A1 m.cs.length c1, .slice A2 m.ns.length c2] 26) = W1 := ⟨_, rfl⟩
  have hz1 : W1.heap.size = w.heap.size + 1 := by rw [← hW1]; simp
  rw [hW1] at hb1 hB1
  have hB2 := al0 W1 (.cells (cC c) 43)
  obtain ⟨d0, d1, d2, d3⟩ := cells6b W1 c 43
  obtain ⟨W2, hW2⟩ : ∃ W2, W1.alloc (.cells (cC c) 43) = W2 := ⟨_, rfl⟩
  have hz2 : W2.heap.size = w.heap.size + 1 + 1 := by rw [← hW2]; simp [hz1]
  rw [hW2] at d0 d1 d2 d3 hB2
  have hB3 := al0 W2 (.cells #[.slice none 0 0, .slice none 0 0] 26)
  have hb3 := B2.new W2 (.slice none 0 0) (.slice none 0 0)
  obtain ⟨W3, hW3⟩ : ∃ W3, W2.alloc (.cells #[.slice none 0 0, .slice none 0 0] 26) = W3 := ⟨_, rfl⟩
  have hz3 : W3.heap.size = w.heap.size + 1 + 1 + 1 := by rw [← hW3]; simp [hz2]
  rw [hW3] at hb3 hB3
  have hB03 := trans0 (trans0 hB1 hB2) hB3
  have hb13 := (hb1.below hB2).below hB3
  have hm3 := hb13.hm
  have d0' := keep_cell hB3 d0
  have d1' := keep_cell hB3 d1
  have d2' := keep_cell hB3 d2
  have d3' := keep_cell hB3 d3
  obtain ⟨p0, p1, -⟩ := hb13
  have hfin := Lib.hid (fun (E : Nat) (m' : M) (w' : World) (A1' A2' : Option Addr) (c1' c2' : Nat) (hG : GM w' W3.heap.size A1' c1' A2' c2' m') (hB : Below W3.heap.size W3 w') => (by
    have hr := (hb3.below hB).put (.slice A1' m'.cs.length c1') (.slice A2' m'.ns.length c2')
    refine ⟨(⟨A1', c1', A2', c2', rfl, (hG.set2 (by rw [hz3, hz2]; omega) _ _).more (by rw [hz3]; omega), below2 (trans0 hB03 hB) (by rw [hz2]; omega) _ _⟩ : Tells E m' w _ _), hr.cells.1, hr.cells.2.1⟩ :
    Tells E m' w (.returned (.tuple #[.agg #[.slice A1' m'.cs.length c1', .slice A2' m'.ns.length c2'], .int .i64 E])) ((w'.setCell ⟨W2.heap.size, 0, none⟩ (.slice A1' m'.cs.length c1')).setCell ⟨W2.heap.size, 1, none⟩ (.slice A2' m'.ns.length c2')) ∧ ((w'.setCell ⟨W2.heap.size, 0, none⟩ (.slice A1' m'.cs.length c1')).setCell ⟨W2.heap.size, 1, none⟩ (.slice A2' m'.ns.length c2')).cell? ⟨W2.heap.size, 0, none⟩ = some (.slice A1' m'.cs.length c1') ∧ ((w'.setCell ⟨W2.heap.size, 0, none⟩ (.slice A1' m'.cs.length c1')).setCell ⟨W2.heap.size, 1, none⟩ (.slice A2' m'.ns.length c2')).cell? ⟨W2.heap.size, 1, none⟩ = some (.slice A2' m'.ns.length c2')))
  have hspl := Lib.hid (split_any A1 c1 A2 c2 m k c.shard c.key W3 hm3)
  have hmrg := Lib.hid (merge_any A1 c1 A2 c2 m k c.shard W3 hm3)
  have hmov := Lib.hid (move_any A1 c1 A2 c2 m k c.shard c.node W3 hm3)
  replace hb3 := Lib.hid hb3
  have hWf : Hid (((w.alloc (.cells #[.slice A1 m.cs.length c1, .slice A2 m.ns.length c2] 26)).alloc (.cells (cC c) 43)).alloc (.cells #[.slice none 0 0, .slice none 0 0] 26) = W3) := Lib.hid (by rw [hW1, hW2, hW3])
  rw [hz2] at hb3 hfin
  rw [hz1] at d0' d1' d2' d3'
  clear h hb1 hB1 hW1 hz1 hB2 d0 d1 d2 d3 hW2 hz2 hB3 hW3 hz3 hB03 hm3
  unfold rsE rsM
  by_cases h3 : c.kind = 3
  · rw [if_pos h3, if_pos h3]
    have hk : (c.kind == 3) = true := by rw [beq_iff_eq]; exact h3
    clear h3 hmrg hmov
    generalize splE m k c.shard c.key = E at *
    generalize splM m k c.shard c.key = m' at *
    go_enter Try.func52, Try.ntmps52
    go_wp2_with (fail)
    rw [hWf.out]
    clear hWf
    go_wp2_with (go_at_call 54; ((with_reducible refine hspl.out.mono ?_); rintro e w' ⟨A1', c1', A2', c2', rfl, hG, hB⟩; have hr := Lib.hid (hfin.out E m' w' A1' A2' c1' c2' hG hB); obtain ⟨z0, z1, z2, z3⟩ := (hb3.out.below hB).cells; clear hG hB))
    have hT := hr.out.1
    have y0 := hr.out.2.1
    have y1 := hr.out.2.2
    clear z0 z1 z2 z3 hr
    refine bodyPost_ret (v := .tuple #[.agg #[.slice A1' m'.cs.length c1', .slice A2' m'.ns.length c2'], .int .i64 E]) ?_ rfl hT
    simp [results, Try.results52, go_sem, y0, y1]
  · rw [if_neg h3, if_neg h3]
    have hk3 : (c.kind == 3) = false := by rw [beq_eq_false_iff_ne]; exact h3
    by_cases h4 : c.kind = 4
    · rw [if_pos h4, if_pos h4]
      have hk : (c.kind == 4) = true := by rw [beq_iff_eq]; exact h4
      clear h3 h4 hspl hmov
      generalize mrgE m k c.shard = E at *
      generalize mrgM m k c.shard = m' at *
      go_enter Try.func52, Try.ntmps52
      go_wp2_with (fail)
      rw [hWf.out]
      clear hWf
      go_wp2_with (go_at_call 55; ((with_reducible refine hmrg.out.mono ?_); rintro e w' ⟨A1', c1', A2', c2', rfl, hG, hB⟩; have hr := Lib.hid (hfin.out E m' w' A1' A2' c1' c2' hG hB); obtain ⟨z0, z1, z2, z3⟩ := (hb3.out.below hB).cells; clear hG hB))
      have hT := hr.out.1
      have y0 := hr.out.2.1
      have y1 := hr.out.2.2
      clear z0 z1 z2 z3 hr
      refine bodyPost_ret (v := .tuple #[.agg #[.slice A1' m'.cs.length c1', .slice A2' m'.ns.length c2'], .int .i64 E]) ?_ rfl hT
      simp [results, Try.results52, go_sem, y0, y1]
    · rw [if_neg h4, if_neg h4]
      have hk : (c.kind == 4) = false := by rw [beq_eq_false_iff_ne]; exact h4
      clear h3 h4 hspl hmrg
      generalize movE m k c.shard c.node = E at *
      generalize movM m k c.shard c.node = m' at *
      go_enter Try.func52, Try.ntmps52
      go_wp2_with (fail)
      rw [hWf.out]
      clear hWf
      go_wp2_with (go_at_call 56; ((with_reducible refine hmov.out.mono ?_); rintro e w' ⟨A1', c1', A2', c2', rfl, hG, hB⟩; have hr := Lib.hid (hfin.out E m' w' A1' A2' c1' c2' hG hB); obtain ⟨z0, z1, z2, z3⟩ := (hb3.out.below hB).cells; clear hG hB))
      have hT := hr.out.1
      have y0 := hr.out.2.1
      have y1 := hr.out.2.2
      clear z0 z1 z2 z3 hr
      refine bodyPost_ret (v := .tuple #[.agg #[.slice A1' m'.cs.length c1', .slice A2' m'.ns.length c2'], .int .i64 E]) ?_ rfl hT
      simp [results, Try.results52, go_sem, y0, y1]
theorem rs_non {m : M} {k : Int} {c : Cm} (h : rsE m k c ≠ 0) : rsM m k c = non := by
  unfold rsE at h
  unfold rsM
  split
  · rename_i h3; rw [if_pos h3] at h; unfold splM; rw [if_neg h]
  · rename_i h3
    rw [if_neg h3] at h
    split
    · rename_i h4; rw [if_pos h4] at h; unfold mrgM; rw [if_neg h]
    · rename_i h4; rw [if_neg h4] at h; unfold movM; rw [if_neg h]
theorem rs_sm (m : M) (k : Int) (c : Cm) : Sm (rsM m k c) := by
  unfold rsM
  split
  · exact sm_spl _ _ _ _
  · split
    · exact sm_mrg _ _ _
    · exact sm_mov _ _ _ _
def shpM (s : Cf) (j : Nat) (c : Cm) : Cf := { s with ms := upd s.ms j (rsM (s.ms j) s.nodes c) }
end Go.Proofs.Ytpijljbkdfjhcaa.cfF
