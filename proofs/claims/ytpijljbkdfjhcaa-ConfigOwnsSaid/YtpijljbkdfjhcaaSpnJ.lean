/- The contract of Merge. -/
import Derived.Test.YtpijljbkdfjhcaaSpnI
set_option linter.unusedVariables false
namespace Go.Proofs.Ytpijljbkdfjhcaa.spnJ
open Go.ChangeShapes Go.WideShapes Go.ChangeAt Go.RowKit
open spnM spnA spnB spnC spnN spnP spnD spnE spnF spnH spnI
attribute [local go_sem high] bin_slt bin_sle bin_sge bin_seq bin_sne

theorem mrg_no {m : M} {k i : Int} (h : caE m k i ≠ 0) : mrgE m k i = caE m k i ∧ mrgM m k i = non := by
  have e : mrgE m k i = caE m k i := by
    unfold caE at h ⊢
    unfold mrgE
    split
    · rfl
    · rename_i h1
      rw [if_neg h1] at h
      split at h
      · rename_i h2
        have hok := (chk_iff m k).1 (by omega)
        have hc := hok.nc
        have : isN i m.cs.length = false := by
          cases e : isN i m.cs.length
          · rfl
          · have := (isN_iff _ _).1 e
            rw [(there_iff m i).2 ⟨hc, by omega, by omega⟩] at h2; cases h2
        rw [if_pos this, if_pos h2]
      · exact absurd rfl h
  exact ⟨e, by unfold mrgM; rw [if_neg (by rw [e]; exact h)]⟩
theorem mrg_7 {m : M} {k : Int} {j : Nat} (h : chk m k = 0) (h2 : ¬ j < m.cs.length) : mrgE m k j = 7 ∧ mrgM m k j = non := by
  have e : mrgE m k j = 7 := by
    unfold mrgE
    rw [if_neg (by omega), if_pos]
    cases e : isN (j : Int) m.cs.length
    · rfl
    · have := (isN_iff _ _).1 e; omega
  exact ⟨e, by unfold mrgM; rw [if_neg (by omega)]⟩
theorem mrg_18 {m : M} {k : Int} {j : Nat} (h : chk m k = 0) (h2 : j < m.cs.length) (h3 : node m j ≠ node m (j + 1)) : mrgE m k j = 18 ∧ mrgM m k j = non := by
  have e : mrgE m k j = 18 := by
    unfold mrgE
    rw [if_neg (by omega), if_neg (by rw [Bool.not_eq_false, isN_iff]; omega), if_pos (by simpa using h3)]
  exact ⟨e, by unfold mrgM; rw [if_neg (by omega)]⟩
theorem mrg_0 {m : M} {k : Int} {j : Nat} (h : chk m k = 0) (h2 : j < m.cs.length) (h3 : node m j = node m (j + 1)) : mrgE m k j = 0 ∧ mrgM m k j = ⟨delA m.cs j, delA m.ns j⟩ := by
  have e : mrgE m k j = 0 := by
    unfold mrgE
    rw [if_neg (by omega), if_neg (by rw [Bool.not_eq_false, isN_iff]; omega), if_neg (by simpa using h3)]
  exact ⟨e, by unfold mrgM; rw [if_pos e]; rfl⟩
theorem at_no {m : M} {j : Nat} (h : ¬ j < m.cs.length) (hnc : m.ns.length = m.cs.length + 1) : atV m ((j : Int) + 1) = .tuple #[.agg #[.string emp, .string emp, .int .i64 0], .bool false] := by
  have e : there m ((j : Int) + 1) = false := by
    cases e : there m ((j : Int) + 1)
    · rfl
    · have := (there_iff _ _).1 e; omega
  unfold atV; rw [e]; rfl
theorem at_yes {m : M} {j : Nat} (h : j < m.cs.length) (hnc : m.ns.length = m.cs.length + 1) : atV m ((j : Int) + 1) = .tuple #[.agg #[.string (spnM.lo m (j + 1)), .string (spnM.hi m (j + 1)), .int .i64 (node m (j + 1))], .bool true] := by
  have e : there m ((j : Int) + 1) = true := (there_iff _ _).2 ⟨hnc, by omega, by omega⟩
  unfold atV; rw [e, if_pos rfl, if_pos rfl, if_pos rfl]; rfl
set_option maxRecDepth 100000 in
set_option maxHeartbeats 2000000 in
theorem merge_no (A1 : Option Addr) (c1 : Nat) (A2 : Option Addr) (c2 : Nat) (m : M) (k i : Int) (w : World) (h : HM w A1 c1 A2 c2 m) (hz : caE m k i ≠ 0) :
    Calls Try.prog 55 #[.agg #[.slice A1 m.cs.length c1, .slice A2 m.ns.length c2], .int .i64 k, .int .i64 i] w (Tells (mrgE m k i) (mrgM m k i) w) := by
  obtain ⟨e1, e2⟩ := mrg_no (k := k) hz
  rw [e1, e2]
  have hv := Lib.hid (caV_no (m := m) (k := k) (i := i) rfl hz)
  have hne : ((caE m k i : Int) != 0) = true := by rw [bne_iff_ne]; omega
  obtain ⟨W, hW, hb4, hb8, hal⟩ := head_boxes w (.slice A1 m.cs.length c1) (.slice A2 m.ns.length c2)
  have hck := Lib.hid (checked_any A1 c1 A2 c2 m k i W (h.below hal))
  replace hb4 := Lib.hid hb4
  replace hb8 := Lib.hid hb8
  replace hal := Lib.hid hal
  replace hW := Lib.hid hW
  clear e1 e2 hz h
  generalize caE m k i = E at *
  go_enter Try.func55, Try.ntmps55
  go_wp2_with (fail)
  rw [hW.out]
  refine hck.out.mono ?_
  rintro e w1 ⟨rfl, hB1⟩
  rw [hv.out]
  obtain ⟨hb, hl4, hl8⟩ := head_shard hb4.out hb8.out hal.out hB1 emp emp 0
  obtain ⟨-, -, p2, p3⟩ := hb.m4.cells
  obtain ⟨z0, z1, z2, z3⟩ := hb.m8.cells
  obtain ⟨y0, y1, -, -⟩ := (hb.m8.put (.slice none 0 0) (.slice none 0 0)).cells
  have hbl := Lib.hid (below2 (i := 0) (j := 1) hb.bel (Nat.le_succ _) (.slice none 0 0) (.slice none 0 0))
  clear hb hB1 p2 p3 hl4 hl8
  go_wp2
  refine bodyPost_ret (v := .tuple #[.agg #[.slice none 0 0, .slice none 0 0], .int .i64 E]) ?_ rfl (tells_no hbl.out)
  clear z0 z1 z2 z3
  simp [results, Try.results55, go_sem, y0, y1]
set_option maxRecDepth 100000 in
set_option maxHeartbeats 2000000 in
theorem merge_7 (A1 : Option Addr) (c1 : Nat) (A2 : Option Addr) (c2 : Nat) (m : M) (k i : Int) (w : World) (h : HM w A1 c1 A2 c2 m) (hz : caE m k i = 0) (hc : ¬ i.toNat < m.cs.length) :
    Calls Try.prog 55 #[.agg #[.slice A1 m.cs.length c1, .slice A2 m.ns.length c2], .int .i64 k, .int .i64 i] w (Tells (mrgE m k i) (mrgM m k i) w) := by
  obtain ⟨e1, e2⟩ := (show mrgE m k i = 7 ∧ mrgM m k i = non by obtain ⟨a1, a2⟩ := ca_zero hz; obtain ⟨b1, b2, b3⟩ := (there_iff m i).1 a2; obtain ⟨j, rfl⟩ : ∃ j : Nat, i = j := ⟨i.toNat, by omega⟩; exact mrg_7 a1 hc)
  rw [e1, e2]
  have hv := Lib.hid (caV_yes (m := m) (k := k) (i := i) hz)
  obtain ⟨W, hW, hb4, hb8, hal⟩ := head_boxes w (.slice A1 m.cs.length c1) (.slice A2 m.ns.length c2)
  have hck := Lib.hid (checked_any A1 c1 A2 c2 m k i W (h.below hal))
  have hmW := Lib.hid (h.below hal)
  obtain ⟨hk, hth⟩ := ca_zero hz
  have hok := (chk_iff m k).1 hk
  obtain ⟨hnc, hi0, hi1⟩ := (there_iff m i).1 hth
  obtain ⟨j, rfl⟩ : ∃ j : Nat, i = j := ⟨i.toNat, by omega⟩
  rw [show ((j : Int)).toNat = j from rfl] at *
  have hn8 := hok.n8
  have hj9 : (j : Int) ≤ 8 := by omega
  have hat := Lib.hid (fun X (hB : Below W.heap.size W X) => at_any A1 c1 A2 c2 m ((j : Int) + 1) X (hmW.out.below hB))
  rw [at_no hc hnc] at hat
  clear hc
  replace hb4 := Lib.hid hb4
  replace hb8 := Lib.hid hb8
  replace hW := Lib.hid hW
  replace hal := Lib.hid hal
  replace hnc := Lib.hid hnc
  generalize spnM.lo m j = x at *
  generalize spnM.hi m j = y at *
  generalize node m j = n at *
  clear h hz hk hth hok hi0 hi1 e1 e2
  go_enter Try.func55, Try.ntmps55
  go_wp2_with (fail)
  rw [hW.out]
  refine hck.out.mono ?_
  rintro e w1 ⟨rfl, hB1⟩
  rw [hv.out]
  obtain ⟨hb, hl4, hl8⟩ := head_shard hb4.out hb8.out hal.out hB1 x y n
  have hBW1 := Lib.hid (trans0 hB1 (al0 w1 (.cells #[.string x, .string y, .int .i64 n] 84)))
  have hsz1 := Lib.hid (show w1.heap.size < (w1.alloc (.cells #[.string x, .string y, .int .i64 n] 84)).heap.size by simp)
  replace hl4 := Lib.hid hl4
  replace hl8 := Lib.hid hl8
  clear hB1 hck
  obtain ⟨r0, r1, r2, -⟩ := hb.s10.cells
  obtain ⟨p0, p1, -⟩ := hb.m4.cells
  replace hb := Lib.hid hb
  go_wp2_with (fail)
  refine (hat.out _ hBW1.out).mono ?_
  rintro e w2 ⟨rfl, hB2⟩
  have hb2 := hb.out.below hB2
  have hBW2 := Lib.hid (trans0 hBW1.out hB2)
  have hl10 := Lib.hid (Nat.lt_of_lt_of_le hsz1.out hB2.size)
  clear r0 r1 r2 p0 p1 hB2 hat
  have hbE := hb2.below (al0 w2 (.cells #[.string emp, .string emp, .int .i64 0] 84))
  clear hb2
  obtain ⟨z0, z1, z2, z3⟩ := hbE.m8.cells
  obtain ⟨y0, y1, -, -⟩ := (hbE.m8.put (.slice none 0 0) (.slice none 0 0)).cells
  have hbl := Lib.hid (below2 (i := 0) (j := 1) hbE.bel (Nat.le_succ _) (.slice none 0 0) (.slice none 0 0))
  clear hbE
  go_wp2
  refine bodyPost_ret (v := .tuple #[.agg #[.slice none 0 0, .slice none 0 0], .int .i64 (7 : Nat)]) ?_ rfl (tells_no hbl.out)
  clear z0 z1 z2 z3
  simp [results, Try.results55, go_sem, y0, y1]
set_option maxRecDepth 100000 in
set_option maxHeartbeats 2000000 in
theorem merge_18 (A1 : Option Addr) (c1 : Nat) (A2 : Option Addr) (c2 : Nat) (m : M) (k i : Int) (w : World) (h : HM w A1 c1 A2 c2 m) (hz : caE m k i = 0) (hc : i.toNat < m.cs.length) (hd : node m i.toNat ≠ node m (i.toNat + 1)) :
    Calls Try.prog 55 #[.agg #[.slice A1 m.cs.length c1, .slice A2 m.ns.length c2], .int .i64 k, .int .i64 i] w (Tells (mrgE m k i) (mrgM m k i) w) := by
  obtain ⟨e1, e2⟩ := (show mrgE m k i = 18 ∧ mrgM m k i = non by obtain ⟨a1, a2⟩ := ca_zero hz; obtain ⟨b1, b2, b3⟩ := (there_iff m i).1 a2; obtain ⟨j, rfl⟩ : ∃ j : Nat, i = j := ⟨i.toNat, by omega⟩; exact mrg_18 a1 hc hd)
  rw [e1, e2]
  have hv := Lib.hid (caV_yes (m := m) (k := k) (i := i) hz)
  obtain ⟨W, hW, hb4, hb8, hal⟩ := head_boxes w (.slice A1 m.cs.length c1) (.slice A2 m.ns.length c2)
  have hck := Lib.hid (checked_any A1 c1 A2 c2 m k i W (h.below hal))
  have hmW := Lib.hid (h.below hal)
  obtain ⟨hk, hth⟩ := ca_zero hz
  have hok := (chk_iff m k).1 hk
  obtain ⟨hnc, hi0, hi1⟩ := (there_iff m i).1 hth
  obtain ⟨j, rfl⟩ : ∃ j : Nat, i = j := ⟨i.toNat, by omega⟩
  rw [show ((j : Int)).toNat = j from rfl] at *
  have hn8 := hok.n8
  have hj9 : (j : Int) ≤ 8 := by omega
  have hat := Lib.hid (fun X (hB : Below W.heap.size W X) => at_any A1 c1 A2 c2 m ((j : Int) + 1) X (hmW.out.below hB))
  rw [at_yes hc hnc] at hat
  generalize spnM.lo m (j + 1) = x' at *
  generalize spnM.hi m (j + 1) = y' at *
  generalize node m (j + 1) = n' at *
  clear hc
  replace hb4 := Lib.hid hb4
  replace hb8 := Lib.hid hb8
  replace hW := Lib.hid hW
  replace hal := Lib.hid hal
  replace hnc := Lib.hid hnc
  generalize spnM.lo m j = x at *
  generalize spnM.hi m j = y at *
  generalize node m j = n at *
  have hdb : (n != n') = true := by rw [bne_iff_ne]; exact hd
  clear hd
  clear h hz hk hth hok hi0 hi1 e1 e2
  go_enter Try.func55, Try.ntmps55
  go_wp2_with (fail)
  rw [hW.out]
  refine hck.out.mono ?_
  rintro e w1 ⟨rfl, hB1⟩
  rw [hv.out]
  obtain ⟨hb, hl4, hl8⟩ := head_shard hb4.out hb8.out hal.out hB1 x y n
  have hBW1 := Lib.hid (trans0 hB1 (al0 w1 (.cells #[.string x, .string y, .int .i64 n] 84)))
  have hsz1 := Lib.hid (show w1.heap.size < (w1.alloc (.cells #[.string x, .string y, .int .i64 n] 84)).heap.size by simp)
  replace hl4 := Lib.hid hl4
  replace hl8 := Lib.hid hl8
  clear hB1 hck
  obtain ⟨r0, r1, r2, -⟩ := hb.s10.cells
  obtain ⟨p0, p1, -⟩ := hb.m4.cells
  replace hb := Lib.hid hb
  go_wp2_with (fail)
  refine (hat.out _ hBW1.out).mono ?_
  rintro e w2 ⟨rfl, hB2⟩
  have hb2 := hb.out.below hB2
  have hBW2 := Lib.hid (trans0 hBW1.out hB2)
  have hl10 := Lib.hid (Nat.lt_of_lt_of_le hsz1.out hB2.size)
  clear r0 r1 r2 p0 p1 hB2 hat
  have hbE := hb2.below (al0 w2 (.cells #[.string x', .string y', .int .i64 n'] 84))
  obtain ⟨r0, r1, r2, -⟩ := hbE.s10.cells
  obtain ⟨s0, s1, s2⟩ := cells3 w2 (.string x') (.string y') (.int .i64 n') 84
  clear hb2
  obtain ⟨z0, z1, z2, z3⟩ := hbE.m8.cells
  obtain ⟨y0, y1, -, -⟩ := (hbE.m8.put (.slice none 0 0) (.slice none 0 0)).cells
  have hbl := Lib.hid (below2 (i := 0) (j := 1) hbE.bel (Nat.le_succ _) (.slice none 0 0) (.slice none 0 0))
  clear hbE
  go_wp2
  refine bodyPost_ret (v := .tuple #[.agg #[.slice none 0 0, .slice none 0 0], .int .i64 (18 : Nat)]) ?_ rfl (tells_no hbl.out)
  clear z0 z1 z2 z3
  simp [results, Try.results55, go_sem, y0, y1]
set_option maxRecDepth 100000 in
set_option maxHeartbeats 2000000 in
theorem merge_0 (A1 : Option Addr) (c1 : Nat) (A2 : Option Addr) (c2 : Nat) (m : M) (k i : Int) (w : World) (h : HM w A1 c1 A2 c2 m) (hz : caE m k i = 0) (hc : i.toNat < m.cs.length) (hd : node m i.toNat = node m (i.toNat + 1)) :
    Calls Try.prog 55 #[.agg #[.slice A1 m.cs.length c1, .slice A2 m.ns.length c2], .int .i64 k, .int .i64 i] w (Tells (mrgE m k i) (mrgM m k i) w) := by
  obtain ⟨e1, e2⟩ := (show mrgE m k i = 0 ∧ mrgM m k i = ⟨delA m.cs i.toNat, delA m.ns i.toNat⟩ by obtain ⟨a1, a2⟩ := ca_zero hz; obtain ⟨b1, b2, b3⟩ := (there_iff m i).1 a2; obtain ⟨j, rfl⟩ : ∃ j : Nat, i = j := ⟨i.toNat, by omega⟩; exact mrg_0 a1 hc hd)
  rw [e1, e2]
  have hv := Lib.hid (caV_yes (m := m) (k := k) (i := i) hz)
  obtain ⟨W, hW, hb4, hb8, hal⟩ := head_boxes w (.slice A1 m.cs.length c1) (.slice A2 m.ns.length c2)
  have hck := Lib.hid (checked_any A1 c1 A2 c2 m k i W (h.below hal))
  have hmW := Lib.hid (h.below hal)
  obtain ⟨hk, hth⟩ := ca_zero hz
  have hok := (chk_iff m k).1 hk
  obtain ⟨hnc, hi0, hi1⟩ := (there_iff m i).1 hth
  obtain ⟨j, rfl⟩ : ∃ j : Nat, i = j := ⟨i.toNat, by omega⟩
  rw [show ((j : Int)).toNat = j from rfl] at *
  have hn8 := hok.n8
  have hj9 : (j : Int) ≤ 8 := by omega
  have hat := Lib.hid (fun X (hB : Below W.heap.size W X) => at_any A1 c1 A2 c2 m ((j : Int) + 1) X (hmW.out.below hB))
  rw [at_yes hc hnc] at hat
  generalize spnM.lo m (j + 1) = x' at *
  generalize spnM.hi m (j + 1) = y' at *
  generalize node m (j + 1) = n' at *
  replace hb4 := Lib.hid hb4
  replace hb8 := Lib.hid hb8
  replace hW := Lib.hid hW
  replace hal := Lib.hid hal
  replace hnc := Lib.hid hnc
  generalize spnM.lo m j = x at *
  generalize spnM.hi m j = y at *
  generalize node m j = n at *
  have hdb : (n != n') = false := by rw [bne_eq_false_iff_eq]; exact hd
  clear hd
  clear h hz hk hth hok hi0 hi1 e1 e2
  go_enter Try.func55, Try.ntmps55
  go_wp2_with (fail)
  rw [hW.out]
  refine hck.out.mono ?_
  rintro e w1 ⟨rfl, hB1⟩
  rw [hv.out]
  obtain ⟨hb, hl4, hl8⟩ := head_shard hb4.out hb8.out hal.out hB1 x y n
  have hBW1 := Lib.hid (trans0 hB1 (al0 w1 (.cells #[.string x, .string y, .int .i64 n] 84)))
  have hsz1 := Lib.hid (show w1.heap.size < (w1.alloc (.cells #[.string x, .string y, .int .i64 n] 84)).heap.size by simp)
  replace hl4 := Lib.hid hl4
  replace hl8 := Lib.hid hl8
  clear hB1 hck
  obtain ⟨r0, r1, r2, -⟩ := hb.s10.cells
  obtain ⟨p0, p1, -⟩ := hb.m4.cells
  replace hb := Lib.hid hb
  go_wp2_with (fail)
  refine (hat.out _ hBW1.out).mono ?_
  rintro e w2 ⟨rfl, hB2⟩
  have hb2 := hb.out.below hB2
  have hBW2 := Lib.hid (trans0 hBW1.out hB2)
  have hl10 := Lib.hid (Nat.lt_of_lt_of_le hsz1.out hB2.size)
  clear r0 r1 r2 p0 p1 hB2 hat
  have hbE := hb2.below (al0 w2 (.cells #[.string x', .string y', .int .i64 n'] 84))
  obtain ⟨r0, r1, r2, -⟩ := hbE.s10.cells
  obtain ⟨s0, s1, s2⟩ := cells3 w2 (.string x') (.string y') (.int .i64 n') 84
  obtain ⟨p0, p1, -⟩ := hbE.m4.cells
  have hcp := Lib.hid (copy_any A1 c1 A2 c2 m _ (hmW.out.below (trans0 hBW2.out (al0 w2 (.cells #[.string x', .string y', .int .i64 n'] 84)))))
  replace hbE := Lib.hid hbE
  clear hb2
  go_wp2_with (fail)
  refine hcp.out.mono ?_
  rintro e w3 ⟨D1, d1, D2, d2, rfl, hG, hB3⟩
  rw [World.size_alloc] at hG
  have hb3 := hbE.out.below hB3
  obtain ⟨z0, z1, z2, z3⟩ := hb3.m4.cells
  have l1 := hl4.out
  have l2 := hl8.out
  have l3 := hl10.out
  have hb4' := hb3.put (by omega) (by omega) (Nat.le_refl _) (.slice D1 m.cs.length d1) (.slice D2 m.ns.length d2)
  have hG4 := hG.set2 (b := w.heap.size) (by omega) (.slice D1 m.cs.length d1) (.slice D2 m.ns.length d2)
  obtain ⟨w4, hw4e⟩ : ∃ w4, (w3.setCell ⟨w.heap.size, 0, none⟩ (.slice D1 m.cs.length d1)).setCell ⟨w.heap.size, 1, none⟩ (.slice D2 m.ns.length d2) = w4 := ⟨_, rfl⟩
  rw [hw4e] at hb4' hG4
  have hw4f := Lib.hid hw4e
  have hcap := own_cap hG4.cs
  have hdel := Lib.hid (delS (w2.heap.size + 1) m.cs.length d1 j D1 m.cs ((j : Int) + 1) w4 hG4.cs hc rfl hcap.2.1)
  replace hb4' := Lib.hid hb4'
  replace hG4 := Lib.hid hG4
  clear hB3 hb3 hG p0 p1 hcp hbE hw4e hcap l1 l2 l3 r0 r1 r2 s0 s1 s2
  go_wp2_with (fail)
  rw [hw4f.out]
  refine hdel.out.mono ?_
  rintro e w6 ⟨I1, f1, rfl, hO6, hg6, hat6⟩
  have l1 := hl4.out
  have l2 := hl8.out
  have l3 := hl10.out
  have hlow : w.heap.size ≤ w2.heap.size + 1 := by omega
  have hb6 := hb4'.out.grown hg6 (base := w2.heap.size + 1) (fun k e => (hG4.out.cs.lt k e).1) (by omega) (by omega) (by omega) hlow
  have hN6 : w6.ownsRow (w2.heap.size + 1) 3 1 (.slice D2 m.ns.length d2) m.ns.length (m.ns.map (Value.int .i64)) := own_block hG4.out.ns fun k e => hg6.block k (hG4.out.ns.lt k e).2 fun e2 => own_apart hG4.out.ns hG4.out.cs (by decide) e e2.symm
  obtain ⟨v0, v1, v2, v3⟩ := hb6.m4.cells
  have hb7 := hb6.put0 (by omega) (by omega) (Nat.le_refl _) (.slice I1 (m.cs.length - 1) f1)
  have hO7 := own_block hO6 (w' := w6.setCell ⟨w.heap.size, 0, none⟩ (.slice I1 (m.cs.length - 1) f1)) fun k e => Below.heap_setCell _ _ _ _ (by have := (hO6.lt k e).1; show k ≠ w.heap.size; omega)
  have hN7 := own_block hN6 (w' := w6.setCell ⟨w.heap.size, 0, none⟩ (.slice I1 (m.cs.length - 1) f1)) fun k e => Below.heap_setCell _ _ _ _ (by have := (hN6.lt k e).1; show k ≠ w.heap.size; omega)
  obtain ⟨w7, hw7e⟩ : ∃ w7, w6.setCell ⟨w.heap.size, 0, none⟩ (.slice I1 (m.cs.length - 1) f1) = w7 := ⟨_, rfl⟩
  rw [hw7e] at hb7 hO7 hN7
  have hw7f := Lib.hid hw7e
  have hcap := own_cap hN7
  have hdelI := Lib.hid (delI (w2.heap.size + 1) m.ns.length d2 j D2 m.ns ((j : Int) + 1) w7 hN7 (by have := hnc.out; omega) rfl hcap.2.1)
  obtain ⟨q0, q1, -⟩ := hb7.m4.cells
  rw [← hw7f.out] at q1
  replace hb7 := Lib.hid hb7
  replace hO7 := Lib.hid hO7
  replace hN7 := Lib.hid hN7
  clear hO6 hg6 hat6 hb6 hN6 hw7e hcap hdel hb4' hG4 z0 z1 z2 z3 l1 l2 l3 hw4f q0 v1 v3
  go_wp2_with (fail)
  rw [hw7f.out]
  refine hdelI.out.mono ?_
  rintro e w9 ⟨I2, f2, rfl, hO9, hg9, hat9⟩
  have l1 := hl4.out
  have l2 := hl8.out
  have l3 := hl10.out
  have hb9 := hb7.out.grown hg9 (base := w2.heap.size + 1) (fun k e => (hN7.out.lt k e).1) (by omega) (by omega) (by omega) hlow
  have hC9 := own_block hO7.out fun k e => hg9.block k (hO7.out.lt k e).2 fun e2 => own_apart hO7.out hN7.out (by decide) e e2.symm
  obtain ⟨m0, m1, m2, m3⟩ := hb9.m4.cells
  have hb10 := hb9.put1 (by omega) (by omega) (Nat.le_refl _) (.slice I2 (m.ns.length - 1) f2)
  have hl1 := delA_len m.cs j hc
  have hl2 := delA_len m.ns j (by have := hnc.out; omega)
  have hGf : GM w9 (w2.heap.size + 1) I1 f1 I2 f2 ⟨delA m.cs j, delA m.ns j⟩ := ⟨by show w9.ownsRow _ _ 1 (.slice I1 (delA m.cs j).length f1) (delA m.cs j).length _; rw [hl1]; exact hC9, by show w9.ownsRow _ _ 1 (.slice I2 (delA m.ns j).length f2) (delA m.ns j).length _; rw [hl2]; exact hO9⟩
  have hG10 := hGf.other (b := w.heap.size) (by omega) 1 (.slice I2 (m.ns.length - 1) f2)
  have hG11 := hG10.set2 (b := w.heap.size + 1) (by omega) (.slice I1 (m.cs.length - 1) f1) (.slice I2 (m.ns.length - 1) f2)
  have hB11 := below2 (i := 0) (j := 1) hb10.bel (Nat.le_succ _) (.slice I1 (m.cs.length - 1) f1) (.slice I2 (m.ns.length - 1) f2)
  obtain ⟨g0, g1, -⟩ := hb10.m4.cells
  obtain ⟨x0, x1, x2, x3⟩ := hb10.m8.cells
  obtain ⟨y0, y1, -⟩ := (hb10.m8.put (.slice I1 (m.cs.length - 1) f1) (.slice I2 (m.ns.length - 1) f2)).cells
  have hT : Tells 0 ⟨delA m.cs j, delA m.ns j⟩ w (.returned (.tuple #[.agg #[.slice I1 (m.cs.length - 1) f1, .slice I2 (m.ns.length - 1) f2], .int .i64 0])) (((w9.setCell ⟨w.heap.size, 1, none⟩ (.slice I2 (m.ns.length - 1) f2)).setCell ⟨w.heap.size + 1, 0, none⟩ (.slice I1 (m.cs.length - 1) f1)).setCell ⟨w.heap.size + 1, 1, none⟩ (.slice I2 (m.ns.length - 1) f2)) :=
    ⟨I1, f1, I2, f2, by show _ = Ending.returned (.tuple #[.agg #[.slice I1 (delA m.cs j).length f1, .slice I2 (delA m.ns j).length f2], .int .i64 (0 : Nat)]); rw [hl1, hl2]; rfl, hG11.more hlow, hB11⟩
  replace hT := Lib.hid hT
  clear hO9 hg9 hat9 hb9 hC9 hb10 hGf hG10 hG11 hB11 hdelI hb7 hO7 hN7 l1 l2 l3 q1 hw7f hl1 hl2
  go_wp2
  refine bodyPost_ret (v := .tuple #[.agg #[.slice I1 (m.cs.length - 1) f1, .slice I2 (m.ns.length - 1) f2], .int .i64 0]) ?_ rfl hT.out
  clear x0 x1 x2 x3 g0 g1 m0 m1 m2 m3
  simp [results, Try.results55, go_sem, y0, y1]
theorem merge_any (A1 : Option Addr) (c1 : Nat) (A2 : Option Addr) (c2 : Nat) (m : M) (k i : Int) (w : World) (h : HM w A1 c1 A2 c2 m) :
    Calls Try.prog 55 #[.agg #[.slice A1 m.cs.length c1, .slice A2 m.ns.length c2], .int .i64 k, .int .i64 i] w (Tells (mrgE m k i) (mrgM m k i) w) := by
  by_cases hz : caE m k i = 0
  · by_cases hc : i.toNat < m.cs.length
    · by_cases hd : node m i.toNat = node m (i.toNat + 1)
      · exact merge_0 A1 c1 A2 c2 m k i w h hz hc hd
      · exact merge_18 A1 c1 A2 c2 m k i w h hz hc hd
    · exact merge_7 A1 c1 A2 c2 m k i w h hz hc
  · exact merge_no A1 c1 A2 c2 m k i w h hz
end Go.Proofs.Ytpijljbkdfjhcaa.spnJ
