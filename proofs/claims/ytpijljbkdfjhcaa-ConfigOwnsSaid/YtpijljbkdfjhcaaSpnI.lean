/- The contracts of Whole and of Split. -/
import Derived.Test.YtpijljbkdfjhcaaSpnH
set_option linter.unusedVariables false
namespace Go.Proofs.Ytpijljbkdfjhcaa.spnI
open Go.ChangeShapes Go.WideShapes Go.ChangeAt Go.RowKit
open spnM spnA spnB spnC spnN spnP spnD spnE spnF spnH
attribute [local go_sem high] bin_slt bin_sle bin_sge bin_seq bin_sne

/-- the boxes of a call that changes a map: the map, the answer, a shard -/
structure Bxs (w : World) (b4 b8 b10 : Nat) (u v : Value) (x y : ByteArray) (n : Int) (W : World) : Prop where
  m4 : B2 b4 u v W
  m8 : B2 b8 (.slice none 0 0) (.slice none 0 0) W
  s10 : R3 b10 (.string x) (.string y) (.int .i64 n) W
  bel : Below w.heap.size w W
section
variable {w W W' : World} {b4 b8 b10 base : Nat} {u v : Value} {x y : ByteArray} {n : Int}
theorem Bxs.below (h : Bxs w b4 b8 b10 u v x y n W) (hB : Below W.heap.size W W') : Bxs w b4 b8 b10 u v x y n W' := ⟨h.m4.below hB, h.m8.below hB, h.s10.below hB, trans0 h.bel hB⟩
theorem Bxs.grown (h : Bxs w b4 b8 b10 u v x y n W) {row : Option Nat} (hg : W.grownBy W' row) (hr : ∀ k, row = some k → base ≤ k) (h4 : b4 < base) (h8 : b8 < base) (h10 : b10 < base) (hw : w.heap.size ≤ base) : Bxs w b4 b8 b10 u v x y n W' :=
  ⟨h.m4.of_block (hg.block _ h.m4.lt fun e => by have := hr _ e.symm; omega), h.m8.of_block (hg.block _ h.m8.lt fun e => by have := hr _ e.symm; omega), h.s10.of_block (hg.block _ h.s10.lt fun e => by have := hr _ e.symm; omega),
    h.bel.grown hg h.bel.size fun k e => by have := hr k e; omega⟩
theorem Bxs.put (h : Bxs w b4 b8 b10 u v x y n W) (h48 : b8 ≠ b4) (h410 : b10 ≠ b4) (hw : w.heap.size ≤ b4) (u' v' : Value) : Bxs w b4 b8 b10 u' v' x y n ((W.setCell ⟨b4, 0, none⟩ u').setCell ⟨b4, 1, none⟩ v') :=
  ⟨h.m4.put u' v', h.m8.set2 h48 u' v', (h.s10.other h410 0 u').other h410 1 v', below2 h.bel hw u' v'⟩
theorem Bxs.put0 (h : Bxs w b4 b8 b10 u v x y n W) (h48 : b8 ≠ b4) (h410 : b10 ≠ b4) (hw : w.heap.size ≤ b4) (u' : Value) : Bxs w b4 b8 b10 u' v x y n (W.setCell ⟨b4, 0, none⟩ u') :=
  ⟨(h.m4.set 0 u').congr fun i hi => by
      have : i = 0 ∨ i = 1 := by omega
      rcases this with rfl | rfl <;> simp, h.m8.setOther (a := ⟨b4, 0, none⟩) h48 u', h.s10.other h410 0 u', h.bel.setCell (p := ⟨b4, 0, none⟩) hw u'⟩
theorem Bxs.put1 (h : Bxs w b4 b8 b10 u v x y n W) (h48 : b8 ≠ b4) (h410 : b10 ≠ b4) (hw : w.heap.size ≤ b4) (v' : Value) : Bxs w b4 b8 b10 u v' x y n (W.setCell ⟨b4, 1, none⟩ v') :=
  ⟨(h.m4.set 1 v').congr fun i hi => by
      have : i = 0 ∨ i = 1 := by omega
      rcases this with rfl | rfl <;> simp, h.m8.setOther (a := ⟨b4, 1, none⟩) h48 v', h.s10.other h410 1 v', h.bel.setCell (p := ⟨b4, 1, none⟩) hw v'⟩
end
theorem tells_no {E : Nat} {w w' : World} (hB : Below w.heap.size w w') : Tells E non w (.returned (.tuple #[.agg #[.slice none 0 0, .slice none 0 0], .int .i64 E])) w' := ⟨none, 0, none, 0, rfl, GM.non_ _ _, hB⟩
/-- the world behind the boxes at the call's head -/
theorem head_boxes (w : World) (u v : Value) : ∃ W, (w.alloc (.cells #[u, v] 26)).alloc (.cells #[.slice none 0 0, .slice none 0 0] 26) = W ∧ B2 w.heap.size u v W ∧ B2 (w.heap.size + 1) (.slice none 0 0) (.slice none 0 0) W ∧ Below w.heap.size w W := by
  refine ⟨_, rfl, (B2.new w u v).below (al0 _ _), ?_, trans0 (al0 _ _) (al0 _ _)⟩
  have h := B2.new (w.alloc (.cells #[u, v] 26)) (.slice none 0 0) (.slice none 0 0)
  rwa [World.size_alloc] at h
/-- .. and behind the shard's -/
theorem head_shard {w W w1 : World} {b4 b8 : Nat} {u v : Value} (h4 : B2 b4 u v W) (h8 : B2 b8 (.slice none 0 0) (.slice none 0 0) W) (hw : Below w.heap.size w W) (hB : Below W.heap.size W w1) (x y : ByteArray) (n : Int) :
    Bxs w b4 b8 w1.heap.size u v x y n (w1.alloc (.cells #[.string x, .string y, .int .i64 n] 84)) ∧ b4 < w1.heap.size ∧ b8 < w1.heap.size :=
  ⟨⟨(h4.below hB).below (al0 _ _), (h8.below hB).below (al0 _ _), R3.new w1 _ _ _, trans0 (trans0 hw hB) (al0 _ _)⟩, (h4.below hB).lt, (h8.below hB).lt⟩
theorem caE_of_spl {m : M} {k i : Int} {key : ByteArray} (h : caE m k i ≠ 0) : splE m k i key = caE m k i ∧ splM m k i key = non := by
  have e : splE m k i key = caE m k i := by
    unfold caE at h ⊢
    unfold splE
    split
    · rfl
    · rename_i h1
      rw [if_neg h1] at h
      split
      · rfl
      · rename_i h2; rw [if_neg h2] at h; exact absurd rfl h
  exact ⟨e, by unfold splM; rw [if_neg (by rw [e]; exact h)]⟩
theorem ca_zero {m : M} {k i : Int} (h : caE m k i = 0) : chk m k = 0 ∧ there m i = true := by
  unfold caE at h
  split at h
  · omega
  · split at h
    · omega
    · rename_i h1 h2
      exact ⟨by omega, by simpa using h2⟩
theorem spl_14 {m : M} {k i : Int} {key : ByteArray} (h : caE m k i = 0) (hp : pnt key (spnM.lo m i.toNat) (spnM.hi m i.toNat) = false) : splE m k i key = 14 ∧ splM m k i key = non := by
  obtain ⟨h1, h2⟩ := ca_zero h
  have e : splE m k i key = 14 := by unfold splE; rw [if_neg (by omega), if_neg (by rw [h2]; decide), if_pos hp]
  exact ⟨e, by unfold splM; rw [if_neg (by omega)]⟩
theorem spl_9 {m : M} {k i : Int} {key : ByteArray} (h : caE m k i = 0) (hp : pnt key (spnM.lo m i.toNat) (spnM.hi m i.toNat) = true) (h8 : 8 ≤ m.ns.length) : splE m k i key = 9 ∧ splM m k i key = non := by
  obtain ⟨h1, h2⟩ := ca_zero h
  have e : splE m k i key = 9 := by unfold splE; rw [if_neg (by omega), if_neg (by rw [h2]; decide), if_neg (by rw [hp]; decide), if_pos h8]
  exact ⟨e, by unfold splM; rw [if_neg (by omega)]⟩
theorem spl_0 {m : M} {k i : Int} {key : ByteArray} (h : caE m k i = 0) (hp : pnt key (spnM.lo m i.toNat) (spnM.hi m i.toNat) = true) (h8 : ¬ 8 ≤ m.ns.length) : splE m k i key = 0 ∧ splM m k i key = ⟨insA m.cs i.toNat key, insA m.ns i.toNat (node m i.toNat)⟩ := by
  obtain ⟨h1, h2⟩ := ca_zero h
  have e : splE m k i key = 0 := by unfold splE; rw [if_neg (by omega), if_neg (by rw [h2]; decide), if_neg (by rw [hp]; decide), if_neg h8]
  exact ⟨e, by unfold splM; rw [if_pos e]⟩
theorem whole_any (n : Int) (w : World) : Calls Try.prog 39 #[.int .i64 n] w (Gives ⟨[], [n]⟩ w) := by
  have h := World.ownsRow_lit (e := 3) (size := 1) (base := w.heap.size) (w.alloc (.cells #[.slice none 0 0, .slice (some ⟨w.heap.size + 1, 0, none⟩) 1 1] 26)) #[.int .i64 n] 1 (by simp) (by unfold maxLen; omega) rfl
  have hbl := trans0 (al0 w (.cells #[.slice none 0 0, .slice (some ⟨w.heap.size + 1, 0, none⟩) 1 1] 26)) (al0 _ (.cells #[.int .i64 n] 3))
  rw [World.size_alloc] at h
  replace h := Lib.hid h
  go_enter Try.func39, Try.ntmps39
  go_wp2
  exact bodyPost_ret (v := .agg #[.slice none 0 0, .slice (some ⟨w.heap.size + 1, 0, none⟩) 1 1]) (by simp [results, Try.results39, go_sem]) rfl ⟨none, 0, some ⟨w.heap.size + 1, 0, none⟩, 1, rfl, ⟨World.ownsRow_nil _ _ _ 1, h.out⟩, hbl⟩
set_option maxRecDepth 100000 in
set_option maxHeartbeats 1000000 in
theorem split_no (A1 : Option Addr) (c1 : Nat) (A2 : Option Addr) (c2 : Nat) (m : M) (k i : Int) (key : ByteArray) (w : World) (h : HM w A1 c1 A2 c2 m) (hz : caE m k i ≠ 0) :
    Calls Try.prog 54 #[.agg #[.slice A1 m.cs.length c1, .slice A2 m.ns.length c2], .int .i64 k, .int .i64 i, .string key] w (Tells (splE m k i key) (splM m k i key) w) := by
  obtain ⟨e1, e2⟩ := caE_of_spl (key := key) hz
  rw [e1, e2]
  have hv := Lib.hid (caV_no (m := m) (k := k) (i := i) rfl hz)
  have hne : ((caE m k i : Int) != 0) = true := by rw [bne_iff_ne]; omega
  obtain ⟨W, hW, hb4, hb8, hal⟩ := head_boxes w (.slice A1 m.cs.length c1) (.slice A2 m.ns.length c2)
  have hck := Lib.hid (checked_any A1 c1 A2 c2 m k i W (h.below hal))
  replace hb4 := Lib.hid hb4
  replace hb8 := Lib.hid hb8
  replace hal := Lib.hid hal
  replace hW := Lib.hid hW
  clear e1 e2 hz h
  generalize caE m k i = E at *
  go_enter Try.func54, Try.ntmps54
  go_wp2_with (fail)
  rw [hW.out]
  refine hck.out.mono ?_
  rintro e w1 ⟨rfl, hB1⟩
  rw [hv.out]
  obtain ⟨hb, hl4, hl8⟩ := head_shard hb4.out hb8.out hal.out hB1 emp emp 0
  obtain ⟨-, -, p2, p3⟩ := hb.m4.cells
  obtain ⟨z0, z1, z2, z3⟩ := hb.m8.cells
  obtain ⟨y0, y1, -, -⟩ := (hb.m8.put (.slice none 0 0) (.slice none 0 0)).cells
  have hbl := Lib.hid (below2 (i := 0) (j := 1) hb.bel (Nat.le_succ _) (.slice none 0 0) (.slice none 0 0))
  clear hb hB1 p2 p3 hl4 hl8
  go_wp2
  refine bodyPost_ret (v := .tuple #[.agg #[.slice none 0 0, .slice none 0 0], .int .i64 E]) ?_ rfl (tells_no hbl.out)
  clear z0 z1 z2 z3
  simp [results, Try.results54, go_sem, y0, y1]
/-! ### Split where the shard is there -/
set_option maxRecDepth 100000 in
set_option maxHeartbeats 2000000 in
theorem split_14 (A1 : Option Addr) (c1 : Nat) (A2 : Option Addr) (c2 : Nat) (m : M) (k i : Int) (key : ByteArray) (w : World) (h : HM w A1 c1 A2 c2 m) (hz : caE m k i = 0) (hp : pnt key (spnM.lo m i.toNat) (spnM.hi m i.toNat) = false) :
    Calls Try.prog 54 #[.agg #[.slice A1 m.cs.length c1, .slice A2 m.ns.length c2], .int .i64 k, .int .i64 i, .string key] w (Tells (splE m k i key) (splM m k i key) w) := by
  obtain ⟨e1, e2⟩ := spl_14 hz hp
  rw [e1, e2]
  have hv := Lib.hid (caV_yes (m := m) (k := k) (i := i) hz)
  obtain ⟨W, hW, hb4, hb8, hal⟩ := head_boxes w (.slice A1 m.cs.length c1) (.slice A2 m.ns.length c2)
  have hck := Lib.hid (checked_any A1 c1 A2 c2 m k i W (h.below hal))
  clear h
  replace hb4 := Lib.hid hb4
  replace hb8 := Lib.hid hb8
  replace hW := Lib.hid hW
  generalize spnM.lo m i.toNat = x at *
  generalize spnM.hi m i.toNat = y at *
  generalize node m i.toNat = n at *
  have hpt := Lib.hid (point_any key x y n)
  rw [hp] at hpt
  clear hz hp e1 e2
  replace hal := Lib.hid hal
  go_enter Try.func54, Try.ntmps54
  go_wp2_with (fail)
  rw [hW.out]
  refine hck.out.mono ?_
  rintro e w1 ⟨rfl, hB1⟩
  rw [hv.out]
  obtain ⟨hb, hl4, hl8⟩ := head_shard hb4.out hb8.out hal.out hB1 x y n
  have hBW1 := Lib.hid (trans0 hB1 (al0 w1 (.cells #[.string x, .string y, .int .i64 n] 84)))
  obtain ⟨r0, r1, r2, -⟩ := hb.s10.cells
  obtain ⟨p0, p1, -⟩ := hb.m4.cells
  replace hb := Lib.hid hb
  replace hl4 := Lib.hid hl4
  replace hl8 := Lib.hid hl8
  clear hB1 hck
  go_wp2_with (fail)
  refine (hpt.out _).mono ?_
  rintro e w2 ⟨rfl, hB2⟩
  have hb2 := hb.out.below hB2
  have hl10 := Lib.hid (Nat.lt_of_lt_of_le (by simp : w1.heap.size < (w1.alloc (.cells #[.string x, .string y, .int .i64 n] 84)).heap.size) hB2.size)
  have hBW2 := Lib.hid (trans0 hBW1.out hB2)
  clear r0 r1 r2 p0 p1 hB2 hpt
  obtain ⟨p0, p1, -⟩ := hb2.m4.cells
  obtain ⟨z0, z1, z2, z3⟩ := hb2.m8.cells
  obtain ⟨y0, y1, -, -⟩ := (hb2.m8.put (.slice none 0 0) (.slice none 0 0)).cells
  have hbl := Lib.hid (below2 (i := 0) (j := 1) hb2.bel (Nat.le_succ _) (.slice none 0 0) (.slice none 0 0))
  clear hb2
  go_wp2
  refine bodyPost_ret (v := .tuple #[.agg #[.slice none 0 0, .slice none 0 0], .int .i64 (14 : Nat)]) ?_ rfl (tells_no hbl.out)
  clear z0 z1 z2 z3
  simp [results, Try.results54, go_sem, y0, y1]
set_option maxRecDepth 100000 in
set_option maxHeartbeats 2000000 in
theorem split_9 (A1 : Option Addr) (c1 : Nat) (A2 : Option Addr) (c2 : Nat) (m : M) (k i : Int) (key : ByteArray) (w : World) (h : HM w A1 c1 A2 c2 m) (hz : caE m k i = 0) (hp : pnt key (spnM.lo m i.toNat) (spnM.hi m i.toNat) = true) (h8 : 8 ≤ m.ns.length) :
    Calls Try.prog 54 #[.agg #[.slice A1 m.cs.length c1, .slice A2 m.ns.length c2], .int .i64 k, .int .i64 i, .string key] w (Tells (splE m k i key) (splM m k i key) w) := by
  obtain ⟨e1, e2⟩ := spl_9 hz hp h8
  rw [e1, e2]
  have hv := Lib.hid (caV_yes (m := m) (k := k) (i := i) hz)
  obtain ⟨W, hW, hb4, hb8, hal⟩ := head_boxes w (.slice A1 m.cs.length c1) (.slice A2 m.ns.length c2)
  have hck := Lib.hid (checked_any A1 c1 A2 c2 m k i W (h.below hal))
  clear h
  replace h8 : (8 : Int) ≤ (m.ns.length : Int) := by omega
  replace hb4 := Lib.hid hb4
  replace hb8 := Lib.hid hb8
  replace hW := Lib.hid hW
  generalize spnM.lo m i.toNat = x at *
  generalize spnM.hi m i.toNat = y at *
  generalize node m i.toNat = n at *
  have hpt := Lib.hid (point_any key x y n)
  rw [hp] at hpt
  clear hz hp e1 e2
  replace hal := Lib.hid hal
  go_enter Try.func54, Try.ntmps54
  go_wp2_with (fail)
  rw [hW.out]
  refine hck.out.mono ?_
  rintro e w1 ⟨rfl, hB1⟩
  rw [hv.out]
  obtain ⟨hb, hl4, hl8⟩ := head_shard hb4.out hb8.out hal.out hB1 x y n
  have hBW1 := Lib.hid (trans0 hB1 (al0 w1 (.cells #[.string x, .string y, .int .i64 n] 84)))
  obtain ⟨r0, r1, r2, -⟩ := hb.s10.cells
  obtain ⟨p0, p1, -⟩ := hb.m4.cells
  replace hb := Lib.hid hb
  replace hl4 := Lib.hid hl4
  replace hl8 := Lib.hid hl8
  clear hB1 hck
  go_wp2_with (fail)
  refine (hpt.out _).mono ?_
  rintro e w2 ⟨rfl, hB2⟩
  have hb2 := hb.out.below hB2
  have hl10 := Lib.hid (Nat.lt_of_lt_of_le (by simp : w1.heap.size < (w1.alloc (.cells #[.string x, .string y, .int .i64 n] 84)).heap.size) hB2.size)
  have hBW2 := Lib.hid (trans0 hBW1.out hB2)
  clear r0 r1 r2 p0 p1 hB2 hpt
  obtain ⟨p0, p1, -⟩ := hb2.m4.cells
  obtain ⟨z0, z1, z2, z3⟩ := hb2.m8.cells
  obtain ⟨y0, y1, -, -⟩ := (hb2.m8.put (.slice none 0 0) (.slice none 0 0)).cells
  have hbl := Lib.hid (below2 (i := 0) (j := 1) hb2.bel (Nat.le_succ _) (.slice none 0 0) (.slice none 0 0))
  clear hb2
  go_wp2
  refine bodyPost_ret (v := .tuple #[.agg #[.slice none 0 0, .slice none 0 0], .int .i64 (9 : Nat)]) ?_ rfl (tells_no hbl.out)
  clear z0 z1 z2 z3
  simp [results, Try.results54, go_sem, y0, y1]
set_option maxRecDepth 100000 in
set_option maxHeartbeats 2000000 in
theorem split_0 (A1 : Option Addr) (c1 : Nat) (A2 : Option Addr) (c2 : Nat) (m : M) (k i : Int) (key : ByteArray) (w : World) (h : HM w A1 c1 A2 c2 m) (hz : caE m k i = 0) (hp : pnt key (spnM.lo m i.toNat) (spnM.hi m i.toNat) = true) (h8 : ¬ 8 ≤ m.ns.length) :
    Calls Try.prog 54 #[.agg #[.slice A1 m.cs.length c1, .slice A2 m.ns.length c2], .int .i64 k, .int .i64 i, .string key] w (Tells (splE m k i key) (splM m k i key) w) := by
  obtain ⟨e1, e2⟩ := spl_0 hz hp h8
  rw [e1, e2]
  have hv := Lib.hid (caV_yes (m := m) (k := k) (i := i) hz)
  obtain ⟨W, hW, hb4, hb8, hal⟩ := head_boxes w (.slice A1 m.cs.length c1) (.slice A2 m.ns.length c2)
  have hck := Lib.hid (checked_any A1 c1 A2 c2 m k i W (h.below hal))
  obtain ⟨hk, hth⟩ := ca_zero hz
  obtain ⟨hnc, hi0, hi1⟩ := (there_iff m i).1 hth
  have hmW := Lib.hid (h.below hal)
  obtain ⟨j, rfl⟩ : ∃ j : Nat, i = j := ⟨i.toNat, by omega⟩
  rw [show ((j : Int)).toNat = j from rfl] at *
  have hjc : j ≤ m.cs.length := by omega
  have hjn : j ≤ m.ns.length := by omega
  have h8n : m.ns.length < 8 := by omega
  have hc8 : m.cs.length ≤ 1000 := by omega
  replace h8 : ¬ (8 : Int) ≤ (m.ns.length : Int) := by omega
  clear h hk hth hi0 hi1
  replace hnc := Lib.hid hnc
  replace hb4 := Lib.hid hb4
  replace hb8 := Lib.hid hb8
  replace hW := Lib.hid hW
  generalize spnM.lo m j = x at *
  generalize spnM.hi m j = y at *
  generalize node m j = n at *
  have hpt := Lib.hid (point_any key x y n)
  rw [hp] at hpt
  clear hz hp e1 e2
  replace hal := Lib.hid hal
  go_enter Try.func54, Try.ntmps54
  go_wp2_with (fail)
  rw [hW.out]
  refine hck.out.mono ?_
  rintro e w1 ⟨rfl, hB1⟩
  rw [hv.out]
  obtain ⟨hb, hl4, hl8⟩ := head_shard hb4.out hb8.out hal.out hB1 x y n
  have hBW1 := Lib.hid (trans0 hB1 (al0 w1 (.cells #[.string x, .string y, .int .i64 n] 84)))
  obtain ⟨r0, r1, r2, -⟩ := hb.s10.cells
  obtain ⟨p0, p1, -⟩ := hb.m4.cells
  replace hb := Lib.hid hb
  replace hl4 := Lib.hid hl4
  replace hl8 := Lib.hid hl8
  clear hB1 hck
  go_wp2_with (fail)
  refine (hpt.out _).mono ?_
  rintro e w2 ⟨rfl, hB2⟩
  have hb2 := hb.out.below hB2
  have hl10 := Lib.hid (Nat.lt_of_lt_of_le (by simp : w1.heap.size < (w1.alloc (.cells #[.string x, .string y, .int .i64 n] 84)).heap.size) hB2.size)
  have hBW2 := Lib.hid (trans0 hBW1.out hB2)
  clear r0 r1 r2 p0 p1 hB2 hpt
  obtain ⟨p0, p1, -⟩ := hb2.m4.cells
  have hcp := Lib.hid (copy_any A1 c1 A2 c2 m w2 (hmW.out.below hBW2.out))
  replace hb2 := Lib.hid hb2
  go_wp2_with (fail)
  refine hcp.out.mono ?_
  rintro e w3 ⟨D1, d1, D2, d2, rfl, hG, hB3⟩
  have hb3 := hb2.out.below hB3
  obtain ⟨z0, z1, z2, z3⟩ := hb3.m4.cells
  have hw4 : w.heap.size ≠ w.heap.size + 1 := by omega
  have l1 := hl4.out
  have l2 := hl8.out
  have l3 := hl10.out
  have hb4' := hb3.put (Ne.symm hw4) (by omega) (Nat.le_refl _) (.slice D1 m.cs.length d1) (.slice D2 m.ns.length d2)
  have hG4 := hG.set2 (b := w.heap.size) (by omega) (.slice D1 m.cs.length d1) (.slice D2 m.ns.length d2)
  have hs4 : ((w3.setCell ⟨w.heap.size, 0, none⟩ (.slice D1 m.cs.length d1)).setCell ⟨w.heap.size, 1, none⟩ (.slice D2 m.ns.length d2)).heap.size = w3.heap.size := by simp
  obtain ⟨w4, hw4e⟩ : ∃ w4, (w3.setCell ⟨w.heap.size, 0, none⟩ (.slice D1 m.cs.length d1)).setCell ⟨w.heap.size, 1, none⟩ (.slice D2 m.ns.length d2) = w4 := ⟨_, rfl⟩
  rw [hw4e] at hb4' hG4 hs4
  have hs3 : w2.heap.size ≤ w4.heap.size := by rw [hs4]; exact hB3.size
  have hw4f := Lib.hid hw4e
  -- the key's block
  have hb5 := hb4'.below (al0 w4 (.cells #[.string key] 9))
  have hG5 := hG4.below (al0 w4 (.cells #[.string key] 9))
  have hcap := own_cap hG5.cs
  have hap : (Value.slice D1 m.cs.length d1).ownBlock ≠ some w4.heap.size := fun e => by have := (hG4.cs.lt _ e).2; omega
  have hins := Lib.hid (insS w2.heap.size m.cs.length d1 j w4.heap.size D1 (m.cs.map Value.string) key _ hG5.cs hjc (fun v hv => by obtain ⟨z, _, rfl⟩ := List.mem_map.1 hv; rfl) (heap_alloc_new w4 _) hap hc8 hcap.2.1 (by simp; omega))
  have hE1 : Hid ((m.cs.map Value.string).take j ++ Value.string key :: (m.cs.map Value.string).drop j = (insA m.cs j key).map Value.string) := Lib.hid (by unfold insA; simp)
  rw [hE1.out, hs4] at hins
  replace hs4 := Lib.hid hs4
  obtain ⟨t0, t1, t2, t3⟩ := hb4'.m4.cells
  have t0' := keep_cell (al0 w4 (.cells #[.string key] 9)) t0
  replace hb5 := Lib.hid hb5
  replace hG5 := Lib.hid hG5
  clear hB3 hb3 hG hb4' hG4 p0 p1 hw4 hcp hb2 hw4e hap hcap l1 l2 l3 t2 t3
  go_wp2_with (fail)
  rw [hw4f.out]
  refine hins.out.mono ?_
  rintro e w6 ⟨I1, f1, rfl, hO6, hg6, hat6⟩
  have l1 := hl4.out
  have l2 := hl8.out
  have l3 := hl10.out
  have hlow : w.heap.size ≤ w2.heap.size := by omega
  have hb6 := hb5.out.grown hg6 (base := w2.heap.size) (fun k e => (hG5.out.cs.lt k e).1) (by omega) (by omega) (by omega) hlow
  have hN6 : w6.ownsRow w2.heap.size 3 1 (.slice D2 m.ns.length d2) m.ns.length (m.ns.map (Value.int .i64)) := own_block hG5.out.ns fun k e => hg6.block k (hG5.out.ns.lt k e).2 fun e2 => own_apart hG5.out.ns hG5.out.cs (by decide) e e2.symm
  obtain ⟨-, -, v2, -⟩ := hb6.m4.cells
  obtain ⟨v0, -⟩ := hb6.m4.cells
  have hb7 := hb6.put0 (by omega) (by omega) (Nat.le_refl _) (.slice I1 (m.cs.length + 1) f1)
  have hO7 := own_block hO6 (w' := w6.setCell ⟨w.heap.size, 0, none⟩ (.slice I1 (m.cs.length + 1) f1)) fun k e => Below.heap_setCell _ _ _ _ (by have := (hO6.lt k e).1; show k ≠ w.heap.size; omega)
  have hN7 := own_block hN6 (w' := w6.setCell ⟨w.heap.size, 0, none⟩ (.slice I1 (m.cs.length + 1) f1)) fun k e => Below.heap_setCell _ _ _ _ (by have := (hN6.lt k e).1; show k ≠ w.heap.size; omega)
  have hs7 : (w6.setCell ⟨w.heap.size, 0, none⟩ (.slice I1 (m.cs.length + 1) f1)).heap.size = w6.heap.size := by simp
  have hs6 : w2.heap.size ≤ w6.heap.size := by have := hg6.size; simp at this; omega
  obtain ⟨w7, hw7e⟩ : ∃ w7, w6.setCell ⟨w.heap.size, 0, none⟩ (.slice I1 (m.cs.length + 1) f1) = w7 := ⟨_, rfl⟩
  rw [hw7e] at hb7 hO7 hN7 hs7
  have hw7f := Lib.hid hw7e
  have hb8' := hb7.below (al0 w7 (.cells #[.int .i64 n] 3))
  have hO8 := own_below hO7 (al0 w7 (.cells #[.int .i64 n] 3))
  have hN8 := own_below hN7 (al0 w7 (.cells #[.int .i64 n] 3))
  have hcap := own_cap hN8
  have hap : (Value.slice D2 m.ns.length d2).ownBlock ≠ some w7.heap.size := fun e => by have := (hN7.lt _ e).2; omega
  have hinI := Lib.hid (insI w2.heap.size m.ns.length d2 j w7.heap.size D2 (m.ns.map (Value.int .i64)) n _ hN8 hjn (fun v hv => by obtain ⟨z, _, rfl⟩ := List.mem_map.1 hv; rfl) (heap_alloc_new w7 _) hap (by omega) hcap.2.1 (by simp; omega))
  have hE2 : Hid ((m.ns.map (Value.int .i64)).take j ++ Value.int .i64 n :: (m.ns.map (Value.int .i64)).drop j = (insA m.ns j n).map (Value.int .i64)) := Lib.hid (by unfold insA; simp)
  rw [hE2.out, hs7] at hinI
  obtain ⟨r0, r1, r2, -⟩ := hb7.s10.cells
  obtain ⟨q0, q1, -⟩ := hb7.m4.cells
  rw [← hw7f.out] at r2 q1
  replace hb8' := Lib.hid hb8'
  replace hO8 := Lib.hid hO8
  replace hN8 := Lib.hid hN8
  clear hO6 hg6 hat6 hb6 hb7 hN6 hO7 hN7 hw7e hap hcap hins hb5 hG5 t0 t1 t0' z0 z1 z2 z3 l1 l2 l3 hw4f r0 r1 q0 hs7
  go_wp2_with (fail)
  rw [hw7f.out]
  refine hinI.out.mono ?_
  rintro e w9 ⟨I2, f2, rfl, hO9, hg9, hat9⟩
  have l1 := hl4.out
  have l2 := hl8.out
  have l3 := hl10.out
  have hb9 := hb8'.out.grown hg9 (base := w2.heap.size) (fun k e => (hN8.out.lt k e).1) (by omega) (by omega) (by omega) hlow
  have hC9 := own_block hO8.out fun k e => hg9.block k (hO8.out.lt k e).2 fun e2 => own_apart hO8.out hN8.out (by decide) e e2.symm
  obtain ⟨m0, m1, m2, m3⟩ := hb9.m4.cells
  have hb10 := hb9.put1 (by omega) (by omega) (Nat.le_refl _) (.slice I2 (m.ns.length + 1) f2)
  have hl1 := insA_len m.cs j key hjc
  have hl2 := insA_len m.ns j n hjn
  have hGf : GM w9 w2.heap.size I1 f1 I2 f2 ⟨insA m.cs j key, insA m.ns j n⟩ := ⟨by show w9.ownsRow _ _ 1 (.slice I1 (insA m.cs j key).length f1) (insA m.cs j key).length _; rw [hl1]; exact hC9, by show w9.ownsRow _ _ 1 (.slice I2 (insA m.ns j n).length f2) (insA m.ns j n).length _; rw [hl2]; exact hO9⟩
  have hG10 := hGf.other (b := w.heap.size) (by omega) 1 (.slice I2 (m.ns.length + 1) f2)
  have hG11 := hG10.set2 (b := w.heap.size + 1) (by omega) (.slice I1 (m.cs.length + 1) f1) (.slice I2 (m.ns.length + 1) f2)
  have hB11 := below2 (i := 0) (j := 1) hb10.bel (Nat.le_succ _) (.slice I1 (m.cs.length + 1) f1) (.slice I2 (m.ns.length + 1) f2)
  obtain ⟨g0, g1, -⟩ := hb10.m4.cells
  obtain ⟨x0, x1, x2, x3⟩ := hb10.m8.cells
  obtain ⟨y0, y1, -⟩ := (hb10.m8.put (.slice I1 (m.cs.length + 1) f1) (.slice I2 (m.ns.length + 1) f2)).cells
  have hT : Tells 0 ⟨insA m.cs j key, insA m.ns j n⟩ w (.returned (.tuple #[.agg #[.slice I1 (m.cs.length + 1) f1, .slice I2 (m.ns.length + 1) f2], .int .i64 0])) (((w9.setCell ⟨w.heap.size, 1, none⟩ (.slice I2 (m.ns.length + 1) f2)).setCell ⟨w.heap.size + 1, 0, none⟩ (.slice I1 (m.cs.length + 1) f1)).setCell ⟨w.heap.size + 1, 1, none⟩ (.slice I2 (m.ns.length + 1) f2)) :=
    ⟨I1, f1, I2, f2, by show _ = Ending.returned (.tuple #[.agg #[.slice I1 (insA m.cs j key).length f1, .slice I2 (insA m.ns j n).length f2], .int .i64 (0 : Nat)]); rw [hl1, hl2]; rfl, hG11.more hlow, hB11⟩
  replace hT := Lib.hid hT
  clear hO9 hg9 hat9 hb9 hC9 hb10 hGf hG10 hG11 hB11 hinI hb8' hO8 hN8 l1 l2 l3 r2 q1 hw7f hl1 hl2
  go_wp2
  refine bodyPost_ret (v := .tuple #[.agg #[.slice I1 (m.cs.length + 1) f1, .slice I2 (m.ns.length + 1) f2], .int .i64 0]) ?_ rfl hT.out
  clear x0 x1 x2 x3 g0 g1 m0 m1 m2 m3
  simp [results, Try.results54, go_sem, y0, y1]
theorem split_any (A1 : Option Addr) (c1 : Nat) (A2 : Option Addr) (c2 : Nat) (m : M) (k i : Int) (key : ByteArray) (w : World) (h : HM w A1 c1 A2 c2 m) :
    Calls Try.prog 54 #[.agg #[.slice A1 m.cs.length c1, .slice A2 m.ns.length c2], .int .i64 k, .int .i64 i, .string key] w (Tells (splE m k i key) (splM m k i key) w) := by
  by_cases hz : caE m k i = 0
  · cases hp : pnt key (spnM.lo m i.toNat) (spnM.hi m i.toNat)
    · exact split_14 A1 c1 A2 c2 m k i key w h hz hp
    · by_cases h8 : 8 ≤ m.ns.length
      · exact split_9 A1 c1 A2 c2 m k i key w h hz hp h8
      · exact split_0 A1 c1 A2 c2 m k i key w h hz hp h8
  · exact split_no A1 c1 A2 c2 m k i key w h hz
end Go.Proofs.Ytpijljbkdfjhcaa.spnI
