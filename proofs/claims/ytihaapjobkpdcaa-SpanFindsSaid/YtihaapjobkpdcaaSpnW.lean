/- SpanParts. -/
import Derived.Test.YtihaapjobkpdcaaSpnS
set_option linter.unusedVariables false
namespace Go.Proofs.Ytihaapjobkpdcaa.spnW
open Go.ChangeShapes Go.WideShapes Go.ChangeAt Go.RowKit Go.Shelf
open spnM spnA spnB spnC spnN spnP spnD spnE spnF spnH spnI spnQ spnR spnS rngR
attribute [local go_sem high] bin_slt bin_sle bin_sge bin_seq bin_sne
attribute [local go_sem] Oper.semAt_some

theorem HM.kept {W W' : World} {A1 A2 : Option Addr} {c1 c2 : Nat} {m : M} {row : Option Nat} (h : HM W A1 c1 A2 c2 m) (hg : W.grownBy W' row) (hr : ∀ r, row = some r → ∃ o : Obj, W.heap[r]? = some o ∧ o.isCells = false) : HM W' A1 c1 A2 c2 m := { h with cs := h.cs.kept hg hr, ns := h.ns.kept hg hr }
theorem RL.same0 {α : Type} [Inhabited α] {f : α → Value} {w w1 : World} {a : Option Addr} {n : Nat} {l : List α} (h : RL f w a n l) (hk : ∀ b off, n ≠ 0 → a = some ⟨b, off, none⟩ → w1.heap[b]? = w.heap[b]?) : RL f w1 a n l := by
  by_cases h0 : n = 0
  · exact ⟨h.1, .inl h0⟩
  · exact h.same fun b off e => hk b off h0 e
theorem RL.low {α : Type} [Inhabited α] {f : α → Value} {w : World} {a : Option Addr} {n : Nat} {l : List α} (h : RL f w a n l) (b off : Nat) (h0 : n ≠ 0) (e : a = some ⟨b, off, none⟩) : b < w.heap.size := by
  rcases h.2 with h1 | ⟨b', off', e', hlt, _⟩
  · exact absurd h1 h0
  · rw [e] at e'; cases e'; exact hlt
theorem HM.same {W W' : World} {A1 A2 : Option Addr} {c1 c2 : Nat} {m : M} (h : HM W A1 c1 A2 c2 m) (h1 : ∀ b off, m.cs.length ≠ 0 → A1 = some ⟨b, off, none⟩ → W'.heap[b]? = W.heap[b]?) (h2 : ∀ b off, m.ns.length ≠ 0 → A2 = some ⟨b, off, none⟩ → W'.heap[b]? = W.heap[b]?) : HM W' A1 c1 A2 c2 m := { h with cs := RL.same0 h.cs h1, ns := RL.same0 h.ns h2 }
theorem MB.kept {b c1 c2 : Nat} {A1 A2 : Option Addr} {m : M} {W W' : World} {row : Option Nat} (h : MB b A1 c1 A2 c2 m W) (hg : W.grownBy W' row) (hr : ∀ r, row = some r → ∃ o : Obj, W.heap[r]? = some o ∧ o.isCells = false) : MB b A1 c1 A2 c2 m W' :=
  ⟨cell_kept h.p0 hg hr, cell_kept h.p1 hg hr, HM.kept h.hm hg hr⟩
/-- a box of one cell that may be written -/
structure O1 (b : Nat) (v : Value) (W : World) : Prop where
  c : W.cell? ⟨b, 0, none⟩ = some v
  f : W.frozen? ⟨b, 0, none⟩ = false
theorem O1.below {b : Nat} {v : Value} {W W' : World} (h : O1 b v W) (hB : Below W.heap.size W W') : O1 b v W' := ⟨keep_cell hB h.c, keep_frozen hB h.c h.f⟩
theorem O1.kept {b : Nat} {v : Value} {W W' : World} {row : Option Nat} (h : O1 b v W) (hg : W.grownBy W' row) (hr : ∀ r, row = some r → ∃ o : Obj, W.heap[r]? = some o ∧ o.isCells = false) : O1 b v W' := ⟨cell_kept h.c hg hr, (frozen_kept h.c hg hr).trans h.f⟩
theorem O1.put {b : Nat} {v : Value} {W : World} (h : O1 b v W) (u : Value) : O1 b u (W.setCell ⟨b, 0, none⟩ u) := ⟨World.cell?_setCell_same' _ _ _ (by rw [h.c]; rfl), by rw [World.frozen?_setCell]; exact h.f⟩
theorem O1.other {b b' : Nat} {v : Value} {W : World} (h : O1 b v W) (hb : b ≠ b') (u : Value) : O1 b v (W.setCell ⟨b', 0, none⟩ u) := ⟨by rw [World.cell?_setCell_other _ _ _ _ (by intro e; injection e with e1; exact hb e1.symm)]; exact h.c, by rw [World.frozen?_setCell]; exact h.f⟩
theorem O1.new (w : World) (v : Value) (t : TypeId) : O1 w.heap.size v (w.alloc (.cells #[v] t)) := ⟨cell_box w v t, frozen_box w v t⟩
/-- the law's boxes -/
structure PB (b3 b5 b6 b7 b8 : Nat) (A1 : Option Addr) (c1 : Nat) (A2 : Option Addr) (c2 : Nat) (m : M) (key : ByteArray) (i n : Int) (W : World) : Prop where
  mb : MB b3 A1 c1 A2 c2 m W
  ke : O1 b5 (.string key) W
  re : O1 b6 (.bool false) W
  nn : O1 b7 (.int .i64 i) W
  no : O1 b8 (.int .i64 n) W
section
variable {b3 b5 b6 b7 b8 c1 c2 : Nat} {A1 A2 : Option Addr} {m : M} {key : ByteArray} {i n : Int} {W W' : World}
theorem PB.below (h : PB b3 b5 b6 b7 b8 A1 c1 A2 c2 m key i n W) (hB : Below W.heap.size W W') : PB b3 b5 b6 b7 b8 A1 c1 A2 c2 m key i n W' := ⟨h.mb.below hB, h.ke.below hB, h.re.below hB, h.nn.below hB, h.no.below hB⟩
theorem PB.kept {row : Option Nat} (h : PB b3 b5 b6 b7 b8 A1 c1 A2 c2 m key i n W) (hg : W.grownBy W' row) (hr : ∀ r, row = some r → ∃ o : Obj, W.heap[r]? = some o ∧ o.isCells = false) : PB b3 b5 b6 b7 b8 A1 c1 A2 c2 m key i n W' := ⟨MB.kept h.mb hg hr, h.ke.kept hg hr, h.re.kept hg hr, h.nn.kept hg hr, h.no.kept hg hr⟩
/-- Both numbers are written. -/
theorem PB.put (h : PB b3 b5 b6 b7 b8 A1 c1 A2 c2 m key i n W) (h37 : b3 ≠ b7) (h38 : b3 ≠ b8) (h57 : b5 ≠ b7) (h58 : b5 ≠ b8) (h67 : b6 ≠ b7) (h68 : b6 ≠ b8) (h78 : b7 ≠ b8) (ha1 : ∀ b off, m.cs.length ≠ 0 → A1 = some ⟨b, off, none⟩ → b ≠ b7 ∧ b ≠ b8) (ha2 : ∀ b off, m.ns.length ≠ 0 → A2 = some ⟨b, off, none⟩ → b ≠ b7 ∧ b ≠ b8) (i' n' : Int) :
    PB b3 b5 b6 b7 b8 A1 c1 A2 c2 m key i' n' ((W.setCell ⟨b7, 0, none⟩ (.int .i64 i')).setCell ⟨b8, 0, none⟩ (.int .i64 n')) := by
  have hk : ∀ k, k ≠ b7 → k ≠ b8 → ((W.setCell ⟨b7, 0, none⟩ (.int .i64 i')).setCell ⟨b8, 0, none⟩ (.int .i64 n')).heap[k]? = W.heap[k]? := fun k h1 h2 => (Below.heap_setCell _ _ _ _ h2).trans (Below.heap_setCell _ _ _ _ h1)
  refine ⟨⟨(World.cell?_of_block (a := ⟨b3, 0, none⟩) (hk b3 h37 h38)).trans h.mb.p0, (World.cell?_of_block (a := ⟨b3, 1, none⟩) (hk b3 h37 h38)).trans h.mb.p1, HM.same h.mb.hm (fun b off h0 e => hk b (ha1 b off h0 e).1 (ha1 b off h0 e).2) (fun b off h0 e => hk b (ha2 b off h0 e).1 (ha2 b off h0 e).2)⟩, (h.ke.other h57 _).other h58 _, (h.re.other h67 _).other h68 _, (h.nn.put _).other h78 _, (h.no.other (Ne.symm h78) _).put _⟩
end
def inOf (m : M) (key : ByteArray) (k : Nat) : Int := if fnd m.cs key < k then 1 else 0
def noOf (m : M) (key : ByteArray) (k : Nat) : Int := if fnd m.cs key < k then node m (fnd m.cs key) else -1
/-- between two rounds -/
def PI (w : World) (b3 b5 b6 b7 b8 : Nat) (A1 : Option Addr) (c1 : Nat) (A2 : Option Addr) (c2 : Nat) (m : M) (key : ByteArray) (pre : List Nat) (W : World) : Prop :=
  PB b3 b5 b6 b7 b8 A1 c1 A2 c2 m key (inOf m key pre.length) (noOf m key pre.length) W ∧ Below w.heap.size w W
theorem PI.from_ {w : World} {b3 b5 b6 b7 b8 c1 c2 C : Nat} {A1 A2 : Option Addr} {m : M} {key : ByteArray} (hC : w.heap.size ≤ C) : OwnFrom C (PI w b3 b5 b6 b7 b8 A1 c1 A2 c2 m key) := by
  rintro pre W W' row ⟨h1, hB⟩ hg hrow
  exact ⟨h1.kept hg fun r e => (hrow r e).2, hB.grown hg hB.size (fun k e => Nat.le_trans hC (hrow k e).1)⟩
/-- what the last region reads -/
abbrev PS (b3 b5 b7 b8 : Nat) (u v : Value) (key : ByteArray) (i n : Int) (W : World) : Prop := (W.cell? ⟨b3, 0, none⟩ = some u ∧ W.cell? ⟨b3, 1, none⟩ = some v) ∧ W.cell? ⟨b5, 0, none⟩ = some (.string key) ∧ W.cell? ⟨b7, 0, none⟩ = some (.int .i64 i) ∧ W.cell? ⟨b8, 0, none⟩ = some (.int .i64 n)
theorem PS.set {b3 b5 b7 b8 b : Nat} {u v : Value} {key : ByteArray} {i n : Int} {W : World} (h : PS b3 b5 b7 b8 u v key i n W) (h3 : b3 ≠ b) (h5 : b5 ≠ b) (h7 : b7 ≠ b) (h8 : b8 ≠ b) (x : Value) : PS b3 b5 b7 b8 u v key i n (W.setCell ⟨b, 0, none⟩ x) := by
  have e : ∀ k o, k ≠ b → (W.setCell ⟨b, 0, none⟩ x).cell? ⟨k, o, none⟩ = W.cell? ⟨k, o, none⟩ := fun k o hk => World.cell?_of_block (Below.heap_setCell W ⟨b, 0, none⟩ x k hk)
  exact ⟨⟨(e _ _ h3).trans h.1.1, (e _ _ h3).trans h.1.2⟩, (e _ _ h5).trans h.2.1, (e _ _ h7).trans h.2.2.1, (e _ _ h8).trans h.2.2.2⟩
set_option maxRecDepth 100000 in
set_option maxHeartbeats 4000000 in
theorem parts (A1 : Option Addr) (c1 : Nat) (A2 : Option Addr) (c2 : Nat) (m : M) (k : Int) (key : ByteArray) (w : World) (h : HM w A1 c1 A2 c2 m) :
    Calls Try.prog 6 #[.agg #[.slice A1 m.cs.length c1, .slice A2 m.ns.length c2], .int .i64 k, .string key] w fun e w' => e = .returned (.bool true) ∧ Below w.heap.size w w' := by
  obtain ⟨W, hW⟩ : ∃ W, ((w.alloc (.cells #[.slice A1 m.cs.length c1, .slice A2 m.ns.length c2] 25)).alloc (.cells #[.string key] 9)).alloc (.cells #[.bool false] 4) = W := ⟨_, rfl⟩
  have hB := hi_below (w := w) (.cells #[.slice A1 m.cs.length c1, .slice A2 m.ns.length c2] 25) (.cells #[.string key] 9) (.cells #[.bool false] 4)
  have hq : MB w.heap.size A1 c1 A2 c2 m W ∧ O1 (w.heap.size + 1) (.string key) W ∧ O1 (w.heap.size + 1 + 1) (.bool false) W := by
    rw [← hW]
    have q0 := MB.new h
    generalize hu1 : w.alloc (.cells #[.slice A1 m.cs.length c1, .slice A2 m.ns.length c2] 25) = u1 at *
    have z1 : u1.heap.size = w.heap.size + 1 := by rw [← hu1]; simp
    rw [← z1]
    have k1 := O1.new u1 (.string key) 9
    have q1 := q0.below (al0 u1 (.cells #[.string key] 9))
    generalize hu2 : u1.alloc (.cells #[.string key] 9) = u2 at *
    have z2 : u2.heap.size = u1.heap.size + 1 := by rw [← hu2]; simp
    rw [← z2]
    exact ⟨q1.below (al0 _ _), k1.below (al0 _ _), O1.new u2 _ _⟩
  rw [hW] at hB
  obtain ⟨hmb, hke, hre⟩ := hq
  have hA1 := Lib.hid (RL.low h.cs)
  have hA2 := Lib.hid (RL.low h.ns)
  have hck := Lib.hid (fun w1 (hb : Below W.heap.size W w1) => check_any A1 c1 A2 c2 m k w1 (hmb.below hb).hm)
  replace hmb := Lib.hid hmb
  replace hke := Lib.hid hke
  replace hre := Lib.hid hre
  replace hB := Lib.hid hB
  replace hW := Lib.hid hW
  clear h
  refine (callsIn_wide (n := 6)).1 ?_
  refine callsIn_of_wp_marks Try.func6 rfl trivial ?_ rfl
  simp only [Try.ntmps6, List.size_toArray, List.length_cons, List.length_nil, Nat.reduceAdd, Nat.reduceSub, Array.replicate_succ, Array.replicate_zero, List.push_toArray, List.append_toArray, List.nil_append, List.cons_append]
  refine wpIn_wide.2 ?_
  go_wp2_with (fail)
  rw [hW.out]
  refine (awake_any W).mono ?_
  rintro e w1 ⟨rfl, hB1⟩
  have hmb1 := hmb.out.below hB1
  have hke1 := hke.out.below hB1
  have hre1 := hre.out.below hB1
  have hck1 := Lib.hid (hck.out w1 hB1)
  have hBw1 := Lib.hid (trans0 hB.out hB1)
  obtain ⟨p0, p1, -⟩ := id hmb1
  replace hmb1 := Lib.hid hmb1
  replace hke1 := Lib.hid hke1
  replace hre1 := Lib.hid hre1
  clear hB1 hck hmb hke hre
  go_wp2_with (fail)
  refine hck1.out.mono ?_
  rintro e w2 ⟨rfl, hB2⟩
  have hmb2 := Lib.hid (hmb1.out.below hB2)
  have hke2 := Lib.hid (hke1.out.below hB2)
  have hre2 := Lib.hid (hre1.out.below hB2)
  have hBw2 := Lib.hid (trans0 hBw1.out hB2)
  clear hB2 p0 p1 hck1 hmb1 hke1 hre1 hBw1
  by_cases hE : chk m k = 0
  · have hok := (chk_iff m k).1 hE
    have hfl := hok.find_lt key
    have hpar := Lib.hid (fun i (hi : i < m.ns.length) => hok.parts key hi)
    have how := Lib.hid (hok.owner key)
    have hcn := Lib.hid (show cnt m = m.ns.length by unfold cnt; rw [if_pos ((has_iff m).2 hok.nc)])
    rw [hE]
    clear hE hok
    obtain ⟨W3, hW3⟩ : ∃ W3, (w2.alloc (.cells #[.int .i64 0] 3)).alloc (.cells #[.int .i64 (-1)] 3) = W3 := ⟨_, rfl⟩
    have hB3 := trans0 (al0 w2 (.cells #[.int .i64 0] 3)) (al0 _ (.cells #[.int .i64 (-1)] 3))
    have hn7 := (O1.new w2 (.int .i64 0) 3).below (al0 _ (.cells #[.int .i64 (-1)] 3))
    have hn8 := O1.new (w2.alloc (.cells #[.int .i64 0] 3)) (.int .i64 (-1)) 3
    rw [hW3] at hB3 hn7 hn8
    rw [World.size_alloc] at hn8
    have hmb3 := hmb2.out.below hB3
    obtain ⟨p0, p1, -⟩ := id hmb3
    have hPB := Lib.hid (⟨hmb3, hke2.out.below hB3, hre2.out.below hB3, hn7, hn8⟩ : PB w.heap.size (w.heap.size + 1) (w.heap.size + 1 + 1) w2.heap.size (w2.heap.size + 1) A1 c1 A2 c2 m key 0 (-1) W3)
    have hl2 := World.block_lt_of_cell? _ _ hre2.out.c
    have hgo := Lib.hid (shards_any A1 c1 A2 c2 m W3 hmb3.hm)
    have hBw3 := Lib.hid (trans0 hBw2.out hB3)
    rw [← hW3] at p0 p1
    have hsz3 := Lib.hid (show w2.heap.size + 1 < W3.heap.size by rw [← hW3]; simp)
    replace hW3 := Lib.hid hW3
    simp only at hl2
    replace hl2 := Lib.hid hl2
    clear hB3 hn7 hn8 hmb3 hmb2 hke2 hre2
    go_wp2_with (fail)
    rw [hW3.out]
    refine hgo.out.mono ?_
    rintro e w4 ⟨B, B1, d1, B3, d2, rfl, hI, hB4⟩
    have hPB4 := hPB.out.below hB4
    have hBw4 := Lib.hid (trans0 hBw3.out hB4)
    have hwl : w.heap.size ≤ w4.heap.size := hBw4.out.size
    have hWl : W3.heap.size ≤ w4.heap.size := hB4.size
    have hPI : Hid (PI w w.heap.size (w.heap.size + 1) (w.heap.size + 1 + 1) w2.heap.size (w2.heap.size + 1) A1 c1 A2 c2 m key [] w4) := Lib.hid ⟨hPB4, hBw4.out⟩
    replace hI := Lib.hid hI
    clear p0 p1 hPB hgo hB4 hPB4
    go_wp2
    refine (wpIn_wide (n := 6)).1 ?_
    refine' range_reads rfl (by omega) (gf := 38) (lb := #[.pointer (some ⟨B, 0, none⟩)]) rfl trivial (enters_of Try.func38 (by kernel_rfl) rfl)
      (iter_reads 5 (by omega) W3.heap.size w4.heap.size B d1 d2 B1 B3 m w4 (Nat.le_refl _) hI.out) KS.trans (KS.book (Nat.le_refl _)) (fun _ => rfl)
      (PI w w.heap.size (w.heap.size + 1) (w.heap.size + 1 + 1) w2.heap.size (w2.heap.size + 1) A1 c1 A2 c2 m key) (fun _ _ _ => False) (PI.from_ hwl) (fun _ _ _ _ _ h _ _ => h.elim) (fun pre => RF.from_ m pre _) hPI.out (sbox m) (KS.alloc _ _) _ ?assign ?body ?done ?stop
    case assign =>
      intro l x W K hbe1 hbe hK
      simp only [encs]
      unfold sbox at hK
      replace hbe := Lib.hid hbe
      gi_wp2
      rw [← hbe.out]
      exact hK
    case stop =>
      rintro D c pre W hD _ h _
      exact h.elim
    case body =>
      rintro l pre x b V hb0 hb ⟨hPV, hBV⟩ ⟨hx, hlt, hnc⟩
      unfold sbox at hb
      have u0 := (cell_of_row V b 0 _ _ (0, 0) hb).trans (show _ = some (.string (spnM.lo m x)) from rfl)
      have u1 := (cell_of_row V b 1 _ _ (0, 0) hb).trans (show _ = some (.string (spnM.hi m x)) from rfl)
      have u2 := (cell_of_row V b 2 _ _ (0, 0) hb).trans (show _ = some (.int .i64 (node m x)) from rfl)
      have hwi := Lib.hid (within_any key (spnM.lo m x) (spnM.hi m x) V)
      rw [hpar.out x (by omega)] at hwi
      have hPV' := Lib.hid hPV
      have hBV' := Lib.hid hBV
      obtain ⟨⟨p0, p1, hmV⟩, ⟨k0, -⟩, -, ⟨n0, n1⟩, ⟨o0, o1⟩⟩ := hPV
      have hls := Lib.hid (show (pre ++ [x]).length = pre.length + 1 by simp)
      by_cases hxf : x = fnd m.cs key
      · rw [decide_eq_true hxf] at hwi
        have hi0 : inOf m key pre.length = 0 := by unfold inOf; rw [if_neg (by omega)]
        have hif : Hid (inOf m key (pre.length + 1) = 1 ∧ noOf m key (pre.length + 1) = node m x) := Lib.hid (by unfold inOf noOf; rw [if_pos (by omega), if_pos (by omega), hxf]; exact ⟨rfl, rfl⟩)
        rw [hi0] at n0
        have hl2' := hl2.out
        have hs3 := hsz3.out
        have hput := Lib.hid (PB.put hPV'.out (by omega) (by omega) (by omega) (by omega) (by omega) (by omega) (by omega) (fun b off h0 e => by have := hA1.out b off h0 e; omega) (fun b off h0 e => by have := hA2.out b off h0 e; omega) 1 (node m x))
        have hbel := Lib.hid ((hBV.setCell (p := ⟨w2.heap.size, 0, none⟩) (show w.heap.size ≤ w2.heap.size by omega) (.int .i64 1)).setCell (p := ⟨w2.heap.size + 1, 0, none⟩) (show w.heap.size ≤ w2.heap.size + 1 by omega) (.int .i64 (node m x)))
        obtain ⟨p0', p1', hmX⟩ := id hput.out.mb
        have k0' := hput.out.ke.c
        have hfx := find_any A1 c1 (.slice A2 m.ns.length c2) m.cs key _ hmX.cs (by have := hmX.s1; omega)
        rw [← hxf] at hfx
        obtain ⟨V2, hV2⟩ : ∃ V2, (V.setCell ⟨w2.heap.size, 0, none⟩ (.int .i64 1)).setCell ⟨w2.heap.size + 1, 0, none⟩ (.int .i64 (node m x)) = V2 := ⟨_, rfl⟩
        have hks : KeepsOthers V V2 ∧ KS W3.heap.size w4.heap.size V V2 := by
          rw [← hV2]
          exact ⟨(KeepsOthers.setCell _ _ _).trans (KeepsOthers.setCell _ _ _), by simp, fun _ k h1 h2 => (Below.heap_setCell _ ⟨w2.heap.size + 1, 0, none⟩ _ k (show k ≠ w2.heap.size + 1 by omega)).trans (Below.heap_setCell V ⟨w2.heap.size, 0, none⟩ _ k (show k ≠ w2.heap.size by omega))⟩
        rw [hV2] at hfx hput hbel
        replace hks := Lib.hid hks
        replace hfx := Lib.hid hfx
        have hV2f := Lib.hid hV2
        clear hi0 hmV hmX hBV hV2 hl2' hs3 hx hlt hnc hxf hb hb0 hI hPI
        gi_wp2
        refine ⟨trivial, ?_⟩
        refine (CallsIn.inRound l (callsIn_wide.2 hwi.out)).mono ?_
        rintro e w' ⟨rfl, rfl⟩
        gi_wp2
        rw [hV2f.out]
        refine ⟨trivial, ?_⟩
        refine (CallsIn.inRound l (callsIn_wide.2 hfx.out)).mono ?_
        rintro e w5 ⟨rfl, hB5⟩
        have hPf := Lib.hid (hput.out.below hB5)
        have hbf := Lib.hid (trans0 hbel.out hB5)
        have hko : KeepsOthers V2 w5 := ⟨hB5.size, fun k o hk ho => (hB5.block k (Array.getElem?_eq_some_iff.1 hk).1).trans hk⟩
        have hkf := Lib.hid (⟨hks.out.1.trans hko, hks.out.2.trans (KS.below hB5)⟩ : _ ∧ _)
        clear hB5 hko p0 p1 k0 n0 n1 o0 o1 u0 u1 u2 p0' p1' k0'
        gi_wp2
        refine ⟨hkf.out.1, hkf.out.2, ?_, hbf.out⟩
        show PB _ _ _ _ _ _ _ _ _ _ _ (inOf m key (pre ++ [x]).length) (noOf m key (pre ++ [x]).length) _
        rw [hls.out, hif.out.1, hif.out.2]
        exact hPf.out
      · rw [decide_eq_false hxf] at hwi
        have hif : Hid (inOf m key (pre.length + 1) = inOf m key pre.length ∧ noOf m key (pre.length + 1) = noOf m key pre.length) := Lib.hid (by
          unfold inOf noOf
          by_cases h1 : fnd m.cs key < pre.length
          · rw [if_pos h1, if_pos (by omega), if_pos h1, if_pos (by omega)]; exact ⟨rfl, rfl⟩
          · rw [if_neg h1, if_neg (by omega), if_neg h1, if_neg (by omega)]; exact ⟨rfl, rfl⟩)
        clear hmV hBV hx hlt hnc hxf hb hb0 hI hPI n0 n1 o0 o1
        gi_wp2
        refine ⟨trivial, ?_⟩
        refine (CallsIn.inRound l (callsIn_wide.2 hwi.out)).mono ?_
        rintro e w' ⟨rfl, rfl⟩
        gi_wp2
        refine ⟨KeepsOthers.refl _, KS.below (Below.refl _ _), ?_, hBV'.out⟩
        show PB _ _ _ _ _ _ _ _ _ _ _ (inOf m key (pre ++ [x]).length) (noOf m key (pre ++ [x]).length) _
        rw [hls.out, hif.out.1, hif.out.2]
        exact hPV'.out
    case done =>
      rintro D ys V hD hlen ⟨hPV, hBV⟩ hK
      rw [hlen, hcn.out] at hPV
      have hi1 : inOf m key m.ns.length = 1 := by unfold inOf; rw [if_pos hfl]
      have hn1 : noOf m key m.ns.length = own m key := by unfold noOf; rw [if_pos hfl, how.out]
      rw [hi1, hn1] at hPV
      have hl2' := hl2.out
      have hS := Lib.hid (show ∀ w', Below V.heap.size V w' → PS w.heap.size (w.heap.size + 1) w2.heap.size (w2.heap.size + 1) (.slice A1 m.cs.length c1) (.slice A2 m.ns.length c2) key 1 (own m key) w' from fun w' hw => ⟨⟨(hPV.below hw).mb.p0, (hPV.below hw).mb.p1⟩, (hPV.below hw).ke.c, (hPV.below hw).nn.c, (hPV.below hw).no.c⟩)
      have hSd := Lib.hid (hS.out V.drew (below_drew V))
      have kA := Lib.hid (up_awake V)
      have kO := Lib.hid (show Up 20 #[.agg #[.slice A1 m.cs.length c1, .slice A2 m.ns.length c2], .string key] (.returned (.int .i64 (own m key))) V from up_of fun w' hw => owner_any A1 c1 A2 c2 m key w' (hPV.below hw).mb.hm)
      have hre := Lib.hid (fun w' (hw : Below V.heap.size V w') => (hPV.below hw).re)
      have n65 : w.heap.size ≠ w.heap.size + 1 + 1 := by omega
      have n66 : w.heap.size + 1 ≠ w.heap.size + 1 + 1 := by omega
      have n67 : w2.heap.size ≠ w.heap.size + 1 + 1 := by omega
      have n68 : w2.heap.size + 1 ≠ w.heap.size + 1 + 1 := by omega
      have hne := Lib.hid (⟨n65, n66, n67, n68⟩ : _ ∧ _ ∧ _ ∧ _)
      replace hBV := Lib.hid hBV
      replace hK := Lib.hid hK
      clear hPV hi1 hn1 hI hPI hl2' hfl n65 n66 n67 n68
      generalize own m key = o at *
      go_wp2
      go_region_held3 (PS w.heap.size (w.heap.size + 1) w2.heap.size (w2.heap.size + 1) (.slice A1 m.cs.length c1) (.slice A2 m.ns.length c2) key 1 o)
        (first | with_reducible exact hSd.out | with_reducible assumption | with_reducible exact hS.out _ (by assumption) | with_reducible exact PS.set (by assumption) hne.out.1 hne.out.2.1 hne.out.2.2.1 hne.out.2.2.2 _ | fail)
        (first
          | (go_at_call 11; ((with_reducible refine (kA.out _ (by first | assumption | exact (Below.refl _ _).drew)).mono ?_); rintro e w' ⟨rfl, hBx⟩))
          | (go_at_call 20; ((with_reducible refine (kO.out _ (by first | assumption | exact (Below.refl _ _).drew)).mono ?_); rintro e w' ⟨rfl, hBx⟩; obtain ⟨hc6, hf6⟩ := hre.out _ hBx)) | fail)
      all_goals
        have hKb : w'.heap[D]? = some (.deferred (some [])) := (hBx.block D (Array.getElem?_eq_some_iff.1 hK.out).1).trans hK.out
        have hK' := Lib.hid ((KeepsOthers.setCell w' ⟨w.heap.size + 1 + 1, 0, none⟩ (.bool true)).same D _ hKb rfl)
        have hput := Lib.hid (O1.put ⟨hc6, hf6⟩ (.bool true) : O1 (w.heap.size + 1 + 1) (.bool true) (w'.setCell ⟨w.heap.size + 1 + 1, 0, none⟩ (.bool true)))
        have hbe := Lib.hid ((trans0 hBV.out hBx).setCell (p := ⟨w.heap.size + 1 + 1, 0, none⟩) (show w.heap.size ≤ w.heap.size + 1 + 1 by omega) (.bool true))
        clear hKb hBx hc6 hf6
        go_wp2
        refine ⟨by simp, .inl ⟨_, _, rfl, run_takeDeferred hK'.out, ?_⟩⟩
        have h5 := hput.out.kept (grownBy_putObj' _ D (.deferred none)) (fun r e => by cases e; exact ⟨_, hK'.out, rfl⟩)
        have x0 := h5.c
        refine ⟨.bool true, ?_, rfl, hbe.out.trans (belowK_b (w := w) (Nat.le_refl _) _ D _ _ (by omega) hK'.out rfl rfl)⟩
        simp [results, Try.f6, go_sem, x0]
  · have hne : ((chk m k : Int) != 0) = true := by rw [bne_iff_ne]; omega
    clear hE hmb2 hke2
    generalize chk m k = E at *
    go_wp2_with (fail)
    refine (awake_any w2).mono ?_
    rintro e w3 ⟨rfl, hB3⟩
    have hre3 := hre2.out.below hB3
    have hB3' := Lib.hid (trans0 hBw2.out hB3)
    obtain ⟨t0, t1⟩ := id hre3
    have hfin := Lib.hid (hre3.put (.bool true)).c
    clear hB3 hre3
    go_wp2
    refine ⟨.bool true, ?_, rfl, hB3'.out.setCell (p := ⟨w.heap.size + 1 + 1, 0, none⟩) (show w.heap.size ≤ w.heap.size + 1 + 1 by omega) _⟩
    simp [results, Try.f6, go_sem, hfin.out]
end Go.Proofs.Ytihaapjobkpdcaa.spnW
