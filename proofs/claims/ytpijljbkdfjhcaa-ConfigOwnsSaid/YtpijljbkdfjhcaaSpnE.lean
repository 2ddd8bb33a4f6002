/- The contracts of shard, of Shards and of the function that Shards answers. -/
import Derived.RangeFuncNested
import Derived.RangeFuncBound
import Derived.RangeFuncCalls
import Derived.RangeFuncLeaves
import Derived.Shelf.Abstract
import Derived.Shelf.RegionOpen
import Derived.OwnWalkIn
import Derived.TacticsInMore
import Derived.LoopNIn
import Derived.LoopIn
import Derived.Test.YtpijljbkdfjhcaaSpnD
import Derived.Test.YtpijljbkdfjhcaaRngR
set_option linter.unusedVariables false
namespace Go.Proofs.Ytpijljbkdfjhcaa.spnE
open Go.ChangeShapes Go.WideShapes Go.ChangeAt Go.RowKit Go.Shelf
open spnM spnA spnB spnN spnP spnD rngR
attribute [local go_sem high] bin_slt bin_sle bin_sge bin_seq bin_sne
attribute [local go_sem] Oper.semAt_some

/-- a shard's value -/
def shv (m : M) (j : Nat) : Value := .agg #[.string (spnM.lo m j), .string (spnM.hi m j), .int .i64 (node m j)]
theorem hi_below {w : World} (o1 o2 o3 : Obj) : Below w.heap.size w (((w.alloc o1).alloc o2).alloc o3) := trans0 (trans0 (al0 _ _) (al0 _ _)) (al0 _ _)
set_option maxRecDepth 100000 in
set_option maxHeartbeats 1000000 in
theorem shard_any (A1 : Option Addr) (c1 : Nat) (A2 : Option Addr) (c2 : Nat) (m : M) (j : Nat) (w : World) (h : HM w A1 c1 A2 c2 m) (hj : j < m.ns.length) (hh : m.ns.length = m.cs.length + 1) :
    Calls Try.prog 78 #[.agg #[.slice A1 m.cs.length c1, .slice A2 m.ns.length c2], .int .i64 j] w fun e w' =>
      e = .returned (.agg #[.string (spnM.lo m j), .string (spnM.hi m j), .int .i64 (node m j)]) ∧ Below w.heap.size w w' := by
  have hs : m.cs.length ≤ 140737488351232 := by have := h.s1; omega
  have hs2 : m.ns.length ≤ 140737488351232 := by have := h.s2; omega
  obtain ⟨b2, off2, rfl, hb2, hc2⟩ := h.ns.at hj
  have hn := hc2 j hj
  have hnd : node m j = nt m.ns j := rfl
  have hj0 : (0 : Int) ≤ (j : Int) := by omega
  have hj1 : (j : Int) < (m.ns.length : Int) := by omega
  have hb21 : b2 < w.heap.size + 1 := by omega
  have hb22 : b2 < w.heap.size + 1 + 1 := by omega
  rw [hnd]
  replace hh := Lib.hid hh
  clear hc2 hnd
  unfold spnM.lo spnM.hi
  generalize nt m.ns j = nd at *
  by_cases hl : 0 < j <;> by_cases hg : j < m.cs.length
  · obtain ⟨b, off, rfl, hb, hc⟩ := h.cs.at hg
    have hc1 := hc j hg
    have hc3 := hc (j - 1) (by omega)
    rw [if_pos hl, if_pos hg]
    clear hc h
    have hb1 : b < w.heap.size + 1 := by omega
    have hb2 : b < w.heap.size + 1 + 1 := by omega
    have g0 : (0 : Int) < (j : Int) := by omega
    have g1 : (j : Int) < (m.cs.length : Int) := by omega
    have g2 : ((j : Int) - 1).toNat = j - 1 := by omega
    have hE : Hid (m.cs.getD (j - 1) default = nt m.cs (j - 1) ∧ m.cs.getD j default = nt m.cs j) := Lib.hid ⟨rfl, rfl⟩
    rw [hE.out.1, hE.out.2]
    generalize nt m.cs (j - 1) = x at *
    generalize nt m.cs j = y at *
    go_enter Try.func78, Try.ntmps78
    go_wp2
    exact bodyPost_ret (v := .agg #[.string x, .string y, .int .i64 nd]) (by simp [results, Try.results78, go_sem]) rfl ⟨rfl, hi_below _ _ _⟩
  · obtain ⟨b, off, rfl, hb, hc⟩ := h.cs.at (i := j - 1) (by have := hh.out; omega)
    have hc2 := hc (j - 1) (by have := hh.out; omega)
    rw [if_pos hl, if_neg hg]
    clear hc h
    have hb1 : b < w.heap.size + 1 := by omega
    have hb2 : b < w.heap.size + 1 + 1 := by omega
    have g0 : (0 : Int) < (j : Int) := by omega
    have g1 : ¬ (j : Int) < (m.cs.length : Int) := by omega
    have g2 : ((j : Int) - 1).toNat = j - 1 := by omega
    have g3 : j - 1 < m.cs.length := by have := hh.out; omega
    have g4 : (j : Int) - 1 < (m.cs.length : Int) := by omega
    have hE : Hid (m.cs.getD (j - 1) default = nt m.cs (j - 1)) := Lib.hid rfl
    rw [hE.out]
    generalize nt m.cs (j - 1) = x at *
    go_enter Try.func78, Try.ntmps78
    go_wp2
    exact bodyPost_ret (v := .agg #[.string x, .string emp, .int .i64 nd]) (by simp [results, Try.results78, go_sem]) rfl ⟨rfl, hi_below _ _ _⟩
  · obtain ⟨b, off, rfl, hb, hc⟩ := h.cs.at hg
    have hc1 := hc j hg
    rw [if_neg hl, if_pos hg]
    clear hc h
    have hb1 : b < w.heap.size + 1 := by omega
    have hb2 : b < w.heap.size + 1 + 1 := by omega
    have g0 : ¬ (0 : Int) < (j : Int) := by omega
    have g1 : (j : Int) < (m.cs.length : Int) := by omega
    have hE : Hid (m.cs.getD j default = nt m.cs j) := Lib.hid rfl
    rw [hE.out]
    generalize nt m.cs j = y at *
    go_enter Try.func78, Try.ntmps78
    go_wp2
    exact bodyPost_ret (v := .agg #[.string emp, .string y, .int .i64 nd]) (by simp [results, Try.results78, go_sem]) rfl ⟨rfl, hi_below _ _ _⟩
  · rw [if_neg hl, if_neg hg]
    clear h
    have g0 : ¬ (0 : Int) < (j : Int) := by omega
    have g1 : ¬ (j : Int) < (m.cs.length : Int) := by omega
    go_enter Try.func78, Try.ntmps78
    go_wp2
    exact bodyPost_ret (v := .agg #[.string emp, .string emp, .int .i64 nd]) (by simp [results, Try.results78, go_sem]) rfl ⟨rfl, hi_below _ _ _⟩

/-! ### Shards -/
/-- the blocks from lo on, below hi, lie as they lay -/
def KR (lo hi : Nat) (W W' : World) : Prop := ∀ k, lo ≤ k → k < hi → W'.heap[k]? = W.heap[k]?
theorem KR.trans {lo hi : Nat} {A B C : World} (h : KR lo hi A B) (k : KR lo hi B C) : KR lo hi A C := fun i h1 h2 => (k i h1 h2).trans (h i h1 h2)
theorem KR.book {lo hi : Nat} {w : World} (hhi : hi ≤ w.heap.size) (W : World) (l : Nat) (o o' : Obj) (hl : w.heap.size ≤ l) (_ : W.heap[l]? = some o) (_ : o.isCells = false) (_ : o.isWalk = false) : KR lo hi W (W.putObj l o') :=
  fun k _ h2 => World.putObj_heap_other (by omega)
/-- what the body keeps for the iterator -/
def KS (lo hi : Nat) (V V' : World) : Prop := V.heap.size ≤ V'.heap.size ∧ (hi ≤ V.heap.size → KR lo hi V V')
theorem KS.trans {lo hi : Nat} {A B C : World} (h : KS lo hi A B) (k : KS lo hi B C) : KS lo hi A C := ⟨Nat.le_trans h.1 k.1, fun e => (h.2 e).trans (k.2 (Nat.le_trans e h.1))⟩
theorem KS.book {lo hi : Nat} {w : World} (hhi : hi ≤ w.heap.size) (W : World) (l : Nat) (o o' : Obj) (hl : w.heap.size ≤ l) (h1 : W.heap[l]? = some o) (h2 : o.isCells = false) (h3 : o.isWalk = false) : KS lo hi W (W.putObj l o') :=
  ⟨by simp, fun _ => KR.book hhi W l o o' hl h1 h2 h3⟩
theorem KS.alloc (lo hi : Nat) (W : World) (o : Obj) : KS lo hi W (W.alloc o) := ⟨by simp, fun e k _ h => Below.heap_alloc W o k (by omega)⟩
theorem KS.below {lo hi : Nat} {W W' : World} (h : Below W.heap.size W W') : KS lo hi W W' := ⟨h.size, fun e k _ h2 => h.block k (by omega)⟩
/-- The function that goes through a map's shards: where it has the map. -/
structure Itr (w : World) (lo hi B : Nat) (A1 : Option Addr) (c1 : Nat) (A2 : Option Addr) (c2 : Nat) (m : M) : Prop where
  p0 : w.cell? ⟨B, 0, none⟩ = some (.slice A1 m.cs.length c1)
  p1 : w.cell? ⟨B, 1, none⟩ = some (.slice A2 m.ns.length c2)
  hm : HM w A1 c1 A2 c2 m
  lo_ : lo ≤ B
  hi_ : B < hi
  a1 : ∀ b off, A1 = some ⟨b, off, none⟩ → lo ≤ b ∧ b < hi
  a2 : ∀ b off, A2 = some ⟨b, off, none⟩ → lo ≤ b ∧ b < hi
theorem Itr.keep {W W' : World} {lo hi B c1 c2 : Nat} {A1 A2 : Option Addr} {m : M} (h : Itr W lo hi B A1 c1 A2 c2 m) (hk : KR lo hi W W') : Itr W' lo hi B A1 c1 A2 c2 m where
  p0 := (World.cell?_of_block (hk B h.lo_ h.hi_)).trans h.p0
  p1 := (World.cell?_of_block (hk B h.lo_ h.hi_)).trans h.p1
  hm := { h.hm with cs := h.hm.cs.same fun b off e => hk b (h.a1 b off e).1 (h.a1 b off e).2, ns := h.hm.ns.same fun b off e => hk b (h.a2 b off e).1 (h.a2 b off e).2 }
  lo_ := h.lo_
  hi_ := h.hi_
  a1 := h.a1
  a2 := h.a2
def Goes (m : M) (w : World) (e : Ending) (w' : World) : Prop :=
  ∃ B A1 c1 A2 c2, e = .returned (.func (.func 77) #[] #[.pointer (some ⟨B, 0, none⟩)]) ∧ Itr w' w.heap.size w'.heap.size B A1 c1 A2 c2 m ∧ Below w.heap.size w w'
set_option maxRecDepth 100000 in
theorem shards_any (A1 : Option Addr) (c1 : Nat) (A2 : Option Addr) (c2 : Nat) (m : M) (w : World) (h : HM w A1 c1 A2 c2 m) :
    Calls Try.prog 72 #[.agg #[.slice A1 m.cs.length c1, .slice A2 m.ns.length c2]] w (Goes m w) := by
  have hB2 := B2.new w (.slice A1 m.cs.length c1) (.slice A2 m.ns.length c2)
  have hal := al0 w (.cells #[.slice A1 m.cs.length c1, .slice A2 m.ns.length c2] 26)
  have hcp := Lib.hid (copy_any A1 c1 A2 c2 m _ (h.below hal))
  have hs := Lib.hid (show m.cs.length * 16 ≤ 140737488351232 ∧ m.ns.length * 8 ≤ 140737488351232 from ⟨h.s1, h.s2⟩)
  replace hB2 := Lib.hid hB2
  replace hal := Lib.hid hal
  clear h
  go_enter Try.func72, Try.ntmps72
  go_wp2_with (fail)
  refine hcp.out.mono ?_
  rintro e w1 ⟨B1, d1, B3, d2, rfl, hG, hB⟩
  have hb := B2.below hB2.out hB
  obtain ⟨z0, z1, z2, z3⟩ := B2.cells hb
  rw [World.size_alloc] at hG
  have hfin := Lib.hid (show Goes m w (.returned (.func (.func 77) #[] #[.pointer (some ⟨w.heap.size, 0, none⟩)])) ((w1.setCell ⟨w.heap.size, 0, none⟩ (.slice B1 m.cs.length d1)).setCell ⟨w.heap.size, 1, none⟩ (.slice B3 m.ns.length d2)) from by
    have hsz : w.heap.size < w1.heap.size := hb.lt
    have hG2 := hG.set2 (Nat.lt_succ_self w.heap.size) (.slice B1 m.cs.length d1) (.slice B3 m.ns.length d2)
    have hbp := B2.cells (B2.put hb (.slice B1 m.cs.length d1) (.slice B3 m.ns.length d2))
    refine ⟨w.heap.size, B1, d1, B3, d2, rfl, ⟨hbp.1, hbp.2.1, hG2.hm hs.out.1 hs.out.2, Nat.le_refl _, by simp; exact hsz, fun b off e => ?_, fun b off e => ?_⟩, below2 (trans0 hal.out hB) (Nat.le_refl _) _ _⟩
    · have := hG2.cs.lt b (by rw [e]; rfl); omega
    · have := hG2.ns.lt b (by rw [e]; rfl); omega)
  clear hG hB hb
  go_wp2
  go_ret
  exact hfin.out

/-- what a round is handed -/
def encs (m : M) (x : Nat) : Array Value := #[.int .i64 (x : Int), .agg #[.string (spnM.lo m x), .string (spnM.hi m x), .int .i64 (node m x)]]
def RF (m : M) (pre : List Nat) (x : Nat) (_ : World) : Prop := x = pre.length ∧ pre.length < m.ns.length ∧ m.ns.length = m.cs.length + 1
theorem RF.from_ (m : M) (pre : List Nat) (C : Nat) : OwnFrom C (RF m pre) := fun _ _ _ _ hs _ _ => hs
def cnt (m : M) : Nat := if has m = true then m.ns.length else 0
theorem abide {w00 : Nat} {J : List Nat → World → Prop} (hJ : AbidesFrom w00 J) {pre : List Nat} {W W' : World} (h : J pre W) (hB : Below W.heap.size W W') : J pre W' :=
  hJ pre W W' none h ⟨hB.os, hB.tape, hB.output, hB.size, fun k hk _ => hB.block k hk⟩ (fun r e => by cases e)
set_option maxRecDepth 100000 in
set_option maxHeartbeats 2000000 in
theorem iter_in (n : Nat) (hn : 1 ≤ n) (l lo hi B c1 c2 w00 : Nat) (A1 A2 : Option Addr) (m : M) (J Jx : List Nat → World → Prop) (hJa : AbidesFrom w00 J)
    (hY : ∀ pre x V, J pre V → RF m pre x V → YieldAt Fence.wide (n - 1) Try.prog l (encs m x) V fun e V' =>
      (e = .returned (.bool true) ∧ J (pre ++ [x]) V' ∧ KS lo hi V V') ∨ (e = .returned (.bool false) ∧ Jx (pre ++ [x]) V'))
    (W : World) (hI : Itr W lo hi B A1 c1 A2 c2 m) (hhi : hi ≤ W.heap.size) (h0 : J [] W) :
    CallsIn Fence.wide n Try.prog 77 #[.func (.yield l) #[] #[], .pointer (some ⟨B, 0, none⟩)] W fun e W' => (∃ v, e = .returned v) ∧
      ((∃ ys, ys.length = cnt m ∧ J ys W') ∨ (∃ pre, True ∧ Jx pre W')) := by
  have hp0 := hI.p0
  have hp1 := hI.p1
  have hh := Lib.hid (has_any A1 c1 A2 c2 m W (by have := hI.hm.s1; omega) (by have := hI.hm.s2; omega))
  have hs2 : m.ns.length ≤ 140737488351232 := by have := hI.hm.s2; omega
  replace hI := Lib.hid hI
  replace hJa := Lib.hid hJa
  refine callsIn_of_wp Try.func77 rfl trivial ?_ rfl
  simp only [Try.ntmps77, List.size_toArray, List.length_cons, List.length_nil, Nat.reduceAdd, Nat.reduceSub, Array.replicate_succ, Array.replicate_zero, List.push_toArray, List.append_toArray, List.nil_append, List.cons_append]
  cases hm : has m
  · rw [hm] at hh
    have hc : Hid (cnt m = 0) := Lib.hid (by unfold cnt; rw [hm]; rfl)
    have hJk := Lib.hid (fun W' (hB : Below W.heap.size W W') => abide hJa.out h0 hB)
    clear hY h0 hm
    gi_wp2
    refine ⟨trivial, ?_⟩
    refine (callsIn_wide.2 hh.out).mono ?_
    rintro e w' ⟨rfl, hBw⟩
    have hBk := Lib.hid hBw
    clear hBw
    gi_wp2
    refine bodyPost_ret (results_none rfl _ _ _) rfl ?_
    exact ⟨⟨_, rfl⟩, .inl ⟨[], hc.out.symm, hJk.out _ hBk.out⟩⟩
  · rw [hm] at hh
    have hc : Hid (cnt m = m.ns.length) := Lib.hid (by unfold cnt; rw [hm]; rfl)
    have hnc := Lib.hid ((has_iff m).1 hm)
    clear hm
    gi_wp2
    refine ⟨trivial, ?_⟩
    refine (callsIn_wide.2 hh.out).mono ?_
    rintro e w1 ⟨rfl, hB1⟩
    have hI1 := Lib.hid (Itr.keep hI.out (fun k _ h => hB1.block k (by omega)) : Itr w1 lo hi B A1 c1 A2 c2 m)
    have hJ1 := abide hJa.out h0 hB1
    have hh1 : hi ≤ w1.heap.size := Nat.le_trans hhi hB1.size
    have hq1 := hI1.out.p1
    clear h0 hI hp0 hp1 hB1 hh hhi
    gi_wp2
    gi_loopw [10] (fun t wr => ∃ (pre : List Nat), pre.length ≤ m.ns.length ∧ t = .int .i64 (pre.length : Nat) ∧ J pre wr ∧ Itr wr lo hi B A1 c1 A2 c2 m ∧ hi ≤ wr.heap.size) (fun t _ => m.ns.length - (intOf t).toNat)
    case atStart => exact ⟨[], Nat.zero_le _, rfl, hJ1, hI1.out, hh1⟩
    case round =>
      obtain ⟨pre, hp, rfl, hJ, hIt, hhr⟩ := hrel
      have hp0 := hIt.p0
      have hp1 := hIt.p1
      clear hI1 hJ1 hh1 hq1
      by_cases hlt : pre.length < m.ns.length
      · have hsh := Lib.hid (shard_any A1 c1 A2 c2 m pre.length wr hIt.hm hlt hnc.out)
        have hRF := Lib.hid (show ∀ V, RF m pre pre.length V from fun _ => ⟨rfl, hlt, hnc.out⟩)
        have hlen := Lib.hid (show (pre ++ [pre.length]).length = pre.length + 1 by simp)
        replace hIt := Lib.hid hIt
        obtain ⟨k, hk⟩ : ∃ k, pre.length = k := ⟨_, rfl⟩
        rw [hk] at hsh hRF hlen hlt hp
        simp only [hk]
        replace hk := Lib.hid hk
        gi_wp2
        refine ⟨trivial, ?_⟩
        refine (callsIn_wide.2 hsh.out).mono ?_
        rintro e V ⟨rfl, hBV⟩
        have hJV := abide hJa.out hJ hBV
        obtain ⟨fn, tmps, assign, body, hy, hR⟩ := hY pre k V hJV (hRF.out V)
        dsimp only [encs] at hy
        have hIV := Lib.hid (Itr.keep hIt.out (fun b _ h => hBV.block b (by omega)) : Itr V lo hi B A1 c1 A2 c2 m)
        have hhV : hi ≤ V.heap.size := Nat.le_trans hhr hBV.size
        clear hBV hJV hJ hIt hsh hp0 hp1
        gi_wp2
        refine hR.mono ?_
        rintro e W3 (⟨rfl, hJ3, hk3⟩ | ⟨rfl, hJx3⟩)
        · have hI3 := Lib.hid (Itr.keep hIV.out (hk3.2 hhV))
          have hh3 : hi ≤ W3.heap.size := Nat.le_trans hhV hk3.1
          clear hk3 hR hy
          gi_wp2
          go_roundw
          case rel => exact ⟨pre ++ [k], by rw [hlen.out]; omega, by rw [hlen.out]; go_num, hJ3, hI3.out, hh3⟩
          case measure => simp [intOf]; omega
        · clear hR hy
          gi_wp2
          refine bodyPost_ret (results_none rfl _ _ _) rfl ?_
          exact ⟨⟨_, rfl⟩, .inr ⟨pre ++ [k], trivial, hJx3⟩⟩
      · have he : pre.length = m.ns.length := by omega
        have hE := Lib.hid (he.trans hc.out.symm)
        rw [he]
        clear he hY
        gi_wp2
        all_goals
          first
          | (refine bodyPost_ret (results_none rfl _ _ _) rfl ?_
             exact ⟨⟨_, rfl⟩, .inl ⟨pre, hE.out, hJ⟩⟩)
          | (go_end0
             exact ⟨⟨_, rfl⟩, .inl ⟨pre, hE.out, hJ⟩⟩)
/-- The contract in the form that the law on ranges wants. -/
theorem iter_reads (n : Nat) (hn : 1 ≤ n) (lo hi B c1 c2 : Nat) (A1 A2 : Option Addr) (m : M) (w : World) (hhi : hi ≤ w.heap.size) (hI : Itr w lo hi B A1 c1 A2 c2 m) :
    Reads Fence.wide n Try.prog 77 #[.pointer (some ⟨B, 0, none⟩)] (encs m) (KS lo hi) (RF m) (fun ys => ys.length = cnt m) (fun _ => True) w :=
  fun l J Jx W hW hJ _ hY h0 => iter_in n hn l lo hi B c1 c2 W.heap.size A1 A2 m J Jx hJ hY W (Itr.keep hI (fun k _ h => hW.block k (by omega))) (Nat.le_trans hhi hW.size) h0
end Go.Proofs.Ytpijljbkdfjhcaa.spnE
