/- The contract of the function that Ways answers. -/
import Derived.RangeFuncNested
import Derived.RangeFuncBound
import Derived.RangeFuncCalls
import Derived.RangeFuncLeaves
import Derived.Shelf.Abstract
import Derived.Shelf.RegionOpen
import Derived.OwnWalkIn
import Derived.TacticsInMore
import Derived.LoopNIn
import Derived.LoopIn
import Derived.WalkMore
import Derived.Test.YtggoaglcffdcnaaNetK
namespace Go.Proofs.Ytggoaglcffdcnaa.netW
open Go.ChangeShapes Go.WideShapes Go.ChangeAt Go.RowKit Go.Shelf
open numM rowA byt numA numB numC netA netB netC netK
attribute [local go_sem] Oper.semAt_some

/-! ### The ways that have packets, plainly -/
def wsF (len : Nat → Nat) : Nat → Nat → List (Nat × Nat)
  | 0, _ => []
  | m + 1, n => if len n = 0 then wsF len m (n + 1) else (n / 21, n % 21) :: wsF len m (n + 1)
def wsn (len : Nat → Nat) (n : Nat) : List (Nat × Nat) := wsF len (441 - n) n
theorem wsn_end (len : Nat → Nat) : wsn len 441 = [] := rfl
theorem wsn_no {len : Nat → Nat} {n : Nat} (h : n < 441) (e : len n = 0) : wsn len n = wsn len (n + 1) := by
  unfold wsn
  rw [show 441 - n = (441 - (n + 1)) + 1 by omega]
  show (if _ then _ else _) = _
  rw [if_pos e]
theorem wsn_yes {len : Nat → Nat} {f t : Nat} (hf : f < 21) (ht : t < 21) (e : len (f * 21 + t) ≠ 0) : wsn len (f * 21 + t) = (f, t) :: wsn len (f * 21 + t + 1) := by
  unfold wsn
  rw [show 441 - (f * 21 + t) = (441 - (f * 21 + t + 1)) + 1 by omega]
  show (if _ then _ else _) = _
  rw [if_neg e, show (f * 21 + t) / 21 = f by omega, show (f * 21 + t) % 21 = t by omega]
/-- the blocks B and p lie as they lay -/
def KW (B p : Nat) (W W' : World) : Prop := W'.heap[B]? = W.heap[B]? ∧ W'.heap[p]? = W.heap[p]?
theorem KW.trans {B p : Nat} {X Y Z : World} (h : KW B p X Y) (k : KW B p Y Z) : KW B p X Z := ⟨k.1.trans h.1, k.2.trans h.2⟩
theorem KW.book {B p : Nat} {w : World} (hB : B < w.heap.size) (hp : p < w.heap.size) (W : World) (l : Nat) (o o' : Obj) (hl : w.heap.size ≤ l) (_ : W.heap[l]? = some o) (_ : o.isCells = false) (_ : o.isWalk = false) : KW B p W (W.putObj l o') :=
  ⟨World.putObj_heap_other (by omega), World.putObj_heap_other (by omega)⟩
/-- what the iterator reads -/
def WI (W : World) (B p : Nat) (len : Nat → Nat) : Prop := W.cell? ⟨B, 0, none⟩ = some (.pointer (some ⟨p, 0, none⟩)) ∧ ∃ F, W.rowIs p 64 442 F ∧ ∀ k, k < 441 → ∃ A c, F k = .slice A (len k) c ∧ len k ≤ 48
theorem WI.keep {W W' : World} {B p : Nat} {len : Nat → Nat} (h : WI W B p len) (hk : KW B p W W') : WI W' B p len :=
  ⟨(World.cell?_of_block (a := ⟨B, 0, none⟩) hk.1).trans h.1, by obtain ⟨F, h1, h2⟩ := h.2; exact ⟨F, h1.of_block hk.2, h2⟩⟩
theorem WI.at {W : World} {B p : Nat} {len : Nat → Nat} (h : WI W B p len) {k : Nat} (hk : k < 441) : ∃ A c, W.cell? ⟨p, k, none⟩ = some (.slice A (len k) c) ∧ len k ≤ 48 := by
  obtain ⟨F, h1, h2⟩ := h.2
  obtain ⟨A, c, h3, h4⟩ := h2 k hk
  exact ⟨A, c, by rw [← h3]; exact h1.cell (by omega), h4⟩
/-- what a round is handed -/
def encs (x : Nat × Nat) : Array Value := #[.int .i64 (x.1 : Int), .int .i64 (x.2 : Int)]
set_option maxRecDepth 100000 in
set_option maxHeartbeats 2000000 in
theorem iter_in (n : Nat) (hn : 1 ≤ n) (l B p : Nat) (len : Nat → Nat) (J Jx : List (Nat × Nat) → World → Prop)
    (hY : ∀ pre x W, J pre W → pre.length < (wsn len 0).length → YieldAt Fence.wide (n - 1) Try.prog l (encs x) W fun e W' =>
      (e = .returned (.bool true) ∧ J (pre ++ [x]) W' ∧ KW B p W W') ∨ (e = .returned (.bool false) ∧ Jx (pre ++ [x]) W'))
    (W : World) (hI : WI W B p len) (h0 : J [] W) :
    CallsIn Fence.wide n Try.prog 34 #[.func (.yield l) #[] #[], .pointer (some ⟨B, 0, none⟩)] W fun e W' => (∃ v, e = .returned v) ∧
      ((∃ ys, ys = wsn len 0 ∧ J ys W') ∨ (∃ pre, pre <+: wsn len 0 ∧ Jx pre W')) := by
  have hc := hI.1
  replace hI := Lib.hid hI
  refine callsIn_of_wp Try.func34 rfl trivial ?_ rfl
  simp only [Try.ntmps34, List.size_toArray, List.length_cons, List.length_nil, Nat.reduceAdd, Nat.reduceSub, Array.replicate_succ, Array.replicate_zero, List.push_toArray, List.append_toArray, List.nil_append, List.cons_append]
  refine wpIn_wide.2 (wp_scope_straight ((wpIn_wide (n := n)).1 ?_))
  gi_wp2
  refine wpIn_label ?_
  gi_wp2
  clear hc
  gi_loopw [7] (fun t wr => ∃ (pre : List (Nat × Nat)) (f : Nat), f ≤ 21 ∧ t = .int .i64 f ∧ wsn len 0 = pre ++ wsn len (f * 21) ∧ J pre wr ∧ WI wr B p len) (fun t _ => 21 - (intOf t).toNat)
  case atStart => exact ⟨[], 0, Nat.zero_le _, rfl, rfl, h0, hI.out⟩
  case round =>
    obtain ⟨pre, f, hf, rfl, hpre, hJ, hIt⟩ := hrel
    replace hpre := Lib.hid hpre
    replace hIt := Lib.hid hIt
    generalize wr = wo at *
    by_cases hlt : f < 21
    · have hf1 : (f : Int) < 21 := by omega
      gi_wp2
      gi_loopw [10] (fun t wr => ∃ (pre : List (Nat × Nat)) (q : Nat), q ≤ 21 ∧ t = .int .i64 q ∧ wsn len 0 = pre ++ wsn len (f * 21 + q) ∧ J pre wr ∧ WI wr B p len) (fun t _ => 21 - (intOf t).toNat)
      case atStart => exact ⟨pre, 0, Nat.zero_le _, rfl, hpre.out, hJ, hIt.out⟩
      case round =>
        clear hpre hIt hJ
        obtain ⟨pre, q, hq, rfl, hpre, hJ, hIt⟩ := hrel
        replace hpre := Lib.hid hpre
        replace hIt := Lib.hid hIt
        by_cases hlq : q < 21
        · have hcell := hIt.out.1
          obtain ⟨A, c, hrow, hl48⟩ := WI.at hIt.out (k := f * 21 + q) (by omega)
          have hf0 : (0 : Int) ≤ f := by omega
          have hq0 : (0 : Int) ≤ q := by omega
          have hq1 : (q : Int) < 21 := by omega
          by_cases he : len (f * 21 + q) = 0
          · have hnx := Lib.hid (wsn_no (len := len) (n := f * 21 + q) (by omega) he)
            rw [he] at hrow
            clear hY he hl48
            gi_wp2
            refine ⟨fun _ h => (by cases h), ?_⟩
            gi_wp2
            go_roundw
            case rel => exact ⟨pre, q + 1, by omega, by go_num, hpre.out.trans (by rw [hnx.out]; rfl), hJ, hIt.out⟩
            case measure => simp [intOf]; omega
          · have hnx := Lib.hid (wsn_yes (len := len) hlt hlq he)
            have hpos : (0 : Int) < (len (f * 21 + q) : Int) := by omega
            obtain ⟨fn, tmps, assign, body, hy, hR⟩ := hY pre (f, q) wr hJ (by rw [hpre.out, hnx.out]; simp)
            dsimp only [encs] at hy
            clear he hJ
            gi_wp2
            refine hR.mono ?_
            rintro e W3 (⟨rfl, hJ3, hk3⟩ | ⟨rfl, hJx3⟩)
            · have hI3 := Lib.hid (WI.keep hIt.out hk3)
              gi_wp2
              go_roundw
              case rel => exact ⟨pre ++ [(f, q)], q + 1, by omega, by go_num, by rw [hpre.out, hnx.out, List.append_assoc]; rfl, hJ3, hI3.out⟩
              case measure => simp [intOf]; omega
            · gi_wp2
              rw [Exit.noGoto_normal]
              go_end0
              exact ⟨⟨_, rfl⟩, .inr ⟨pre ++ [(f, q)], ⟨wsn len (f * 21 + q + 1), by rw [hpre.out, hnx.out, List.append_assoc]; rfl⟩, hJx3⟩⟩
        · obtain rfl : q = 21 := by omega
          gi_wp2
          go_roundw
          case rel => exact ⟨pre, f + 1, by omega, by go_num, by rw [show (f + 1) * 21 = f * 21 + 21 by omega]; exact hpre.out, hJ, hIt.out⟩
          case measure => simp [intOf]; omega
    · obtain rfl : f = 21 := by omega
      gi_wp2
      rw [Exit.noGoto_normal]
      go_end0
      exact ⟨⟨_, rfl⟩, .inl ⟨_, rfl, by rw [hpre.out, show 21 * 21 = 441 from rfl, wsn_end, List.append_nil]; exact hJ⟩⟩
/-- The contract in the form that the law on ranges over functions wants. -/
theorem iter_stops (n : Nat) (hn : 1 ≤ n) (B p : Nat) (len : Nat → Nat) (w : World) (hI : WI w B p len) (hB : B < w.heap.size) (hp : p < w.heap.size) :
    SeqStopsK Fence.wide n Try.prog 34 #[.pointer (some ⟨B, 0, none⟩)] encs (KW B p) (fun ys => ys = wsn len 0) (fun pre => pre <+: wsn len 0) (wsn len 0).length w :=
  fun l J Jx W hW _ _ hY h0 => iter_in n hn l B p len J Jx hY W (WI.keep hI ⟨hW.block B hB, hW.block p hp⟩) h0
set_option maxRecDepth 100000 in
/-- Of a nil net nothing is told. -/
theorem iter_nil (n : Nat) (l B : Nat) (J Jx : List (Nat × Nat) → World → Prop) (W : World) (hc : W.cell? ⟨B, 0, none⟩ = some (.pointer none)) (h0 : J [] W) :
    CallsIn Fence.wide n Try.prog 34 #[.func (.yield l) #[] #[], .pointer (some ⟨B, 0, none⟩)] W fun e W' => (∃ v, e = .returned v) ∧
      ((∃ ys, ys = [] ∧ J ys W') ∨ (∃ pre, pre <+: [] ∧ Jx pre W')) := by
  refine callsIn_of_wp Try.func34 rfl trivial ?_ rfl
  simp only [Try.ntmps34, List.size_toArray, List.length_cons, List.length_nil, Nat.reduceAdd, Nat.reduceSub, Array.replicate_succ, Array.replicate_zero, List.push_toArray, List.append_toArray, List.nil_append, List.cons_append]
  refine wpIn_wide.2 (wp_scope_straight ((wpIn_wide (n := n)).1 ?_))
  gi_wp2
  rw [Exit.noGoto_ret]
  refine bodyPost_ret (results_none rfl _ _ _) rfl ?_
  exact ⟨⟨_, rfl⟩, .inl ⟨_, rfl, h0⟩⟩
theorem nil_stops (n : Nat) (B : Nat) (w : World) (hc : w.cell? ⟨B, 0, none⟩ = some (.pointer none)) :
    SeqStopsK Fence.wide n Try.prog 34 #[.pointer (some ⟨B, 0, none⟩)] encs (KW B B) (fun ys => ys = []) (fun pre => pre <+: []) 0 w :=
  fun l J Jx W hW _ _ _ h0 => iter_nil n l B J Jx W ((hW.cell (p := ⟨B, 0, none⟩) (World.block_lt_of_cell? _ _ hc)).trans hc) h0
set_option maxRecDepth 100000 in
theorem ways_any (a : Option Addr) (w : World) : Calls Try.prog 15 #[.pointer a] w fun e w' => e = .returned (.func (.func 34) #[] #[.pointer (some ⟨w.heap.size, 0, none⟩)]) ∧ w' = w.alloc (.cells #[.pointer a] 23) := by
  go_enter Try.func15, Try.ntmps15
  go_wp2
  go_ret
  exact ⟨rfl, rfl⟩
end Go.Proofs.Ytggoaglcffdcnaa.netW
