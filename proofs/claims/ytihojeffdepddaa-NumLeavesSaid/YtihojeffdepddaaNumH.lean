/- The contract of the function that Uvars answers: it goes through the short numbers, up to the first that isn't one, and stops where its caller does. -/
import Derived.RangeFuncNested
import Derived.RangeFuncBound
import Derived.RangeFuncCalls
import Derived.RangeFuncLeaves
import Derived.Shelf.Abstract
import Derived.Shelf.RegionOpen
import Derived.OwnWalkIn
import Derived.TacticsInMore
import Derived.LoopNIn
import Derived.LoopIn
import Derived.Test.YtihojeffdepddaaNumG
namespace Go.Proofs.Ytihojeffdepddaa.numH
open Go.ChangeShapes Go.WideShapes Go.ChangeAt Go.RowKit Go.Shelf
open numM numR rowA byt numA numB numC numD numG
attribute [local go_sem] Oper.semAt_some

/-- the blocks from lo on, below hi, lie as they lay -/
def KR (lo hi : Nat) (W W' : World) : Prop := ∀ k, lo ≤ k → k < hi → W'.heap[k]? = W.heap[k]?
theorem KR.trans {lo hi : Nat} {A B C : World} (h : KR lo hi A B) (k : KR lo hi B C) : KR lo hi A C := fun i h1 h2 => (k i h1 h2).trans (h i h1 h2)
theorem KR.refl (lo hi : Nat) (W : World) : KR lo hi W W := fun _ _ _ => rfl
theorem KR.book {lo hi : Nat} {w : World} (hhi : hi ≤ w.heap.size) (W : World) (l : Nat) (o o' : Obj) (hl : w.heap.size ≤ l) (_ : W.heap[l]? = some o) (_ : o.isCells = false) (_ : o.isWalk = false) : KR lo hi W (W.putObj l o') :=
  fun k _ h2 => World.putObj_heap_other (by omega)
theorem Itr.keep {W W' : World} {lo hi B n c : Nat} {A : Option Addr} {l : List Nat} (h : Itr W lo hi B A n c l) (hk : KR lo hi W W') : Itr W' lo hi B A n c l := by
  obtain ⟨h1, h2, h3, h4, h5, h6, h7, h8⟩ := h
  refine ⟨(World.cell?_of_block (hk B h5 h6)).trans h1, ⟨h2.1, h2.2.1, h2.2.2.1, ?_⟩, h3, h4, h5, h6, h7, h8⟩
  by_cases h0 : n = 0
  · exact .inl h0
  · rcases h2.2.2.2 with h | ⟨b, off, e, hlt, hc⟩
    · exact absurd h h0
    · obtain ⟨k1, k2⟩ := h7 b off e
      have hc' : ∀ i, i < n → W'.cell? ⟨b, off + i, none⟩ = some (.int .u8 (nth l i)) := fun i hi => (World.cell?_of_block (a := ⟨b, off + i, none⟩) (hk b k1 k2)).trans (hc i hi)
      exact .inr ⟨b, off, e, World.block_lt_of_cell? _ _ (hc' 0 (by omega)), hc'⟩

/-- a slice from a place on -/
def frm (A : Option Addr) (c p : Nat) : Option Addr := if c = p then A else A.map (·.add p)
theorem sl_from {P : Program} (t : TypeId) (ht : P.underlying t = some (.slice (P.elem t))) (hs : ∀ w, (sizeOf (P.elem t)).run P w = .ok 1 w) (A : Option Addr) (n c p : Nat) (hp : p ≤ n) (w : World) :
    (Instr.slice t (.slice A n c) (some (.int .i64 (p : Int))) none none).run P w = .ok (.slice (frm A c p) (n - p) (c - p)) w := by
  rw [run_slice_l w t A n c ht .i64 (p : Int) (by omega) (by omega), hs]
  simp [Result.andThen, sliced, frm]
theorem sl_at (A : Option Addr) (n c p : Nat) (hp : p ≤ n) (w : World) : (Instr.slice 23 (.slice A n c) (some (.int .i64 (p : Int))) none none).run Try.prog w = .ok (.slice (frm A c p) (n - p) (c - p)) w :=
  sl_from 23 (by kernel_rfl) (fun _ => by kernel_rfl) A n c p hp w
theorem BL.from_ {w : World} {A : Option Addr} {n c : Nat} {l : List Nat} (h : BL w A n l) (p : Nat) (hp : p ≤ n) (hc : n ≤ c) : BL w (frm A c p) (n - p) (l.drop p) := by
  by_cases h0 : n - p = 0
  · have : l.drop p = [] := List.drop_of_length_le (by have := h.1; omega)
    rw [this, h0]
    exact BL.none_ w _
  · obtain ⟨b, off, rfl, _⟩ := h.at (show 0 < n by omega)
    have e : frm (some ⟨b, off, none⟩) c p = some ⟨b, off + p, none⟩ := by
      unfold frm
      rw [if_neg (by omega), Option.map_some, add_plain]
    rw [e]
    exact h.drop p

/-- what a round is handed -/
def encs (x : Nat × Nat) : Array Value := #[.int .i64 (x.1 : Int), .int .u64 (x.2 : Int)]

set_option maxRecDepth 100000 in
set_option maxHeartbeats 2000000 in
theorem iter_in (n : Nat) (hn : 1 ≤ n) (l lo hi B N c : Nat) (A : Option Addr) (bs : List Nat) (J Jx : List (Nat × Nat) → World → Prop)
    (hY : ∀ pre x W, J pre W → pre.length < (rws bs 0).length → YieldAt Fence.wide (n - 1) Try.prog l (encs x) W fun e W' =>
      (e = .returned (.bool true) ∧ J (pre ++ [x]) W' ∧ KR lo hi W W') ∨ (e = .returned (.bool false) ∧ Jx (pre ++ [x]) W'))
    (W : World) (hI : Itr W lo hi B A N c bs) (h0 : J [] W) :
    CallsIn Fence.wide n Try.prog 29 #[.func (.yield l) #[] #[], .pointer (some ⟨B, 0, none⟩)] W fun e W' => (∃ v, e = .returned v) ∧
      ((∃ ys, ys = rws bs 0 ∧ J ys W') ∨ (∃ pre, pre <+: rws bs 0 ∧ Jx pre W')) := by
  have hbs := Lib.hid hI.2.1.lt
  have hlen := Lib.hid hI.2.1.1
  have hN9 := hI.2.1.2.1
  have hNc := hI.2.2.1
  have hc9 := hI.2.2.2.1
  replace hI := Lib.hid hI
  refine callsIn_of_wp Try.func29 rfl trivial ?_ rfl
  simp only [Try.ntmps29, List.size_toArray, List.length_cons, List.length_nil, Nat.reduceAdd, Nat.reduceSub, Array.replicate_succ, Array.replicate_zero, List.push_toArray, List.append_toArray, List.nil_append, List.cons_append]
  gi_wp2
  gi_loopw [3] (fun t wr => ∃ (pre : List (Nat × Nat)) (p : Nat), p ≤ N ∧ t = .int .i64 p ∧ rws bs 0 = pre ++ rws bs p ∧ J pre wr ∧ Itr wr lo hi B A N c bs) (fun t _ => N - (intOf t).toNat)
  case atStart => exact ⟨[], 0, Nat.zero_le _, rfl, rfl, h0, hI.out⟩
  case round =>
    obtain ⟨pre, p, hp, rfl, hpre, hJ, hIt⟩ := hrel
    have hcell := hIt.1
    have hsub := Lib.hid (BL.from_ hIt.2.1 p hp hNc)
    have hsl := sl_at A N c p hp
    replace hpre := Lib.hid hpre
    replace hIt := Lib.hid hIt
    have htu := Lib.hid (fun w h => tuv_any (frm A c p) (N - p) (c - p) (bs.drop p) w h)
    by_cases he : tke (bs.drop p) = 0
    · have hnx := rws_next hbs.out he
      have hst := rws_step hbs.out (show p ≤ bs.length by have := hlen.out; omega) he
      have hk := (tk_yes hsub.out.lt he).2.1
      rw [he] at htu
      generalize tkv (bs.drop p) = v at *
      generalize tkn (bs.drop p) = k at *
      rw [hlen.out] at hst
      obtain ⟨fn, tmps, assign, body, hy, hR⟩ := hY pre (p, v) wr hJ (by rw [hpre.out, hnx]; simp)
      dsimp only [encs] at hy
      have hnx' := Lib.hid hnx
      clear hnx he hJ
      gi_wp2
      refine ⟨trivial, ?_⟩
      refine (callsIn_wide.2 (htu.out _ hsub.out)).mono ?_
      rintro e w' ⟨rfl, rfl⟩
      gi_wp2
      refine hR.mono ?_
      rintro e W3 (⟨rfl, hJ3, hk3⟩ | ⟨rfl, hJx3⟩)
      · have hI3 := Lib.hid (Itr.keep hIt.out hk3)
        gi_wp2
        go_roundw
        case rel => exact ⟨pre ++ [(p, v)], p + k, hst, by go_num, by rw [hpre.out, hnx'.out, List.append_assoc]; rfl, hJ3, hI3.out⟩
        case measure => simp [intOf]; omega
      · gi_wp2
        refine bodyPost_ret (results_none rfl _ _ _) rfl ?_
        exact ⟨⟨_, rfl⟩, .inr ⟨pre ++ [(p, v)], ⟨rws bs (p + k), by rw [hpre.out, hnx'.out, List.append_assoc]; rfl⟩, hJx3⟩⟩
    · have hend := Lib.hid (rws_end he)
      have hne : ((tke (bs.drop p) : Int) != 0) = true := by rw [bne_iff_ne]; omega
      clear hY
      gi_wp2
      refine ⟨trivial, ?_⟩
      refine (callsIn_wide.2 (htu.out _ hsub.out)).mono ?_
      rintro e w' ⟨rfl, rfl⟩
      gi_wp2
      all_goals
        refine ⟨fun _ h => (by cases h), ?_⟩
        gi_wp2
        refine bodyPost_ret (results_none rfl _ _ _) rfl ?_
        exact ⟨⟨_, rfl⟩, .inl ⟨_, rfl, by rw [hpre.out, hend.out, List.append_nil]; exact hJ⟩⟩

/-- The contract in the form that the law on ranges over functions wants. -/
theorem iter_stops (n : Nat) (hn : 1 ≤ n) (lo hi B N c : Nat) (A : Option Addr) (bs : List Nat) (w : World) (hhi : hi ≤ w.heap.size) (hI : Itr w lo hi B A N c bs) :
    SeqStopsK Fence.wide n Try.prog 29 #[.pointer (some ⟨B, 0, none⟩)] encs (KR lo hi) (fun ys => ys = rws bs 0) (fun pre => pre <+: rws bs 0) (rws bs 0).length w :=
  fun l J Jx W hW _ _ hY h0 => iter_in n hn l lo hi B N c A bs J Jx hY W (Itr.keep hI (fun k _ h => hW.block k (by omega))) h0
end Go.Proofs.Ytihojeffdepddaa.numH
