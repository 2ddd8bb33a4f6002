/- What Scan answers: a function that goes through the frames. -/
import Derived.RangeFuncNested
import Derived.RangeFuncBound
import Derived.RangeFuncCalls
import Derived.RangeFuncLeaves
import Derived.Shelf.Abstract
import Derived.Shelf.RegionOpen
import Derived.OwnWalkIn
import Derived.TacticsInMore
import Derived.LoopNIn
import Derived.LoopIn
import Derived.Test.YtgjgjnahdkoofaaFraE
import Derived.Test.YtgjgjnahdkoofaaRngR
namespace Go.Proofs.Ytgjgjnahdkoofaa.frP
open Go.ChangeShapes Go.WideShapes Go.ChangeAt Go.RowKit Go.Shelf
open numM numN rowA byt numA numB numC numD fraM fraB fraC fraD fraE rngR
attribute [local go_sem] Oper.semAt_some

set_option maxRecDepth 100000 in
theorem clone_any (a : Option Addr) (n cap : Nat) (l : List Nat) (w : World) (hb : BL w a n l) (hnone : a = none → n = 0) (hn : n ≤ 150000000000000) :
    Calls Try.prog 12 #[.slice a n cap] w (Makes w l) := by
  obtain ⟨i0, hi, hz0, hz1, hz2⟩ := info_parts bytes8
  rcases a with _ | x
  · obtain rfl : n = 0 := hnone rfl
    have hl : l = [] := List.eq_nil_of_length_eq_zero hb.1
    subst hl
    have hq := fun w : World => Lib.run_eql_slice_nil (P := Try.prog) w 23 5 none 0 cap 0 0 Try.underlying23
    clear hb hnone hi
    go_enter Try.func12, Try.ntmps12
    go_wp2
    go_ret
    exact Makes.of rfl (Own.nil_ w _) (Below.refl _ _)
  · have hm := Own.made w w.heap.size (Nat.le_refl _) [] (by simp) (by simp) #[] rfl
    have hm' := Lib.hid hm
    have hb1 := Lib.hid (hb.below ((Below.refl w.heap.size w).alloc (Nat.le_refl _) (.cells #[] 5)))
    have hlen := Lib.hid hb.1
    have hq := fun w : World => Lib.run_eql_slice_nil (P := Try.prog) w 23 5 (some x) n cap 0 0 Try.underlying23
    clear hb hnone hm
    go_enter Try.func12, Try.ntmps12
    go_wp2_with (at_builtin; (refine wpList_app rfl _ _ 23 rfl w.heap.size i0 Try.underlying23 hi hz0 hz1 hz2 _ 0 [] rfl hm'.out (some x) n cap l rfl hb1.out ?c1 ?c2 ?_))
    case c1 => omega
    case c2 => simp
    intro v' w2 hown2 hgrow
    replace hown2 := Lib.hid hown2
    have hBn := Lib.hid (hm'.out.grown ((Below.refl w.heap.size w).alloc (Nat.le_refl _) _) hgrow (by simp))
    clear hgrow
    go_wp2
    go_ret
    exact Makes.of hlen.out hown2.out hBn.out

/-- The function that goes through the bytes l: where it has them. -/
def Itr (w : World) (lo hi B : Nat) (A : Option Addr) (n c : Nat) (l : List Nat) : Prop :=
  w.cell? ⟨B, 0, none⟩ = some (.slice A n c) ∧ BL w A n l ∧ n ≤ c ∧ c ≤ 9223372036854775807 ∧ lo ≤ B ∧ B < hi ∧ (∀ b off, A = some ⟨b, off, none⟩ → lo ≤ b ∧ b < hi) ∧ (A = none → c = 0)
def Goes (w : World) (l : List Nat) (e : Ending) (w' : World) : Prop :=
  ∃ B A c, e = .returned (.func (.func 13) #[] #[.pointer (some ⟨B, 0, none⟩)]) ∧ Itr w' w.heap.size w'.heap.size B A l.length c l ∧ Below w.heap.size w w'

set_option maxRecDepth 100000 in
theorem scan_any (a : Option Addr) (n cap : Nat) (l : List Nat) (w : World) (hb : BL w a n l) (hnone : a = none → n = 0) (hcap : n ≤ cap) (hn : n ≤ 150000000000000) :
    Calls Try.prog 6 #[.slice a n cap] w (Goes w l) := by
  have hb1 := Lib.hid (hb.below ((Below.refl w.heap.size w).alloc (Nat.le_refl _) (.cells #[.slice a n cap] 23)))
  have hlen := Lib.hid hb.1
  have h1 := Lib.hid hnone
  have h2 := Lib.hid hcap
  have h3 := Lib.hid hn
  clear hb hnone hcap hn
  go_enter Try.func6, Try.ntmps6
  go_wp2_with (fail)
  refine (clone_any _ _ _ l _ hb1.out h1.out h3.out).mono ?_
  rintro e w1 ⟨A, c, rfl, ho, hB⟩
  have hc : w1.cell? ⟨w.heap.size, 0, none⟩ = some (.slice a n cap) := by
    rw [hB.cell (p := ⟨w.heap.size, 0, none⟩) (by simp)]
    exact cell_of_row _ _ 0 #[.slice a n cap] 23 (0, 0) (heap_alloc_new w _)
  have hf : w1.frozen? ⟨w.heap.size, 0, none⟩ = false := by
    rw [hB.frozen (p := ⟨w.heap.size, 0, none⟩) (by simp)]
    simp
  have hB0 : Below w.heap.size w w1 := ((Below.refl w.heap.size w).alloc (Nat.le_refl _) _).trans (hB.mono (by simp))
  have hsz : w.heap.size < w1.heap.size := by have := hB.size; simp at this; omega
  obtain ⟨_, _, e0, x1, x2, x3, x4, hbl⟩ := ho.form
  cases e0
  have hlo := ho.2.2.2.lt
  have hfin := Lib.hid (show Goes w l (.returned (.func (.func 13) #[] #[.pointer (some ⟨w.heap.size, 0, none⟩)])) (w1.setCell ⟨w.heap.size, 0, none⟩ (.slice A l.length c)) from by
    refine ⟨w.heap.size, A, c, rfl, ⟨World.cell?_setCell_same' _ _ _ (by rw [hc]; rfl), ?_, x1, x2, Nat.le_refl _, by simp; exact hsz, ?_, x3⟩, hB0.setCell (p := ⟨w.heap.size, 0, none⟩) (Nat.le_refl _) _⟩
    · refine ⟨hbl.1, hbl.2.1, hbl.2.2.1, hbl.2.2.2.imp id ?_⟩
      rintro ⟨b, off, rfl, hlt, hcell⟩
      have hb0 := (hlo b rfl).1
      simp at hb0
      refine ⟨b, off, rfl, by simp; exact hlt, fun i hi => ?_⟩
      rw [World.cell?_setCell_other _ _ _ _ (by intro e; injection e with e1; omega)]
      exact hcell i hi
    · intro b off e
      subst e
      have hb0 := hlo b rfl
      simp at hb0 ⊢
      omega)
  clear hB ho hlo hbl x1 x2 x3 x4 hB0
  go_wp2
  go_ret
  exact hfin.out
/-- the blocks from lo on, below hi, lie as they lay -/
def KR (lo hi : Nat) (W W' : World) : Prop := ∀ k, lo ≤ k → k < hi → W'.heap[k]? = W.heap[k]?
theorem KR.trans {lo hi : Nat} {A B C : World} (h : KR lo hi A B) (k : KR lo hi B C) : KR lo hi A C := fun i h1 h2 => (k i h1 h2).trans (h i h1 h2)
theorem KR.refl (lo hi : Nat) (W : World) : KR lo hi W W := fun _ _ _ => rfl
theorem KR.book {lo hi : Nat} {w : World} (hhi : hi ≤ w.heap.size) (W : World) (l : Nat) (o o' : Obj) (hl : w.heap.size ≤ l) (_ : W.heap[l]? = some o) (_ : o.isCells = false) (_ : o.isWalk = false) : KR lo hi W (W.putObj l o') :=
  fun k _ h2 => World.putObj_heap_other (by omega)
theorem Itr.keep {W W' : World} {lo hi B n c : Nat} {A : Option Addr} {l : List Nat} (h : Itr W lo hi B A n c l) (hk : KR lo hi W W') : Itr W' lo hi B A n c l := by
  obtain ⟨h1, h2, h3, h4, h5, h6, h7, h8⟩ := h
  refine ⟨(World.cell?_of_block (hk B h5 h6)).trans h1, ⟨h2.1, h2.2.1, h2.2.2.1, ?_⟩, h3, h4, h5, h6, h7, h8⟩
  by_cases h0 : n = 0
  · exact .inl h0
  · rcases h2.2.2.2 with h | ⟨b, off, e, hlt, hc⟩
    · exact absurd h h0
    · obtain ⟨k1, k2⟩ := h7 b off e
      have hc' : ∀ i, i < n → W'.cell? ⟨b, off + i, none⟩ = some (.int .u8 (nth l i)) := fun i hi => (World.cell?_of_block (a := ⟨b, off + i, none⟩) (hk b k1 k2)).trans (hc i hi)
      exact .inr ⟨b, off, e, World.block_lt_of_cell? _ _ (hc' 0 (by omega)), hc'⟩

/-- a slice from a place on -/
def frm (A : Option Addr) (c p : Nat) : Option Addr := if c = p then A else A.map (·.add p)
theorem sl_from {P : Program} (t : TypeId) (ht : P.underlying t = some (.slice (P.elem t))) (hs : ∀ w, (sizeOf (P.elem t)).run P w = .ok 1 w) (A : Option Addr) (n c p : Nat) (hp : p ≤ n) (w : World) :
    (Instr.slice t (.slice A n c) (some (.int .i64 (p : Int))) none none).run P w = .ok (.slice (frm A c p) (n - p) (c - p)) w := by
  rw [run_slice_l w t A n c ht .i64 (p : Int) (by omega) (by omega), hs]
  simp [Result.andThen, sliced, frm]
theorem sl_at (A : Option Addr) (n c p : Nat) (hp : p ≤ n) (w : World) : (Instr.slice 23 (.slice A n c) (some (.int .i64 (p : Int))) none none).run Try.prog w = .ok (.slice (frm A c p) (n - p) (c - p)) w :=
  sl_from 23 (by kernel_rfl) (fun _ => by kernel_rfl) A n c p hp w
theorem BL.from_ {w : World} {A : Option Addr} {n c : Nat} {l : List Nat} (h : BL w A n l) (p : Nat) (hp : p ≤ n) (hc : n ≤ c) : BL w (frm A c p) (n - p) (l.drop p) := by
  by_cases h0 : n - p = 0
  · have : l.drop p = [] := List.drop_of_length_le (by have := h.1; omega)
    rw [this, h0]
    exact BL.none_ w _
  · obtain ⟨b, off, rfl, _⟩ := h.at (show 0 < n by omega)
    have e : frm (some ⟨b, off, none⟩) c p = some ⟨b, off + p, none⟩ := by
      unfold frm
      rw [if_neg (by omega), Option.map_some, add_plain]
    rw [e]
    exact h.drop p


theorem al0 (w : World) (o : Obj) : Below w.heap.size w (w.alloc o) := (Below.refl _ w).alloc (Nat.le_refl _) o
/-! ### What is handed out -/
structure FY where
  p : Nat
  n : Nat
  f : Fm
  A : Option Addr
  c : Nat
def encs (x : FY) : Array Value := #[.int .i64 (x.p : Int), .agg #[.int .i64 x.f.v, .int .i64 x.f.e, .int .i64 x.f.s, .int .i64 x.f.a, .slice x.A x.f.body.length x.c]]
def endp (pre : List FY) : Nat := match pre.getLast? with
  | none => 0
  | some y => y.p + y.n
theorem endp_snoc (pre : List FY) (x : FY) : endp (pre ++ [x]) = x.p + x.n := by unfold endp; rw [List.getLast?_concat]
/-- a frame that stands where the last one ended, its body in the yield's world -/
def RF (bs : List Nat) (pre : List FY) (x : FY) (V : World) : Prop := (x.p = endp pre ∧ x.p ≤ bs.length ∧ fsE (bs.drop x.p) = 0 ∧ x.f = fsF (bs.drop x.p) ∧ x.n = fsN (bs.drop x.p)) ∧ BL V x.A x.f.body.length x.f.body
theorem bl_kept {W W' : World} {row : Option Nat} {A : Option Addr} {n : Nat} {l : List Nat} (h : BL W A n l) (hg : W.grownBy W' row) (hr : ∀ r, row = some r → ∃ o : Obj, W.heap[r]? = some o ∧ o.isCells = false) : BL W' A n l := by
  refine ⟨h.1, h.2.1, h.2.2.1, ?_⟩
  by_cases h0 : n = 0
  · exact .inl h0
  · rcases h.2.2.2 with h | ⟨b, off, e, hlt, hc⟩
    · exact absurd h h0
    · exact .inr ⟨b, off, e, by have := hg.size; omega, fun i hi => cell_kept (hc i hi) hg hr⟩
theorem RF.from_ (bs : List Nat) (pre : List FY) (C : Nat) : OwnFrom C (RF bs pre) := fun _ _ _ _ hs hg hr => ⟨hs.1, bl_kept hs.2 hg fun r e => (hr r e).2⟩
/-- what the body keeps for the iterator -/
def KS (lo hi : Nat) (V V' : World) : Prop := V.heap.size ≤ V'.heap.size ∧ (hi ≤ V.heap.size → KR lo hi V V')
theorem KS.trans {lo hi : Nat} {A B C : World} (h : KS lo hi A B) (k : KS lo hi B C) : KS lo hi A C := ⟨Nat.le_trans h.1 k.1, fun e => (h.2 e).trans (k.2 (Nat.le_trans e h.1))⟩
theorem KS.book {lo hi : Nat} {w : World} (hhi : hi ≤ w.heap.size) (W : World) (l : Nat) (o o' : Obj) (hl : w.heap.size ≤ l) (h1 : W.heap[l]? = some o) (h2 : o.isCells = false) (h3 : o.isWalk = false) : KS lo hi W (W.putObj l o') :=
  ⟨by simp, fun _ => KR.book hhi W l o o' hl h1 h2 h3⟩
theorem KS.alloc (lo hi : Nat) (W : World) (o : Obj) : KS lo hi W (W.alloc o) := ⟨by simp, fun e k _ h => Below.heap_alloc W o k (by omega)⟩
theorem fs_fit {l : List Nat} (h : fsE l = 0) : 21 ≤ fsN l ∧ fsN l ≤ l.length := by
  have hs : szE l = 0 := by
    unfold fsE at h
    split at h
    · assumption
    · omega
  have h2 := (sz_fit hs).2
  have h3 := (fs_yes h).2
  omega
theorem row5 (w : World) (v0 v1 v2 v3 v4 : Value) (t : TypeId) : (w.alloc (.cells #[v0, v1, v2, v3, v4] t)).cell? ⟨w.heap.size, 0, none⟩ = some v0 ∧ (w.alloc (.cells #[v0, v1, v2, v3, v4] t)).cell? ⟨w.heap.size, 1, none⟩ = some v1 ∧ (w.alloc (.cells #[v0, v1, v2, v3, v4] t)).cell? ⟨w.heap.size, 2, none⟩ = some v2 ∧
    (w.alloc (.cells #[v0, v1, v2, v3, v4] t)).cell? ⟨w.heap.size, 3, none⟩ = some v3 ∧ (w.alloc (.cells #[v0, v1, v2, v3, v4] t)).cell? ⟨w.heap.size, 4, none⟩ = some v4 := by
  have h := fun (j : Nat) (v : Value) (hv : (#[v0, v1, v2, v3, v4] : Array Value)[j]? = some v) => (cell_of_row _ _ j _ t (0, 0) (heap_alloc_new w (.cells #[v0, v1, v2, v3, v4] t))).trans hv
  exact ⟨h 0 _ rfl, h 1 _ rfl, h 2 _ rfl, h 3 _ rfl, h 4 _ rfl⟩
theorem abide {w00 : Nat} {J : List FY → World → Prop} (hJ : AbidesFrom w00 J) {pre : List FY} {W W' : World} (h : J pre W) (hB : Below W.heap.size W W') : J pre W' :=
  hJ pre W W' none h ⟨hB.os, hB.tape, hB.output, hB.size, fun k hk _ => hB.block k hk⟩ (fun r e => by cases e)
set_option maxRecDepth 100000 in
set_option maxHeartbeats 2000000 in
theorem scan_in (n : Nat) (hn : 1 ≤ n) (l lo hi B N c w00 : Nat) (A : Option Addr) (bs : List Nat) (J Jx : List FY → World → Prop) (hJa : AbidesFrom w00 J)
    (hY : ∀ pre x V, J pre V → RF bs pre x V → YieldAt Fence.wide (n - 1) Try.prog l (encs x) V fun e V' =>
      (e = .returned (.bool true) ∧ J (pre ++ [x]) V' ∧ KS lo hi V V') ∨ (e = .returned (.bool false) ∧ Jx (pre ++ [x]) V'))
    (W : World) (hI : Itr W lo hi B A N c bs) (hhi : hi ≤ W.heap.size) (h0 : J [] W) :
    CallsIn Fence.wide n Try.prog 13 #[.func (.yield l) #[] #[], .pointer (some ⟨B, 0, none⟩)] W fun e W' => (∃ v, e = .returned v) ∧
      ((∃ ys, (fsE (bs.drop (endp ys)) ≠ 0 ∧ endp ys ≤ bs.length) ∧ J ys W') ∨ (∃ pre, True ∧ Jx pre W')) := by
  have hlen := Lib.hid hI.2.1.1
  have hN9 := hI.2.1.2.1
  have hNc := hI.2.2.1
  have hc9 := hI.2.2.2.1
  replace hI := Lib.hid hI
  replace hJa := Lib.hid hJa
  refine callsIn_of_wp Try.func13 rfl trivial ?_ rfl
  simp only [Try.ntmps13, List.size_toArray, List.length_cons, List.length_nil, Nat.reduceAdd, Nat.reduceSub, Array.replicate_succ, Array.replicate_zero, List.push_toArray, List.append_toArray, List.nil_append, List.cons_append]
  gi_wp2
  gi_loopw [3] (fun t wr => ∃ (pre : List FY) (p : Nat), p ≤ N ∧ t = .int .i64 p ∧ p = endp pre ∧ J pre wr ∧ Itr wr lo hi B A N c bs ∧ hi ≤ wr.heap.size) (fun t _ => N - (intOf t).toNat)
  case atStart => exact ⟨[], 0, Nat.zero_le _, rfl, rfl, h0, hI.out, hhi⟩
  case round =>
    obtain ⟨pre, p, hp, rfl, hpe, hJ, hIt, hhr⟩ := hrel
    replace hpe := Lib.hid hpe
    have hcell := hIt.1
    have hsub := Lib.hid (BL.from_ hIt.2.1 p hp hNc)
    have hsl := sl_at A N c p hp
    replace hIt := Lib.hid hIt
    have htu := Lib.hid (first_any (frm A c p) (N - p) (c - p) (bs.drop p) wr hsub.out (by omega) (by omega))
    by_cases he : fsE (bs.drop p) = 0
    · obtain ⟨hf1, hf2⟩ := fs_fit he
      have hdl : (bs.drop p).length = N - p := hsub.out.1
      have hfit : p + fsN (bs.drop p) ≤ N := by omega
      rw [he] at htu
      obtain ⟨f, hf⟩ : ∃ f, fsF (bs.drop p) = f := ⟨_, rfl⟩
      obtain ⟨k, hk⟩ : ∃ k, fsN (bs.drop p) = k := ⟨_, rfl⟩
      rw [hf, hk] at htu
      rw [hk] at hfit hf1
      replace hf := Lib.hid hf
      replace hk := Lib.hid hk
      replace he := Lib.hid he
      clear hf2 hdl
      gi_wp2
      refine ⟨trivial, ?_⟩
      refine (callsIn_wide.2 htu.out).mono ?_
      rintro e w' ⟨A2, c2, rfl, hO, hBw⟩
      have hal := al0 w' (.cells #[.int .i64 f.v, .int .i64 f.e, .int .i64 f.s, .int .i64 f.a, .slice A2 f.body.length c2] 26)
      obtain ⟨o0, o1, o2, o3, o4⟩ := row5 w' (.int .i64 f.v) (.int .i64 f.e) (.int .i64 f.s) (.int .i64 f.a) (.slice A2 f.body.length c2) 26
      have hBV := trans0 hBw hal
      have hbl := (own_bl hO).below hal
      generalize hV : w'.alloc (.cells #[.int .i64 f.v, .int .i64 f.e, .int .i64 f.s, .int .i64 f.a, .slice A2 f.body.length c2] 26) = V at *
      have hJV := abide hJa.out hJ hBV
      obtain ⟨fn, tmps, assign, body, hy, hR⟩ := hY pre ⟨p, k, f, A2, c2⟩ V hJV ⟨⟨hpe.out, by show p ≤ bs.length; have := hlen.out; omega, he.out, hf.out.symm, hk.out.symm⟩, hbl⟩
      dsimp only [encs] at hy
      have hIV := Lib.hid (Itr.keep hIt.out (fun b _ h => hBV.block b (by omega)) : Itr V lo hi B A N c bs)
      have hhV : hi ≤ V.heap.size := Nat.le_trans hhr hBV.size
      clear hO hBw hal hBV hbl hJV hJ hIt htu hsub hcell
      gi_wp2
      refine hR.mono ?_
      rintro e W3 (⟨rfl, hJ3, hk3⟩ | ⟨rfl, hJx3⟩)
      · have hI3 := Lib.hid (Itr.keep hIV.out (hk3.2 hhV))
        have hh3 : hi ≤ W3.heap.size := Nat.le_trans hhV hk3.1
        clear hV o0 o1 o2 o3 o4 hk3 hR hy
        gi_wp2
        go_roundw
        case rel => exact ⟨pre ++ [⟨p, k, f, A2, c2⟩], p + k, by omega, by go_num, (endp_snoc pre ⟨p, k, f, A2, c2⟩).symm, hJ3, hI3.out, hh3⟩
        case measure => simp [intOf]; omega
      · clear hV o0 o1 o2 o3 o4 hR hy
        gi_wp2
        refine bodyPost_ret (results_none rfl _ _ _) rfl ?_
        exact ⟨⟨_, rfl⟩, .inr ⟨pre ++ [⟨p, k, f, A2, c2⟩], trivial, hJx3⟩⟩
    · have hend := Lib.hid (show fsE (bs.drop (endp pre)) ≠ 0 ∧ endp pre ≤ bs.length from ⟨by rw [← hpe.out]; exact he, by rw [← hpe.out, hlen.out]; exact hp⟩)
      obtain ⟨E, hE⟩ : ∃ E, fsE (bs.drop p) = E := ⟨_, rfl⟩
      obtain ⟨f, hf⟩ : ∃ f, fsF (bs.drop p) = f := ⟨_, rfl⟩
      obtain ⟨k, hk⟩ : ∃ k, fsN (bs.drop p) = k := ⟨_, rfl⟩
      rw [hE, hf, hk] at htu
      rw [hE] at he
      replace hf := Lib.hid hf
      replace hk := Lib.hid hk
      have hne : ((E : Int) != 0) = true := by rw [bne_iff_ne]; omega
      have hJk := Lib.hid (fun W' (hB : Below wr.heap.size wr W') => abide hJa.out hJ hB)
      replace hE := Lib.hid hE
      clear hY hJ
      gi_wp2
      refine ⟨trivial, ?_⟩
      refine (callsIn_wide.2 htu.out).mono ?_
      rintro e w' ⟨A2, c2, rfl, hO, hBw⟩
      have hBk := Lib.hid hBw
      clear hO hBw
      gi_wp2
      all_goals
        refine ⟨fun _ h => (by cases h), ?_⟩
        gi_wp2
        refine bodyPost_ret (results_none rfl _ _ _) rfl ?_
        exact ⟨⟨_, rfl⟩, .inl ⟨pre, hend.out, hJk.out _ (trans0 hBk.out (al0 _ _))⟩⟩
/-- The contract in the form that the law wants. -/
theorem scan_reads (n : Nat) (hn : 1 ≤ n) (lo hi B N c : Nat) (A : Option Addr) (bs : List Nat) (w : World) (hhi : hi ≤ w.heap.size) (hI : Itr w lo hi B A N c bs) :
    Reads Fence.wide n Try.prog 13 #[.pointer (some ⟨B, 0, none⟩)] encs (KS lo hi) (RF bs) (fun ys => fsE (bs.drop (endp ys)) ≠ 0 ∧ endp ys ≤ bs.length) (fun _ => True) w :=
  fun l J Jx W hW hJ _ hY h0 => scan_in n hn l lo hi B N c W.heap.size A bs J Jx hJ hY W (Itr.keep hI (fun k _ h => hW.block k (by omega))) (Nat.le_trans hhi hW.size) h0
end Go.Proofs.Ytgjgjnahdkoofaa.frP
