/- What From answers: a function that goes through the stable commits. -/
import Derived.RangeFuncNested
import Derived.RangeFuncBound
import Derived.RangeFuncCalls
import Derived.RangeFuncLeaves
import Derived.Shelf.Abstract
import Derived.Shelf.RegionOpen
import Derived.OwnWalkIn
import Derived.TacticsInMore
import Derived.LoopNIn
import Derived.LoopIn
import Derived.WalkMore
import Derived.Test.YtipnmgihbpbonaaOrdW
import Derived.Test.YtipnmgihbpbonaaRngR
set_option linter.unusedVariables false
set_option linter.unusedSimpArgs false
set_option maxRecDepth 100000
namespace Go.Proofs.Ytipnmgihbpbonaa.ordF
open Go.ChangeShapes Go.WideShapes Go.ChangeAt Go.RowKit Go.Shelf
open opV chnM gen chnA chnR chnE ordA ordB ordC ordM ordL ordD ordH ordK ordW rngR
attribute [local go_sem] Oper.semAt_some

/-- the blocks below hi, but those of K, lie as they lay -/
def KR (K : Nat → Prop) (hi : Nat) (W W' : World) : Prop := ∀ k, k < hi → ¬ K k → W'.heap[k]? = W.heap[k]?
def KS (K : Nat → Prop) (hi : Nat) (V V' : World) : Prop := V.heap.size ≤ V'.heap.size ∧ (hi ≤ V.heap.size → KR K hi V V')
theorem KS.trans {K : Nat → Prop} {hi : Nat} {A B C : World} (h : KS K hi A B) (k : KS K hi B C) : KS K hi A C := ⟨Nat.le_trans h.1 k.1, fun e i h1 h2 => (k.2 (Nat.le_trans e h.1) i h1 h2).trans (h.2 e i h1 h2)⟩
theorem KS.book {K : Nat → Prop} {hi : Nat} {w : World} (hhi : hi ≤ w.heap.size) (W : World) (l : Nat) (o o' : Obj) (hl : w.heap.size ≤ l) (h1 : W.heap[l]? = some o) (h2 : o.isCells = false) (h3 : o.isWalk = false) : KS K hi W (W.putObj l o') :=
  ⟨by simp, fun _ k hk _ => World.putObj_heap_other (by omega)⟩
theorem KS.alloc (K : Nat → Prop) (hi : Nat) (W : World) (o : Obj) : KS K hi W (W.alloc o) := ⟨by simp, fun e k h _ => Below.heap_alloc W o k (by omega)⟩
theorem KS.of_below {K : Nat → Prop} {hi : Nat} {W W' : World} (h : Below W.heap.size W W') : KS K hi W W' := ⟨h.size, fun e k hk _ => h.block k (by omega)⟩
/-! ### What is handed out -/
structure YR where
  i : Nat
  m : MR
def encs (x : YR) : Array Value := #[.int .i64 (x.i : Int), rv x.m]
/-- a commit that stands behind those that were handed out, in memory of its own in the yield's world -/
def RF (st : List Rc) (s hi : Nat) (pre : List YR) (x : YR) (V : World) : Prop := (x.i = s + pre.length ∧ x.i < st.length ∧ x.m.r = nt st x.i ∧ x.m.vs.length * 64 ≤ 140737488355328 ∧ Sm x.m.vs) ∧ GV V hi x.m.A x.m.c x.m.vs
theorem gv_kept {W W' : World} {row : Option Nat} {base : Nat} {A : Option Addr} {c : Nat} {l : List Ver} (h : GV W base A c l) (hg : W.grownBy W' row) (hr : ∀ r, row = some r → ∃ o : Obj, W.heap[r]? = some o ∧ o.isCells = false) : GV W' base A c l := by
  refine h.block fun k e => ?_
  rcases h.2 with ⟨e1, _⟩ | ⟨g, cap, cur, e1, _, h3, _⟩
  · rw [e1] at e; cases e
  · rw [e1] at e; cases e
    exact grownBy_keeps_cells hg hr h3 rfl
theorem RF.from_ (st : List Rc) (s hi : Nat) (pre : List YR) (C : Nat) : OwnFrom C (RF st s hi pre) := fun _ _ _ _ hs hg hr => ⟨hs.1, gv_kept hs.2 hg fun r e => (hr r e).2⟩
/-! ### What the iterator finds -/
structure IF (K : Nat → Prop) (hi : Nat) (W : World) (b1 b2 : Nat) (at0 : Int) (p : Nat) (A1 : Option Addr) (c1 : Nat) (ms : List MR) (st : List Rc) : Prop where
  k1 : W.cell? ⟨b1, 0, none⟩ = some (.int .i64 at0)
  k2 : W.cell? ⟨b2, 0, none⟩ = some (.pointer (some ⟨p, 0, none⟩))
  k3 : W.cell? ⟨p, 0, none⟩ = some (.slice A1 ms.length c1)
  n1 : ¬ K b1 ∧ b1 < hi
  n2 : ¬ K b2 ∧ b2 < hi
  n3 : ¬ K p ∧ p < hi
  hr : HR W A1 c1 ms
  nr : ms = [] ∨ ∀ y, A1 = some y → ¬ K y.block ∧ y.block < hi
  hd : ∀ m ∈ ms, HV W m.A m.c m.vs ∧ Sm m.vs ∧ (m.vs = [] ∨ ∀ y, m.A = some y → ¬ K y.block ∧ y.block < hi)
  e1 : ms.map MR.r = st
  len : ms.length ≤ 200
  hi_ : hi ≤ W.heap.size
section
variable {K : Nat → Prop} {hi : Nat} {W W' : World} {b1 b2 p : Nat} {at0 : Int} {A1 : Option Addr} {c1 : Nat} {ms : List MR} {st : List Rc}
theorem hr_block {w w1 : World} {A : Option Addr} {c : Nat} {l : List MR} (h : HR w A c l) (hs : w.heap.size ≤ w1.heap.size) (hb : l = [] ∨ ∀ y, A = some y → w1.heap[y.block]? = w.heap[y.block]?) : HR w1 A c l := by
  refine { h with row := ?_ }
  rcases h.row with h0 | ⟨b, off, e, hlt, hc⟩
  · exact .inl h0
  · rcases hb with h0 | hb
    · exact .inl (by rw [h0]; rfl)
    · exact .inr ⟨b, off, e, by omega, fun i hi => (hc i hi).of_block (hb _ e)⟩
theorem IF.keep (h : IF K hi W b1 b2 at0 p A1 c1 ms st) (hs : W.heap.size ≤ W'.heap.size) (hk : KR K hi W W') : IF K hi W' b1 b2 at0 p A1 c1 ms st where
  k1 := (World.cell?_of_block (a := ⟨b1, 0, none⟩) (hk _ h.n1.2 h.n1.1)).trans h.k1
  k2 := (World.cell?_of_block (a := ⟨b2, 0, none⟩) (hk _ h.n2.2 h.n2.1)).trans h.k2
  k3 := (World.cell?_of_block (a := ⟨p, 0, none⟩) (hk _ h.n3.2 h.n3.1)).trans h.k3
  n1 := h.n1
  n2 := h.n2
  n3 := h.n3
  hr := hr_block h.hr hs (h.nr.imp id fun q y e => hk _ (q y e).2 (q y e).1)
  nr := h.nr
  hd := fun m hm => ⟨hv_block (h.hd m hm).1 hs ((h.hd m hm).2.2.imp id fun q y e => hk _ (q y e).2 (q y e).1), (h.hd m hm).2⟩
  e1 := h.e1
  len := h.len
  hi_ := Nat.le_trans h.hi_ hs
theorem IF.below (h : IF K hi W b1 b2 at0 p A1 c1 ms st) (hB : Below W.heap.size W W') : IF K hi W' b1 b2 at0 p A1 c1 ms st := h.keep hB.size fun k hk _ => hB.block k (by have := h.hi_; omega)
end
theorem len_c (p : Nat) (A : Option Addr) (n c : Nat) (w : World) (h : w.cell? ⟨p, 0, none⟩ = some (.slice A n c)) : Calls Try.prog 14 #[.pointer (some ⟨p, 0, none⟩)] w fun e w' => e = .returned (.int .i64 n) ∧ w = w' := by
  go_enter Try.func14, Try.ntmps14
  go_wp2
  go_ret
  exact ⟨rfl, rfl⟩
theorem abide {w00 : Nat} {J : List YR → World → Prop} (hJ : AbidesFrom w00 J) {pre : List YR} {W W' : World} (h : J pre W) (hB : Below W.heap.size W W') : J pre W' :=
  hJ pre W W' none h ⟨hB.os, hB.tape, hB.output, hB.size, fun k hk _ => hB.block k hk⟩ (fun r e => by cases e)
/-- where From begins -/
def sAt (at0 : Int) : Nat := at0.toNat
set_option maxHeartbeats 2000000 in
theorem from_in (n : Nat) (hn : 1 ≤ n) (l b1 b2 hi p c1 w00 : Nat) (at0 : Int) (K : Nat → Prop) (A1 : Option Addr) (ms : List MR) (st : List Rc) (J Jx : List YR → World → Prop) (hJa : AbidesFrom w00 J)
    (hY : ∀ pre x V, J pre V → RF st (sAt at0) hi pre x V → YieldAt Fence.wide (n - 1) Try.prog l (encs x) V fun e V' =>
      (e = .returned (.bool true) ∧ J (pre ++ [x]) V' ∧ KS K hi V V') ∨ (e = .returned (.bool false) ∧ Jx (pre ++ [x]) V'))
    (W : World) (hI : IF K hi W b1 b2 at0 p A1 c1 ms st) (h0 : J [] W) (h9 : at0 ≤ 9223372036854775807) :
    CallsIn Fence.wide n Try.prog 30 #[.func (.yield l) #[] #[], .pointer (some ⟨b1, 0, none⟩), .pointer (some ⟨b2, 0, none⟩)] W fun e W' => (∃ v, e = .returned v) ∧
      ((∃ ys, ys.map (fun y => y.m.r) = st.drop (sAt at0) ∧ J ys W') ∨ (∃ pre, True ∧ Jx pre W')) := by
  obtain ⟨s, hs⟩ : ∃ s, sAt at0 = s := ⟨_, rfl⟩
  have hsI : (if at0 < 0 then 0 else at0) = (s : Int) := by rw [← hs]; unfold sAt; split <;> omega
  have hsM : max at0 0 = (s : Int) := by rw [← hs]; unfold sAt; omega
  have hs9 : s ≤ 9223372036854775807 := by rw [← hs]; unfold sAt; omega
  rw [hs] at hY ⊢
  have q1 := hI.k1
  clear hs
  have hmsl : ms.length = st.length := by rw [← hI.e1, List.length_map]
  replace hI := Lib.hid hI
  replace hJa := Lib.hid hJa
  have hfL : Fence.wide.fn 14 := trivial
  have hfC : Fence.wide.fn 22 := trivial
  refine callsIn_of_wp Try.func30 rfl trivial ?_ rfl
  simp only [Try.ntmps30, List.size_toArray, List.length_cons, List.length_nil, Nat.reduceAdd, Nat.reduceSub, Array.replicate_succ, Array.replicate_zero, List.push_toArray, List.append_toArray, List.nil_append, List.cons_append]
  gi_wp2
  gi_loopw [4] (fun t wr => ∃ (pre : List YR) (i : Nat), Hid (i = s + pre.length) ∧ i ≤ 9223372036854775807 ∧ t = .int .i64 i ∧ Hid (st.drop s = pre.map (fun y => y.m.r) ++ st.drop i) ∧ J pre wr ∧ Hid (IF K hi wr b1 b2 at0 p A1 c1 ms st)) (fun t _ => ms.length - (intOf t).toNat)
  case atStart => exact ⟨[], s, Lib.hid rfl, hs9, rfl, Lib.hid (by simp), h0, hI⟩
  case round =>
    obtain ⟨pre, i, hi', hi9, rfl, hpre, hJw, hIF⟩ := hrel
    have hlen := hIF.out.len
    have k2 := hIF.out.k2
    have k3 := hIF.out.k3
    have hlc := Lib.hid (len_c p A1 ms.length c1 wr k3)
    by_cases hlt : i < ms.length
    · have hltI : (i : Int) < (ms.length : Int) := by omega
      obtain ⟨hm1, hm2, -⟩ := hIF.out.hd _ (nt_mem hlt)
      have hcp := Lib.hid (fun w' (hB : Below wr.heap.size wr w') => copy_any (nt ms i) w' (hm1.below hB) hm2)
      have hel := Lib.hid (show (nt ms i).r = nt st i by rw [← hIF.out.e1, nt_map hlt])
      have hdr := Lib.hid (show st.drop i = nt st i :: st.drop (i + 1) by rw [nt_at (by omega), ← List.drop_eq_getElem_cons])
      have hsz := Lib.hid hm1.sm
      have hsm := Lib.hid hm2
      obtain ⟨pb, po, e9, hpb, hc⟩ := hIF.out.hr.at hlt
      rw [e9] at k3
      obtain ⟨c0', c1', c2', c3'⟩ := hc
      clear hm1 hm2 e9
      generalize nt ms i = x at *
      gi_wp2_with (first
        | (gi_at_call 14; (with_reducible refine (callsIn_wide.2 hlc.out).mono ?_); rintro e w' ⟨rfl, rfl⟩)
        | (gi_at_call 22; (with_reducible refine (callsIn_wide.2 (hcp.out wr (Below.refl _ _))).mono ?_); rintro e V ⟨Ac, cc, rfl, hG, hBV⟩; obtain ⟨fn, tmps, assign, body, hy, hR⟩ := hY pre ⟨i, { x with A := Ac, c := cc }⟩ V (abide hJa.out hJw hBV) ⟨⟨hi'.out, by show i < st.length; omega, hel.out, hsz.out, hsm.out⟩, hG.more hIF.out.hi_⟩; dsimp only [encs] at hy; have hIV := Lib.hid (hIF.out.below hBV)))
      refine hR.mono ?_
      rintro e W3 (⟨rfl, hJ3, hk3⟩ | ⟨rfl, hJx3⟩)
      · have hI3 := Lib.hid (hIV.out.keep hk3.1 (hk3.2 hIV.out.hi_))
        clear hR hy hk3 hIV hG hBV k2 k3 c0' c1' c2' c3'
        gi_wp2
        go_roundw
        case rel => exact ⟨pre ++ [⟨i, { x with A := Ac, c := cc }⟩], i + 1, Lib.hid (by have := hi'.out; simp; omega), by omega, by go_num, Lib.hid (by rw [hpre.out, hdr.out, List.map_append, List.append_assoc, ← hel.out]; rfl), hJ3, hI3⟩
        case measure => simp [intOf]; omega
      · clear hR hy hIV hG hBV k2 k3 c0' c1' c2' c3'
        gi_wp2
        refine bodyPost_ret (results_none rfl _ _ _) rfl ?_
        exact ⟨⟨_, rfl⟩, .inr ⟨pre ++ [⟨i, { x with A := Ac, c := cc }⟩], trivial, hJx3⟩⟩
    · have hltI : ¬ (i : Int) < (ms.length : Int) := by omega
      have hdn : Hid (pre.map (fun y => y.m.r) = st.drop s) := Lib.hid (by rw [hpre.out, List.drop_of_length_le (show st.length ≤ i by omega), List.append_nil])
      gi_wp2_with (gi_at_call 14; (with_reducible refine (callsIn_wide.2 hlc.out).mono ?_); rintro e w' ⟨rfl, rfl⟩)
      go_end0
      exact ⟨⟨_, rfl⟩, .inl ⟨pre, hdn.out, hJw⟩⟩
/-- Of a nil log nothing is told. -/
theorem from_nil (n : Nat) (hn : 1 ≤ n) (l b1 b2 : Nat) (at0 : Int) (J Jx : List YR → World → Prop) (W : World) (q1 : W.cell? ⟨b1, 0, none⟩ = some (.int .i64 at0)) (q2 : W.cell? ⟨b2, 0, none⟩ = some (.pointer none)) (h0 : J [] W) (h9 : at0 ≤ 9223372036854775807) :
    CallsIn Fence.wide n Try.prog 30 #[.func (.yield l) #[] #[], .pointer (some ⟨b1, 0, none⟩), .pointer (some ⟨b2, 0, none⟩)] W fun e W' => (∃ v, e = .returned v) ∧
      ((∃ ys, ys.map (fun y => y.m.r) = ([] : List Rc).drop (sAt at0) ∧ J ys W') ∨ (∃ pre, True ∧ Jx pre W')) := by
  obtain ⟨s, hs⟩ : ∃ s, sAt at0 = s := ⟨_, rfl⟩
  have hsI : (if at0 < 0 then 0 else at0) = (s : Int) := by rw [← hs]; unfold sAt; split <;> omega
  have hsM : max at0 0 = (s : Int) := by rw [← hs]; unfold sAt; omega
  have hs0 : ¬ ((s : Int) < 0) := by omega
  have hln := Lib.hid (len_nil W)
  have hfL : Fence.wide.fn 14 := trivial
  rw [hs]
  clear hs
  refine callsIn_of_wp Try.func30 rfl trivial ?_ rfl
  simp only [Try.ntmps30, List.size_toArray, List.length_cons, List.length_nil, Nat.reduceAdd, Nat.reduceSub, Array.replicate_succ, Array.replicate_zero, List.push_toArray, List.append_toArray, List.nil_append, List.cons_append]
  gi_wp2
  gi_loopw [4] (fun t wr => t = .int .i64 s ∧ wr = W) (fun t _ => 0)
  case atStart => exact ⟨rfl, rfl⟩
  case round =>
    obtain ⟨rfl, rfl⟩ := hrel
    gi_wp2_with (gi_at_call 14; (with_reducible refine (callsIn_wide.2 hln.out).mono ?_); rintro e w' ⟨rfl, rfl⟩)
    go_end0
    exact ⟨⟨_, rfl⟩, .inl ⟨[], by simp, h0⟩⟩
/-! ### From -/
/-- the world behind From -/
def fW (w : World) (a : Option Addr) (at0 : Int) : World := (w.alloc (.cells #[.pointer a] 23)).alloc (.cells #[.int .i64 at0] 3)
def fV (w : World) : Value := .func (.func 30) #[] #[.pointer (some ⟨w.heap.size + 1, 0, none⟩), .pointer (some ⟨w.heap.size, 0, none⟩)]
theorem from_call (a : Option Addr) (at0 : Int) (w : World) : Calls Try.prog 16 #[.pointer a, .int .i64 at0] w fun e w' => e = .returned (fV w) ∧ w' = fW w a at0 := by
  unfold fV fW
  go_enter Try.func16, Try.ntmps16
  go_wp2
  go_ret
  exact ⟨rfl, rfl⟩
theorem fW_cells (w : World) (a : Option Addr) (at0 : Int) : (fW w a at0).cell? ⟨w.heap.size, 0, none⟩ = some (.pointer a) ∧ (fW w a at0).cell? ⟨w.heap.size + 1, 0, none⟩ = some (.int .i64 at0) := by
  unfold fW
  have box := fun (w : World) (v : Value) (t : TypeId) => (cell_of_row (w.alloc (.cells #[v] t)) _ 0 #[v] t (0, 0) (heap_alloc_new w (.cells #[v] t)) : (w.alloc (.cells #[v] t)).cell? ⟨w.heap.size, 0, none⟩ = some v)
  have h1 := box w (.pointer a) 23
  have h2 := box (w.alloc (.cells #[.pointer a] 23)) (.int .i64 at0) 3
  rw [World.size_alloc] at h2
  exact ⟨keep_cell (al0 _ _) h1, h2⟩
theorem fW_below (w : World) (a : Option Addr) (at0 : Int) : Below w.heap.size w (fW w a at0) := trans0 (al0 _ _) (al0 _ _)
theorem fW_size (w : World) (a : Option Addr) (at0 : Int) : (fW w a at0).heap.size = w.heap.size + 2 := by simp [fW]
/-- the world behind From finds what the iterator wants -/
theorem IF.of {T : TypeId} {col : Nat → Nat} {c p : Nat} {L : Lg} {A1 A2 : Option Addr} {c1 c2 : Nat} {ms mw : List MR} {w : World} {K : Nat → Prop} {at0 : Int} (h : LogIs T col c w p L A1 c1 A2 c2 ms mw) (hK : ∀ k, K k → k < w.heap.size → col k ≠ 0 ∧ col k ≠ c) (hc : c ≠ 0) (hK2 : ∀ k, w.heap.size ≤ k → ¬ K k) :
    IF K (w.heap.size + 2) (fW w (some ⟨p, 0, none⟩) at0) (w.heap.size + 1) w.heap.size at0 p A1 c1 ms L.st := by
  have hB := fW_below w (some ⟨p, 0, none⟩) at0
  obtain ⟨q1, q2⟩ := fW_cells w (some ⟨p, 0, none⟩) at0
  have h1 := h.below hB
  refine { k1 := q2, k2 := q1, k3 := h1.cells.1, n1 := ⟨hK2 _ (by omega), by omega⟩, n2 := ⟨hK2 _ (by omega), by omega⟩, n3 := ⟨fun e => (hK p e h.row.lt).2 h.cp, by have := h.row.lt; omega⟩, hr := log_hs h1, nr := ?_, hd := ?_, e1 := h.e1, len := by have := h.len; omega, hi_ := by rw [fW_size]; exact Nat.le_refl _ }
  · by_cases h0 : ms = []
    · exact .inl h0
    · refine .inr fun y e => ?_
      obtain ⟨b, off, e2, hlt, _⟩ := (log_hs h).at (i := 0) (List.length_pos_iff.2 h0)
      have hown : (Value.slice A1 ms.length c1).ownBlock = some y.block := by
        have ho := h.o1
        rcases ho.2 with ⟨e3, _⟩ | ⟨g, cap, cur, e3, _⟩
        · simp only [Value.slice.injEq] at e3; rw [e] at e3; cases e3.1
        · rw [e3]
          simp only [Value.slice.injEq] at e3; rw [e] at e3
          have e4 := e3.1
          cases e4
          rfl
      have hl := GR.lt' h.o1 hown
      exact ⟨fun hk => (hK _ hk hl).2 (h.ca _ hown), by omega⟩
  · intro m hm
    have hd := h1.d1 m hm
    refine ⟨hd.hv, hd.sm, ?_⟩
    by_cases h0 : m.vs = []
    · exact .inl h0
    · refine .inr fun y e => ?_
      have hl := hv_lt (h.d1 m hm).hv h0 e
      exact ⟨fun hk => (hK _ hk hl).1 ((h.d1 m hm).co.resolve_left h0 y e), by omega⟩
theorem from_reads (n : Nat) (hn : 1 ≤ n) {K : Nat → Prop} {hi : Nat} {w : World} {b1 b2 p : Nat} {at0 : Int} {A1 : Option Addr} {c1 : Nat} {ms : List MR} {st : List Rc} (hI : IF K hi w b1 b2 at0 p A1 c1 ms st) (h9 : at0 ≤ 9223372036854775807) :
    Reads Fence.wide n Try.prog 30 #[.pointer (some ⟨b1, 0, none⟩), .pointer (some ⟨b2, 0, none⟩)] encs (KS K hi) (RF st (sAt at0) hi) (fun ys => ys.map (fun y => y.m.r) = st.drop (sAt at0)) (fun _ => True) w :=
  fun l J Jx W hW hJ _ hY h0 => from_in n hn l b1 b2 hi p c1 W.heap.size at0 K A1 ms st J Jx hJ hY W (hI.below hW) h0 h9
theorem nil_reads (n : Nat) (hn : 1 ≤ n) {K : Nat → Prop} {hi : Nat} {w : World} {b1 b2 : Nat} {at0 : Int} (q1 : w.cell? ⟨b1, 0, none⟩ = some (.int .i64 at0)) (q2 : w.cell? ⟨b2, 0, none⟩ = some (.pointer none)) (h9 : at0 ≤ 9223372036854775807) :
    Reads Fence.wide n Try.prog 30 #[.pointer (some ⟨b1, 0, none⟩), .pointer (some ⟨b2, 0, none⟩)] encs (KS K hi) (RF [] (sAt at0) hi) (fun ys => ys.map (fun y => y.m.r) = ([] : List Rc).drop (sAt at0)) (fun _ => True) w :=
  fun l J Jx W hW hJ _ hY h0 => from_nil n hn l b1 b2 at0 J Jx W (keep_cell hW q1) (keep_cell hW q2) h0 h9
end Go.Proofs.Ytipnmgihbpbonaa.ordF
