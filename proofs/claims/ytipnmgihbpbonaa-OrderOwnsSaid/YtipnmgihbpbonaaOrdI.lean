/- slices of rows of commits; the contracts of slices.Grow of nothing and of slices.Concat. -/
import Derived.Test.YtipnmgihbpbonaaOrdCr
import Derived.Lib.AppendZerosOnto
import Derived.Laws.IdiomCopy
import Derived.Laws.NewBlocks
set_option linter.unusedVariables false
set_option linter.unusedSimpArgs false
set_option maxRecDepth 100000
namespace Go.Proofs.Ytipnmgihbpbonaa.ordI
open Go.ChangeShapes Go.WideShapes Go.ChangeAt Go.RowKit Go.Deep
open opV chnM gen chnA chnR chnE ordA ordB ordC ordCr
/-- what a call answers: a row in new memory -/
def RR (l : List MR) (w : World) (e : Ending) (w' : World) : Prop :=
  ∃ A c, e = .returned (.slice A l.length c) ∧ GR w' w.heap.size A c l ∧ Below w.heap.size w w'
theorem slice_to (A : Option Addr) (n c i : Nat) (h : i ≤ c) (w : World) : (Instr.slice 26 (.slice A n c) none (some (.int .i64 (i : Int))) none).run Try.prog w = .ok (.slice A i c) w := by
  have ht : Try.prog.underlying 26 = some (.slice (Try.prog.elem 26)) := by kernel_rfl
  have hs : ∀ w, (sizeOf (Try.prog.elem 26)).run Try.prog w = .ok 4 w := fun _ => by kernel_rfl
  rw [run_slice_h w 26 A n c ht .i64 (i : Int) (by omega) (by omega), hs]
  cases A <;> simp [Result.andThen, sliced, Addr.add_zero']
def fromA (A : Option Addr) (c i : Nat) : Option Addr := if c = i then A else A.map (·.add (i * 4))
theorem slice_from (A : Option Addr) (n c i : Nat) (h : i ≤ n) (w : World) : (Instr.slice 26 (.slice A n c) (some (.int .i64 (i : Int))) none none).run Try.prog w = .ok (.slice (fromA A c i) (n - i) (c - i)) w := by
  have ht : Try.prog.underlying 26 = some (.slice (Try.prog.elem 26)) := by kernel_rfl
  have hs : ∀ w, (sizeOf (Try.prog.elem 26)).run Try.prog w = .ok 4 w := fun _ => by kernel_rfl
  rw [run_slice_l w 26 A n c ht .i64 (i : Int) (by omega) (by omega), hs]
  unfold fromA
  simp [Result.andThen, sliced]
section
variable {w : World} {A : Option Addr} {c i : Nat} {l : List MR}
theorem nt_take (hi : i ≤ l.length) {k : Nat} (hk : k < i) : nt (l.take i) k = nt l k := by rw [nt_at (by simp; omega), nt_at (by omega), List.getElem_take]
theorem nt_drop {k : Nat} (hk : i + k < l.length) : nt (l.drop i) k = nt l (i + k) := by rw [nt_at (by simp; omega), nt_at (by omega), List.getElem_drop]
theorem hv_to (h : HR w A c l) (hi : i ≤ l.length) : HR w A c (l.take i) := by
  have hl : (l.take i).length = i := by simp; omega
  refine ⟨?_, h.nil_, by have := h.le; omega, h.top, by have := h.sm; omega⟩
  rcases h.row with h0 | ⟨b, off, e, hlt, hc⟩
  · exact .inl (by omega)
  · exact .inr ⟨b, off, e, hlt, fun k hk => by rw [nt_take hi (by omega)]; exact hc k (by omega)⟩
theorem hv_from (h : HR w A c l) (hi : i ≤ l.length) : HR w (fromA A c i) (c - i) (l.drop i) := by
  have hl : (l.drop i).length = l.length - i := by simp
  have hle := h.le
  refine ⟨?_, ?_, by omega, by have := h.top; omega, by have := h.sm; omega⟩
  · rcases h.row with h0 | ⟨b, off, e, hlt, hc⟩
    · exact .inl (by omega)
    · by_cases h0 : l.length - i = 0
      · exact .inl (by omega)
      · refine .inr ⟨b, off + i * 4, ?_, hlt, fun k hk => ?_⟩
        · unfold fromA
          rw [if_neg (by omega), e]
          simp [Addr.add]
        · rw [nt_drop (by omega), show off + i * 4 + k * 4 = off + (i + k) * 4 by omega]
          exact hc (i + k) (by omega)
  · intro e
    unfold fromA at e
    split at e
    · omega
    · have : A = none := by cases A <;> simp_all
      have := h.nil_ this
      omega
end


theorem run_copy4 {P : Program} (w : World) (dT sT ty elem : TypeId) (b o dLen dCap : Nat) (a : Addr) (sLen sCap : Nat) (cs : List Value)
    (hu : P.underlying dT = some (.slice elem)) (hs : (P.info? elem).map (·.size) = some 4) (hn : cs.length = Nat.min sLen dLen * 4)
    (hsrc : ∀ j v, cs[j]? = some v → w.cell? (a.add j) = some v) (hc : ∀ j, j < cs.length → (w.cell? ⟨b, o + j, none⟩).isSome = true) (hf : ∀ j, j < cs.length → w.frozen? ⟨b, o + j, none⟩ = false) (h1 : ∀ v ∈ cs, v.oneCell' = true) :
    (Builtin.copy_ #[dT, sT] ty #[.slice (some ⟨b, o, none⟩) dLen dCap, .slice (some a) sLen sCap]).run P w = .ok (goInt (Nat.min sLen dLen)) (w.setCells b o cs) := by
  have hl := run_loadCells_list (P := P) w a cs hsrc
  have hst := run_storeCells_cells (P := P) b o cs 0 w (by simpa using hc) (by simpa using hf) h1
  cases hq : P.info? elem with
  | none => simp [hq] at hs
  | some i =>
    have hi : i.size = 4 := by simpa [hq] using hs
    simp [Builtin.copy_, run_underlying hu, Builtin.lenOf, Builtin.firstCells, sizeOf, typeInfo, hq, hi, ← hn, hl, hst]
/-- a row cut to its first m -/
theorem own_cut {w : World} {base n m c : Nat} {t : TypeId} {A : Option Addr} {xs : List Value} (h : w.ownsRow base t 4 (.slice A n c) n xs) (hm : m ≤ n) : w.ownsRow base t 4 (.slice A m c) m (xs.take (m * 4)) := by
  have hl : xs.length = n * 4 := h.1
  refine ⟨by simp; omega, ?_⟩
  rcases h.2 with ⟨e, h0⟩ | ⟨g, cap, cur, e, h1, h2, h3, h4, h5, h6⟩
  · simp only [Value.slice.injEq] at e
    obtain ⟨rfl, -, rfl⟩ := e
    exact .inl ⟨by simp; omega, by omega⟩
  · simp only [Value.slice.injEq] at e
    obtain ⟨rfl, -, rfl⟩ := e
    refine .inr ⟨g, c, cur, rfl, h1, h2, by omega, h4, h5, ?_⟩
    rw [← h6, List.take_take, Nat.min_eq_left (by omega)]
theorem grow_any (n : Nat) (w : World) (hn : n * 48 ≤ 140737488355328) :
    Calls Try.prog 39 #[.slice none 0 0, .int .i64 n] w (RR [] w) := by
  by_cases h0 : n = 0
  · subst h0
    go_enter Try.func39, Try.ntmps39
    go_wp2
    go_ret
    exact ⟨none, 0, rfl, GR.nil_ _ _, Below.refl _ _⟩
  · obtain ⟨iV, hiV, hzV0, hzV1, hzV2⟩ := info_parts infoR
    have hrun := fun ty => Lib.run_append_nil_zeros (P := Try.prog) w 26 3 ty 32 iV _ .i64 .i64 Try.underlying26 Try.underlying3 hiV hzV0 n (by omega) (by omega) (by omega) (by rw [hzV2]; omega)
    have hge := grownCap_ge w n 0 32
    have hgl := grownCap_le_maxLen w n 0 32 (by unfold maxLen; omega)
    generalize grownCap w n 0 32 = G at *
    have hsz : ∀ k, (Builtin.zeroCells (Value.agg #[.int .u64 0, .int .i64 0, .int .i64 0, .slice none 0 0]).cells k).size = k * 4 := fun k => by rw [size_zeroCells]; simp [Value.cells]
    have hR : Hid (RR [] w (.returned (.slice (some ⟨w.heap.size, 0, none⟩) 0 G)) (w.drew.alloc (.cells (Builtin.zeroCells (Value.agg #[.int .u64 0, .int .i64 0, .int .i64 0, .slice none 0 0]).cells n ++ Builtin.zeroCells (Value.agg #[.int .u64 0, .int .i64 0, .int .i64 0, .slice none 0 0]).cells (G - n)) 32))) := Lib.hid (by
      refine ⟨_, G, rfl, ⟨rfl, .inr ⟨w.heap.size, G, _, rfl, Nat.le_refl _, heap_alloc_new w.drew _, by simp, hgl, ?_, rfl⟩⟩, al0 w.drew _ |> undrew⟩
      rw [Array.size_append, hsz, hsz]; omega)
    have hG0 : ¬ (G = 0) := by omega
    have hG9 : G ≤ 9223372036854775807 := by unfold maxLen at hgl; omega
    have hnI : (0 : Int) < (n : Int) := by omega
    have hn9 : n ≤ 9223372036854775807 := by omega
    generalize Builtin.zeroCells (Value.agg #[.int .u64 0, .int .i64 0, .int .i64 0, .slice none 0 0]).cells n ++ Builtin.zeroCells (Value.agg #[.int .u64 0, .int .i64 0, .int .i64 0, .slice none 0 0]).cells (G - n) = Z at *
    clear hsz hge hgl
    go_enter Try.func39, Try.ntmps39
    go_wp2_with (at_builtin; refine Lib.wpList_append_run _ rfl _ _ _ _ rfl _ _ rfl rfl _ _ (hrun _) ?_)
    go_ret
    exact hR.out

/-! ### Concat -/
structure Part where
  A : Option Addr
  c : Nat
  l : List MR
instance : Inhabited Part := ⟨⟨none, 0, []⟩⟩
def cat (ps : List Part) : List MR := (ps.map (·.l)).flatten
theorem cat_on {ps : List Part} {j : Nat} (h : j < ps.length) : cat (ps.take (j + 1)) = cat (ps.take j) ++ (nt ps j).l := by
  unfold cat
  rw [take_nt h]
  simp
theorem cat_le {ps : List Part} {j : Nat} : (cat (ps.take j)).length ≤ (cat ps).length := by
  have e : cat ps = cat (ps.take j) ++ cat (ps.drop j) := by
    unfold cat
    rw [← List.flatten_append, ← List.map_append, List.take_append_drop]
  rw [e, List.length_append]
  omega
structure PR (w : World) (b off : Nat) (ps : List Part) : Prop where
  cell : ∀ i, i < ps.length → w.cell? ⟨b, off + i, none⟩ = some (.slice (nt ps i).A (nt ps i).l.length (nt ps i).c)
  hv : ∀ i, i < ps.length → HR w (nt ps i).A (nt ps i).c (nt ps i).l
theorem PR.below {w w1 : World} {b off : Nat} {ps : List Part} (h : PR w b off ps) (hB : Below w.heap.size w w1) : PR w1 b off ps :=
  ⟨fun i hi => keep_cell hB (h.cell i hi), fun i hi => (h.hv i hi).below hB⟩
theorem grow_more {W X w9 : World} {A A9 : Option Addr} {c c9 base : Nat} {k m : List MR} (hW : Below W.heap.size W X) (hG : GR X base A c k) (hb : W.heap.size ≤ base)
    (ho : w9.ownsRow base 32 4 (.slice A9 (k.length + m.length) c9) (k.length + m.length) (gl k ++ gl m)) (hg : X.grownBy w9 (Value.slice A k.length c).ownBlock) :
    GR w9 base A9 c9 (k ++ m) ∧ Below W.heap.size W w9 := by
  have hl : (k ++ m).length = k.length + m.length := by simp
  refine ⟨?_, hW.grown hg hW.size (fun b e => by have := (World.ownsRow.lt hG b e).1; omega)⟩
  unfold GR
  rw [hl, gl_app]
  exact ho
set_option maxRecDepth 100000 in
set_option maxHeartbeats 1000000 in
theorem concat_any (b off : Nat) (ps : List Part) (w : World) (hp : PR w b off ps) (hn : ps.length ≤ 1000) (hs : (cat ps).length * 48 ≤ 140737488355328) :
    Calls Try.prog 29 #[.slice (some ⟨b, off, none⟩) ps.length ps.length] w (RR (cat ps) w) := by
  obtain ⟨iV, hiV, hzV0, hzV1, hzV2⟩ := info_parts infoR
  obtain ⟨R, hR⟩ : ∃ R, cat ps = R := ⟨_, rfl⟩
  rw [hR] at hs ⊢
  replace hR := Lib.hid hR
  replace hp := Lib.hid hp
  go_enter Try.func29, Try.ntmps29
  go_wp2
  go_loop [3, 11] (fun s i => ∃ (j q : Nat), j ≤ ps.length ∧ i = .int .i64 j ∧ s = .int .i64 q ∧ Hid (q = (cat (ps.take j)).length)) (fun _ i => ps.length - (intOf i).toNat)
  case atStart => exact ⟨0, 0, Nat.zero_le _, rfl, rfl, Lib.hid rfl⟩
  case round =>
    obtain ⟨j, q, hj, rfl, rfl, hq⟩ := hrel
    by_cases hlt : j < ps.length
    · have hc := hp.out.cell j hlt
      have hup := Lib.hid (cat_on hlt)
      have hle := cat_le (ps := ps) (j := j + 1)
      rw [hup.out, List.length_append, ← hq.out, hR.out] at hle
      have hq2 := Lib.hid (show q + (nt ps j).l.length = (cat (ps.take (j + 1))).length by rw [hup.out, List.length_append, ← hq.out])
      clear hq hup
      generalize nt ps j = p at *
      have hjI : (j : Int) < (ps.length : Int) := by omega
      go_wp2
      go_round
      case rel => exact ⟨j + 1, q + p.l.length, by omega, by go_num, by go_num, hq2⟩
      case measure => simp [intOf]; omega
    · obtain rfl : j = ps.length := by omega
      have hqR : q = R.length := by rw [hq.out, List.take_length, hR.out]
      subst hqR
      have hgr := Lib.hid (grow_any R.length w hs)
      clear hq
      go_wp2_with (fail)
      refine hgr.out.mono ?_
      rintro e W ⟨A0, c0, rfl, hG0, hB0⟩
      replace hB0 := Lib.hid hB0
      replace hG0 := Lib.hid hG0
      rw [show ([] : List MR).length = 0 from rfl]
      go_wp2
      go_loopw [6, 27] (fun s i wr => ∃ (j : Nat) (k : List MR) (A' : Option Addr) (c' : Nat), j ≤ ps.length ∧ s = .slice A' k.length c' ∧ i = .int .i64 j ∧ Hid (k = cat (ps.take j)) ∧ Hid (GR wr w.heap.size A' c' k) ∧ Hid (Below w.heap.size w wr)) (fun _ i _ => ps.length - (intOf i).toNat)
      case atStart => exact ⟨0, [], A0, c0, by omega, rfl, rfl, Lib.hid rfl, hG0, hB0⟩
      case round =>
        obtain ⟨j, k, A', c', hj, rfl, rfl, hk, hG, hB⟩ := hrel
        by_cases hlt : j < ps.length
        · have hc := (hp.out.below hB.out).cell j hlt
          have hv := Lib.hid ((hp.out.below hB.out).hv j hlt)
          have hup := Lib.hid (cat_on hlt)
          have hle := cat_le (ps := ps) (j := j + 1)
          rw [hup.out, List.length_append, ← hk.out, hR.out] at hle
          have hk2 := Lib.hid (show k ++ (nt ps j).l = cat (ps.take (j + 1)) by rw [hup.out, ← hk.out])
          clear hk hup
          generalize nt ps j = p at *
          have hls : Hid (k.length + p.l.length ≤ maxLen ∧ (k.length + p.l.length) * 48 ≤ 140737488355328 ∧ w.heap.size ≤ wr.heap.size) := Lib.hid ⟨by unfold maxLen; omega, by omega, hB.out.size⟩
          have hjI : (j : Int) < (ps.length : Int) := by omega
          have hfl := Lib.hid (gl_len p.l)
          have hone := Lib.hid (gl_all p.l)
          have hst := Lib.hid hv.out.stand
          clear hle hs
          go_wp2_with (at_builtin; refine wpList_gen rfl (.tmp 31) (.tmp 32) 26 rfl w.heap.size 32 iV _ 4 48 Try.underlying26 hiV hzV0 hzV1 hzV2 rfl (by decide) _ k.length (gl k) (by rfl) hG.out p.A p.l.length p.c (gl p.l) (by rfl) hfl.out hst.out hone.out hls.out.1 hls.out.2.1 hls.out.2.2 ?_; intro A9 c9 w9 hr9 hg9 hat9; obtain ⟨hG9, hB9⟩ := grow_more hB.out hG.out (Nat.le_refl _) hr9 hg9; have hG9' := Lib.hid hG9; have hB9' := Lib.hid hB9; clear hr9 hg9 hat9 hG9 hB9)
          go_roundw
          case rel => exact ⟨j + 1, k ++ p.l, A9, c9, by omega, by rw [List.length_append], by go_num, hk2, hG9', hB9'⟩
          case measure => simp [intOf]; omega
        · obtain rfl : j = ps.length := by omega
          rw [List.take_length, hR.out] at hk
          obtain rfl := hk.out
          have hfin := Lib.hid (show RR k w (.returned (.slice A' k.length c')) wr from ⟨A', c', rfl, hG.out, hB.out⟩)
          clear hk hG hB
          go_wp2
          go_ret
          exact hfin.out
end Go.Proofs.Ytipnmgihbpbonaa.ordI
