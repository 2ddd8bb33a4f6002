/- The contract of slices.Insert of one commit. -/
import Derived.Test.YtipnmgihbpbonaaOrdN
set_option linter.unusedVariables false
set_option linter.unusedSimpArgs false
set_option maxRecDepth 100000
namespace Go.Proofs.Ytipnmgihbpbonaa.ordO
open Go.ChangeShapes Go.WideShapes Go.ChangeAt Go.RowKit Go.Deep Go.Lib
open opV chnM gen chnA chnR chnE ordA ordB ordC ordCr ordI ordN


theorem stand_one {w : World} {b : Nat} {v : MR} (h : R4 b 0 v w) : Stand w (some ⟨b, 0, none⟩) 1 (cR v) := .inr ⟨_, rfl, fun j u hu => by
  rw [add_plain]
  exact R4.at h hu⟩
theorem gl_ins_end (l : List MR) (v : MR) : gl (insA l l.length v) = gl l ++ cR v := by
  unfold insA; rw [List.take_length, List.drop_length, gl_app, gl_one]
theorem from_some {g c i : Nat} (h : c ≠ i) : fromA (some ⟨g, 0, none⟩) c i = some ⟨g, i * 4, none⟩ := by
  unfold fromA; rw [if_neg h]; simp [Addr.add]; omega
theorem size4 : (Try.prog.info? 32).map (·.size) = some 4 := by kernel_rfl
theorem copy_step {P : Program} {ops : Array Oper} {o : Oper} {a : Act} {w : World} {K : Act → World → Prop} {Q : Exit → Act → World → Prop} {E : Prop}
    (hg : o.guard = none) (d x : Operand) (dT sT : TypeId) (hop : o.op = Op.call { callee := Callee.builtin Builtin.copy, args := #[d, x], argTypes := #[dT, sT] })
    (v u : Value) (hd : a.eval d = v) (hx : a.eval x = u) {v' : Value} {w' : World} (hr : (Builtin.copy_ #[dT, sT] o.type #[v, u]).run P w = .ok v' w') (hK : K (a.put o.dst v') w') :
    if Region.wanted o (yielded ops a.tmps) = true then Oper.wp P o a w K Q else E := step_copy_runI hg d x dT sT hop v u hd hx hr hK
set_option maxRecDepth 100000 in
set_option maxHeartbeats 2000000 in
theorem ins_e (base : Nat) (A : Option Addr) (c : Nat) (l : List MR) (v : MR) (vb : Nat) (w : World) (hG : GR w base A c l) (hv : R4 vb 0 v w) (h9 : l.length ≤ 1000) (hb0 : base ≤ w.heap.size) :
    Calls Try.prog 26 #[.slice A l.length c, .int .i64 l.length, .slice (some ⟨vb, 0, none⟩) 1 1] w (InR base A c l l.length v w) := by
  obtain ⟨iV, hiV, hzV0, hzV1, hzV2⟩ := info_parts infoR
  have hs2 := slice_from A l.length c l.length (Nat.le_refl _)
  have hst := Lib.hid (stand_one hv)
  have hone := Lib.hid (cR_one v)
  have hcl := Lib.hid (show (cR v).length = 1 * 4 from rfl)
  have hls : Hid (l.length + 1 ≤ maxLen ∧ (l.length + 1) * 48 ≤ 140737488355328) := Lib.hid ⟨by unfold maxLen; omega, by omega⟩
  have hfin := Lib.hid (show ∀ A9 c9 w9, w9.ownsRow base 32 4 (.slice A9 (l.length + 1) c9) (l.length + 1) (gl l ++ cR v) → w.grownBy w9 (Value.slice A l.length c).ownBlock → ((Value.slice A9 (l.length + 1) c9).ownBlock = (Value.slice A l.length c).ownBlock ∨ (Value.slice A9 (l.length + 1) c9).ownBlock = some w.heap.size) → InR base A c l l.length v w (.returned (.slice A9 (l.length + 1) c9)) w9 from fun A9 c9 w9 ho hg hat => by
    refine ⟨A9, c9, rfl, ?_, hg, hat⟩
    unfold GR
    rw [ins_len (Nat.le_refl _), gl_ins_end]
    exact ho)
  replace hG := Lib.hid hG
  clear hv
  generalize fromA A c l.length = A2 at *
  go_enter Try.func26, Try.ntmps26
  go_wp2_with (at_builtin; refine wpList_gen rfl (.tmp 23) (.tmp 24) 26 rfl base 32 iV _ 4 48 Try.underlying26 hiV hzV0 hzV1 hzV2 rfl (by decide) _ l.length (gl l) (by rfl) hG.out (some ⟨vb, 0, none⟩) 1 1 (cR v) (by rfl) hcl.out hst.out hone.out hls.out.1 hls.out.2 hb0 ?_; intro A9 c9 w9 hr9 hg9 hat9; have hF := Lib.hid (hfin.out A9 c9 w9 hr9 hg9 hat9); clear hr9 hg9 hat9)
  go_ret
  exact hF.out
set_option maxRecDepth 100000 in
set_option maxHeartbeats 4000000 in
theorem ins_s (base g c : Nat) (l : List MR) (i : Nat) (v : MR) (vb : Nat) (w : World) (cur : Array Value) (hb : base ≤ g) (hg : w.heap[g]? = some (.cells cur 32 (0, 0))) (hcm : c ≤ maxLen) (hcs : cur.size = c * 4) (htk : cur.toList.take (l.length * 4) = gl l)
    (hvb : w.heap[vb]? = some (.cells #[.int .u64 v.ts, .int .i64 v.dc, .int .i64 v.tx, .slice v.A v.vs.length v.c] 32 (0, 0))) (hne : vb ≠ g) (h9 : l.length ≤ 1000) (hi : i < l.length) (hr : l.length + 1 ≤ c) :
    Calls Try.prog 26 #[.slice (some ⟨g, 0, none⟩) l.length c, .int .i64 i, .slice (some ⟨vb, 0, none⟩) 1 1] w (InR base (some ⟨g, 0, none⟩) c l i v w) := by
  have hfin := Lib.hid (ins_here (v := v) hb hg hcm hcs htk (Nat.le_of_lt hi) hr)
  have hc9 : c ≤ 9223372036854775807 := by unfold maxLen at hcm; exact hcm
  have hs0 := slice_from (some ⟨g, 0, none⟩) l.length c i (Nat.le_of_lt hi)
  rw [from_some (by omega)] at hs0
  have hs1 := slice_to (some ⟨g, 0, none⟩) l.length c (l.length + 1) hr
  have hs2 := slice_from (some ⟨g, 0, none⟩) (l.length + 1) c (i + 1) (by omega)
  rw [from_some (by omega)] at hs2
  have hs3 := slice_from (some ⟨g, 0, none⟩) (l.length + 1) c i (by omega)
  rw [from_some (by omega)] at hs3
  rw [show ((l.length + 1 : Nat) : Int) = (l.length : Int) + 1 from rfl] at hs1
  rw [show ((i + 1 : Nat) : Int) = (i : Int) + 1 from rfl, Nat.add_sub_add_right] at hs2
  have hov : ∀ lb cb, (callFunc 35 #[.slice (some ⟨vb, 0, none⟩) 1 1, .slice (some ⟨g, (i + 1) * 4, none⟩) lb cb]).run Try.prog w = .ok (.value (.bool false)) w := fun lb cb => by
    rw [run_callFunc_extern Try.func35 (by kernel_rfl) (by kernel_rfl) (by kernel_rfl) (e := Extern.SlicesOverlaps.overlaps #[26, 26] #[4]) (by kernel_rfl),
      Lib.run_overlaps_apart w 26 4 32 Try.underlying26 4 Try.sizeOf32 ⟨vb, 0, none⟩ ⟨g, (i + 1) * 4, none⟩ 1 1 lb cb hne _ _ _ _ (shape_of hvb) (shape_of hg) (by omega) (frozen_of_row w vb _ _ _ hvb) (frozen_of_row w vb _ _ _ hvb)]
    rfl
  have hfd : (gl (l.drop i)).length = (l.length - i) * 4 := by rw [gl_len, List.length_drop]
  have hcl : ∀ j u, (gl l)[j]? = some u → w.cell? ⟨g, j, none⟩ = some u := fun j u h => cell_of_take hg htk h
  have hdr : gl (l.drop i) = (gl l).drop (i * 4) := gl_drop l i
  have hcp1 : ∀ ty dc sc, (Builtin.copy_ #[26, 26] ty #[.slice (some ⟨g, (i + 1) * 4, none⟩) (l.length - i) dc, .slice (some ⟨g, i * 4, none⟩) (l.length + 1 - i) sc]).run Try.prog w.drew = .ok (goInt (Nat.min (l.length + 1 - i) (l.length - i))) (w.drew.setCells g ((i + 1) * 4) (gl (l.drop i))) := fun ty dc sc =>
    run_copy4 w.drew _ _ ty 32 g ((i + 1) * 4) (l.length - i) dc ⟨g, i * 4, none⟩ (l.length + 1 - i) sc (gl (l.drop i)) Try.underlying26 size4 (by rw [hfd]; congr 1; simp only [Nat.min_def]; split <;> omega)
      (fun j u hj => by
        rw [Addr.add_lit]
        rw [hdr, List.getElem?_drop] at hj
        exact hcl _ u hj)
      (fun j hj => cell_in (w := w.drew) hg (by rw [hfd] at hj; omega)) (fun j _ => frozen_of_row w g _ cur _ hg) (gl_all _)
  obtain ⟨W1, hW1⟩ : ∃ W1, W1 = w.drew.setCells g ((i + 1) * 4) (gl (l.drop i)) := ⟨_, rfl⟩
  have hsp1 : ∀ k, k < c * 4 → (W1.cell? ⟨g, k, none⟩).isSome = true := fun k hk => by
    rw [hW1]
    exact isSome_setCells g _ _ _ (fun j hj => cell_in (w := w.drew) hg (by rw [hfd] at hj; omega)) _ (cell_in (w := w.drew) hg (by omega))
  have hvv : ∀ j u, (cR v)[j]? = some u → w.cell? ⟨vb, j, none⟩ = some u := fun j u hj => (cell_of_row w vb j _ _ (0, 0) hvb).trans (by rw [← hj]; simp [cR])
  have hcp2 : ∀ ty dc, (Builtin.copy_ #[26, 26] ty #[.slice (some ⟨g, i * 4, none⟩) (l.length + 1 - i) dc, .slice (some ⟨vb, 0, none⟩) 1 1]).run Try.prog W1 = .ok (goInt (Nat.min 1 (l.length + 1 - i))) (W1.setCells g (i * 4) (cR v)) := fun ty dc =>
    run_copy4 W1 _ _ ty 32 g (i * 4) (l.length + 1 - i) dc ⟨vb, 0, none⟩ 1 1 (cR v) Try.underlying26 size4 (by rw [cR_len]; simp only [Nat.min_def]; split <;> omega)
      (fun j u hj => by
        rw [Addr.add_lit, Nat.zero_add, hW1, World.cell?_setCells_out g _ _ _ _ (fun h _ => absurd h hne)]
        exact hvv j u hj)
      (fun j hj => hsp1 _ (by rw [cR_len] at hj; omega)) (fun j hj => by rw [hW1, World.frozen?_setCells]; exact frozen_of_row w g _ cur _ hg) (cR_one v)
  rw [← hW1] at hcp1 hfin
  replace hW1 := Lib.hid hW1
  clear hsp1 hvv hcl hdr hfd hvb hg htk hcs hcm
  have hiI : ¬ ((i : Int) = (l.length : Int)) := by omega
  have hw1 : IntKind.i64.wrap ((i : Int) + 1) = (i : Int) + 1 := wrap_in _ (by omega) (by omega)
  have hrI : ¬ ((c : Int) < (l.length : Int) + 1) := by omega
  go_enter Try.func26, Try.ntmps26
  go_wp2_with (simp only [hov])
  go_region_law (refine copy_step rfl _ _ 26 26 rfl _ _ (by simp [Act.eval, Act.put]) (by simp [Act.eval, Act.put]) (hcp1 _ _ _) ?_)
  go_wp2_with (at_builtin; refine wpList_copy_runI _ rfl _ _ 26 26 rfl _ _ rfl rfl (hcp2 _ _) ?_)
  go_ret
  exact hfin.out
end Go.Proofs.Ytipnmgihbpbonaa.ordO
