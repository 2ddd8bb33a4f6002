/- The contract of slices.Insert of one version into a row of the call's own. -/
import Derived.Test.YtbmaaonjohcgbaaChnN
set_option linter.unusedVariables false
set_option linter.unusedSimpArgs false
namespace Go.Proofs.Ytbmaaonjohcgbaa.chnO
open Go.ChangeShapes Go.WideShapes Go.ChangeAt Go.RowKit Go.Deep Go.Lib
open opV chnM gen chnA chnB chnR chnC chnD chnE chnF chnG chnI chnJ chnN

theorem stand_one {w : World} {b : Nat} {v : Ver} (h : V6 b 0 v w) : Stand w (some ⟨b, 0, none⟩) 1 (cL v) := .inr ⟨_, rfl, fun j u hu => by
  rw [add_plain]
  exact V6.at h hu⟩
theorem fl_ins_end (l : List Ver) (v : Ver) : fl (insA l l.length v) = fl l ++ cL v := by
  unfold insA; rw [List.take_length, List.drop_length, fl_app, fl_one]
theorem from_some {g c i : Nat} (h : c ≠ i) : fromA (some ⟨g, 0, none⟩) c i = some ⟨g, i * 6, none⟩ := by
  unfold fromA; rw [if_neg h]; simp [Addr.add]; omega
theorem size6 : (Try.prog.info? 25).map (·.size) = some 6 := by kernel_rfl
theorem copy_step {P : Program} {ops : Array Oper} {o : Oper} {a : Act} {w : World} {K : Act → World → Prop} {Q : Exit → Act → World → Prop} {E : Prop}
    (hg : o.guard = none) (d x : Operand) (dT sT : TypeId) (hop : o.op = Op.call { callee := Callee.builtin Builtin.copy, args := #[d, x], argTypes := #[dT, sT] })
    (v u : Value) (hd : a.eval d = v) (hx : a.eval x = u) {v' : Value} {w' : World} (hr : (Builtin.copy_ #[dT, sT] o.type #[v, u]).run P w = .ok v' w') (hK : K (a.put o.dst v') w') :
    if Region.wanted o (yielded ops a.tmps) = true then Oper.wp P o a w K Q else E := step_copy_runI hg d x dT sT hop v u hd hx hr hK
set_option maxRecDepth 100000 in
set_option maxHeartbeats 2000000 in
theorem ins_e (base : Nat) (A : Option Addr) (c : Nat) (l : List Ver) (v : Ver) (vb : Nat) (w : World) (hG : GV w base A c l) (hv : V6 vb 0 v w) (h9 : l.length ≤ 1000) (hb0 : base ≤ w.heap.size) :
    Calls Try.prog 31 #[.slice A l.length c, .int .i64 l.length, .slice (some ⟨vb, 0, none⟩) 1 1] w (InV base A c l l.length v w) := by
  obtain ⟨iV, hiV, hzV0, hzV1, hzV2⟩ := info_parts infoV
  have hs2 := slice_from A l.length c l.length (Nat.le_refl _)
  have hst := Lib.hid (stand_one hv)
  have hone := Lib.hid (cL_one v)
  have hcl := Lib.hid (show (cL v).length = 1 * 6 from rfl)
  have hls : Hid (l.length + 1 ≤ maxLen ∧ (l.length + 1) * 64 ≤ 140737488355328) := Lib.hid ⟨by unfold maxLen; omega, by omega⟩
  have hfin := Lib.hid (show ∀ A9 c9 w9, w9.ownsRow base 25 6 (.slice A9 (l.length + 1) c9) (l.length + 1) (fl l ++ cL v) → w.grownBy w9 (Value.slice A l.length c).ownBlock → InV base A c l l.length v w (.returned (.slice A9 (l.length + 1) c9)) w9 from fun A9 c9 w9 ho hg => by
    refine ⟨A9, c9, rfl, ?_, hg⟩
    unfold GV
    rw [ins_len (Nat.le_refl _), fl_ins_end]
    exact ho)
  replace hG := Lib.hid hG
  clear hv
  generalize fromA A c l.length = A2 at *
  go_enter Try.func31, Try.ntmps31
  go_wp2_with (at_builtin; refine wpList_gen rfl (.tmp 23) (.tmp 24) 22 rfl base 25 iV _ 6 64 Try.underlying22 hiV hzV0 hzV1 hzV2 rfl (by decide) _ l.length (fl l) (by rfl) hG.out (some ⟨vb, 0, none⟩) 1 1 (cL v) (by rfl) hcl.out hst.out hone.out hls.out.1 hls.out.2 hb0 ?_; intro A9 c9 w9 hr9 hg9 hat9; have hF := Lib.hid (hfin.out A9 c9 w9 hr9 hg9); clear hr9 hg9 hat9)
  go_ret
  exact hF.out
set_option maxRecDepth 100000 in
set_option maxHeartbeats 4000000 in
theorem ins_s (base g c : Nat) (l : List Ver) (i : Nat) (v : Ver) (vb : Nat) (w : World) (cur : Array Value) (hb : base ≤ g) (hg : w.heap[g]? = some (.cells cur 25 (0, 0))) (hcm : c ≤ maxLen) (hcs : cur.size = c * 6) (htk : cur.toList.take (l.length * 6) = fl l)
    (hvb : w.heap[vb]? = some (.cells #[.string v.key, .string v.val, .bool v.gone, .int .u64 v.ts, .int .i64 v.dc, .int .i64 v.tx] 25 (0, 0))) (hne : vb ≠ g) (h9 : l.length ≤ 1000) (hi : i < l.length) (hr : l.length + 1 ≤ c) :
    Calls Try.prog 31 #[.slice (some ⟨g, 0, none⟩) l.length c, .int .i64 i, .slice (some ⟨vb, 0, none⟩) 1 1] w (InV base (some ⟨g, 0, none⟩) c l i v w) := by
  have hfin := Lib.hid (ins_here (v := v) hb hg hcm hcs htk (Nat.le_of_lt hi) hr)
  have hc9 : c ≤ 9223372036854775807 := by unfold maxLen at hcm; exact hcm
  have hs0 := slice_from (some ⟨g, 0, none⟩) l.length c i (Nat.le_of_lt hi)
  rw [from_some (by omega)] at hs0
  have hs1 := slice_to (some ⟨g, 0, none⟩) l.length c (l.length + 1) hr
  have hs2 := slice_from (some ⟨g, 0, none⟩) (l.length + 1) c (i + 1) (by omega)
  rw [from_some (by omega)] at hs2
  have hs3 := slice_from (some ⟨g, 0, none⟩) (l.length + 1) c i (by omega)
  rw [from_some (by omega)] at hs3
  rw [show ((l.length + 1 : Nat) : Int) = (l.length : Int) + 1 from rfl] at hs1
  rw [show ((i + 1 : Nat) : Int) = (i : Int) + 1 from rfl, Nat.add_sub_add_right] at hs2
  have hov : ∀ lb cb, (callFunc 38 #[.slice (some ⟨vb, 0, none⟩) 1 1, .slice (some ⟨g, (i + 1) * 6, none⟩) lb cb]).run Try.prog w = .ok (.value (.bool false)) w := fun lb cb => by
    rw [run_callFunc_extern Try.func38 (by kernel_rfl) (by kernel_rfl) (by kernel_rfl) (e := Extern.SlicesOverlaps.overlaps #[22, 22] #[4]) (by kernel_rfl),
      Lib.run_overlaps_apart w 22 4 25 Try.underlying22 6 Try.sizeOf25 ⟨vb, 0, none⟩ ⟨g, (i + 1) * 6, none⟩ 1 1 lb cb hne _ _ _ _ (shape_of hvb) (shape_of hg) (by omega) (frozen_of_row w vb _ _ _ hvb) (frozen_of_row w vb _ _ _ hvb)]
    rfl
  have hfd : (fl (l.drop i)).length = (l.length - i) * 6 := by rw [fl_len, List.length_drop]
  have hcl : ∀ j u, (fl l)[j]? = some u → w.cell? ⟨g, j, none⟩ = some u := fun j u h => cell_of_take hg htk h
  have hdr : fl (l.drop i) = (fl l).drop (i * 6) := fl_drop l i
  have hcp1 : ∀ ty dc sc, (Builtin.copy_ #[22, 22] ty #[.slice (some ⟨g, (i + 1) * 6, none⟩) (l.length - i) dc, .slice (some ⟨g, i * 6, none⟩) (l.length + 1 - i) sc]).run Try.prog w.drew = .ok (goInt (Nat.min (l.length + 1 - i) (l.length - i))) (w.drew.setCells g ((i + 1) * 6) (fl (l.drop i))) := fun ty dc sc =>
    run_copy6 w.drew _ _ ty 25 g ((i + 1) * 6) (l.length - i) dc ⟨g, i * 6, none⟩ (l.length + 1 - i) sc (fl (l.drop i)) Try.underlying22 size6 (by rw [hfd]; congr 1; simp only [Nat.min_def]; split <;> omega)
      (fun j u hj => by
        rw [Addr.add_lit]
        rw [hdr, List.getElem?_drop] at hj
        exact hcl _ u hj)
      (fun j hj => cell_in (w := w.drew) hg (by rw [hfd] at hj; omega)) (fun j _ => frozen_of_row w g _ cur _ hg) (fl_all _)
  obtain ⟨W1, hW1⟩ : ∃ W1, W1 = w.drew.setCells g ((i + 1) * 6) (fl (l.drop i)) := ⟨_, rfl⟩
  have hsp1 : ∀ k, k < c * 6 → (W1.cell? ⟨g, k, none⟩).isSome = true := fun k hk => by
    rw [hW1]
    exact isSome_setCells g _ _ _ (fun j hj => cell_in (w := w.drew) hg (by rw [hfd] at hj; omega)) _ (cell_in (w := w.drew) hg (by omega))
  have hvv : ∀ j u, (cL v)[j]? = some u → w.cell? ⟨vb, j, none⟩ = some u := fun j u hj => (cell_of_row w vb j _ _ (0, 0) hvb).trans (by rw [← hj]; simp [cL])
  have hcp2 : ∀ ty dc, (Builtin.copy_ #[22, 22] ty #[.slice (some ⟨g, i * 6, none⟩) (l.length + 1 - i) dc, .slice (some ⟨vb, 0, none⟩) 1 1]).run Try.prog W1 = .ok (goInt (Nat.min 1 (l.length + 1 - i))) (W1.setCells g (i * 6) (cL v)) := fun ty dc =>
    run_copy6 W1 _ _ ty 25 g (i * 6) (l.length + 1 - i) dc ⟨vb, 0, none⟩ 1 1 (cL v) Try.underlying22 size6 (by rw [cL_len]; simp only [Nat.min_def]; split <;> omega)
      (fun j u hj => by
        rw [Addr.add_lit, Nat.zero_add, hW1, World.cell?_setCells_out g _ _ _ _ (fun h _ => absurd h hne)]
        exact hvv j u hj)
      (fun j hj => hsp1 _ (by rw [cL_len] at hj; omega)) (fun j hj => by rw [hW1, World.frozen?_setCells]; exact frozen_of_row w g _ cur _ hg) (cL_one v)
  rw [← hW1] at hcp1 hfin
  replace hW1 := Lib.hid hW1
  clear hsp1 hvv hcl hdr hfd hvb hg htk hcs hcm
  have hiI : ¬ ((i : Int) = (l.length : Int)) := by omega
  have hw1 : IntKind.i64.wrap ((i : Int) + 1) = (i : Int) + 1 := wrap_in _ (by omega) (by omega)
  have hrI : ¬ ((c : Int) < (l.length : Int) + 1) := by omega
  go_enter Try.func31, Try.ntmps31
  go_wp2_with (simp only [hov])
  go_region_law (refine copy_step rfl _ _ 22 22 rfl _ _ (by simp [Act.eval, Act.put]) (by simp [Act.eval, Act.put]) (hcp1 _ _ _) ?_)
  go_wp2_with (at_builtin; refine wpList_copy_runI _ rfl _ _ 22 22 rfl _ _ rfl rfl (hcp2 _ _) ?_)
  go_ret
  exact hfin.out
end Go.Proofs.Ytbmaaonjohcgbaa.chnO
