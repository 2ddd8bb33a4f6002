/- The contract of slices.Insert of one commit: where there is no room; one word for all roads. -/
import Derived.Test.YtipnmgihbpbonaaOrdO
set_option linter.unusedVariables false
set_option linter.unusedSimpArgs false
set_option maxRecDepth 100000
namespace Go.Proofs.Ytipnmgihbpbonaa.ordOg
open Go.ChangeShapes Go.WideShapes Go.ChangeAt Go.RowKit Go.Deep Go.Lib
open opV chnM gen chnA chnR chnE ordA ordB ordC ordCr ordI ordN ordO


theorem cell_drew (w : World) (x : Addr) : w.drew.cell? x = w.cell? x := rfl
theorem fz_drew (w : World) (x : Addr) : w.drew.frozen? x = w.frozen? x := rfl
def zV : Value := .agg #[.int .u64 0, .int .i64 0, .int .i64 0, .slice none 0 0]
theorem zV_size (k : Nat) : (Builtin.zeroCells zV.cells k).size = k * 4 := by rw [size_zeroCells]; simp [zV, Value.cells]
set_option maxRecDepth 100000 in
set_option maxHeartbeats 4000000 in
theorem ins_g (base g c : Nat) (l : List MR) (i : Nat) (v : MR) (vb : Nat) (w : World) (cur : Array Value) (hb0 : base ≤ w.heap.size) (hg : w.heap[g]? = some (.cells cur 32 (0, 0))) (hcs : cur.size = c * 4) (htk : cur.toList.take (l.length * 4) = gl l) (hlc : l.length ≤ c)
    (hvb : w.heap[vb]? = some (.cells #[.int .u64 v.ts, .int .i64 v.dc, .int .i64 v.tx, .slice v.A v.vs.length v.c] 32 (0, 0))) (h9 : l.length ≤ 1000) (hi : i < l.length) (hr : c < l.length + 1) :
    Calls Try.prog 26 #[.slice (some ⟨g, 0, none⟩) l.length c, .int .i64 i, .slice (some ⟨vb, 0, none⟩) 1 1] w (InR base (some ⟨g, 0, none⟩) c l i v w) := by
  obtain ⟨iV, hiV, hzV0, hzV1, hzV2⟩ := info_parts infoR
  have hgw : g < w.heap.size := (Array.getElem?_eq_some_iff.1 hg).1
  have hvw : vb < w.heap.size := (Array.getElem?_eq_some_iff.1 hvb).1
  have hcl : ∀ j u, (gl l)[j]? = some u → w.cell? ⟨g, j, none⟩ = some u := fun j u h => cell_of_take hg htk h
  have hft : ((gl l).take (i * 4)).length = i * 4 := by rw [List.length_take, gl_len]; omega
  have hold : (Builtin.firstCells iV.size i (.slice (some ⟨g, 0, none⟩) i c)).run Try.prog w.drew = .ok ((gl l).take (i * 4)).toArray w.drew := by
    rw [hzV1]
    exact run_firstCells_some w.drew 4 i ⟨g, 0, none⟩ i c ((gl l).take (i * 4)) hft (fun j u hj => by
      rw [Addr.add_lit, Nat.zero_add]
      rw [List.getElem?_take] at hj
      split at hj
      · exact hcl j u hj
      · cases hj)
  have hik : i + (l.length + 1 - i) = l.length + 1 := by omega
  have hkk : (l.length : Int) + 1 - (i : Int) = ((l.length + 1 - i : Nat) : Int) := by omega
  have hrz : ∀ ty, (Builtin.append_ #[26, 3] ty #[.slice (some ⟨g, 0, none⟩) i c, .int .i64 ((l.length : Int) + 1 - (i : Int))]).run Try.prog w =
      .ok (.slice (some ⟨w.heap.size, 0, none⟩) (l.length + 1) (grownCap w (l.length + 1) c 32)) (w.drew.alloc (.cells (((gl l).take (i * 4)).toArray ++ Builtin.zeroCells zV.cells (l.length + 1 - i) ++ Builtin.zeroCells zV.cells (grownCap w (l.length + 1) c 32 - (l.length + 1))) 32)) := fun ty => by
    have h := Lib.run_append_grow_zeros (P := Try.prog) w 26 3 ty 32 iV zV .i64 .i64 Try.underlying26 Try.underlying3 hiV hzV0 (some ⟨g, 0, none⟩) i c ((gl l).take (i * 4)) hold (l.length + 1 - i) (by omega) (by omega) (by omega) (by omega) (by rw [hzV2]; omega) (by rw [hzV2, hik]; exact growslice_fits (by omega) (by omega))
    rw [hik] at h
    rw [hkk]
    exact h
  have hge := grownCap_ge w (l.length + 1) c 32
  have hgl := grownCap_le_maxLen w (l.length + 1) c 32 (by unfold maxLen; omega)
  generalize grownCap w (l.length + 1) c 32 = G at *
  have hG9 : G ≤ 9223372036854775807 := by unfold maxLen at hgl; exact hgl
  have hfin := Lib.hid (ins_grow (c := c) (v := v) (some ⟨g, 0, none⟩) hb0 hi G hge hgl (Builtin.zeroCells zV.cells (l.length + 1 - i)) (Builtin.zeroCells zV.cells (G - (l.length + 1))) (zV_size _) (zV_size _))
  have hRl : (((gl l).take (i * 4)).toArray ++ Builtin.zeroCells zV.cells (l.length + 1 - i) ++ Builtin.zeroCells zV.cells (G - (l.length + 1))).size = G * 4 := by
    rw [Array.size_append, Array.size_append, List.size_toArray, hft, zV_size, zV_size]; exact num1 i l.length G hi hge
  generalize ((gl l).take (i * 4)).toArray ++ Builtin.zeroCells zV.cells (l.length + 1 - i) ++ Builtin.zeroCells zV.cells (G - (l.length + 1)) = R at *
  clear hgl hold hft htk hcs
  obtain ⟨W1, hW1⟩ : ∃ W1, W1 = w.drew.alloc (.cells R 32) := ⟨_, rfl⟩
  have hN : ∀ j, j < G * 4 → (W1.cell? ⟨w.heap.size, j, none⟩).isSome = true := fun j hj => by
    rw [hW1, World.cell?_alloc_at (w := w.drew) R _ w.heap.size j rfl, Array.getElem?_eq_getElem (by omega)]; rfl
  have hNf : ∀ j, W1.frozen? ⟨w.heap.size, j, none⟩ = false := fun j => by rw [hW1]; exact World.frozen?_alloc_at (w := w.drew) R _ w.heap.size j rfl
  have hOb : ∀ j u, w.cell? ⟨g, j, none⟩ = some u → W1.cell? ⟨g, j, none⟩ = some u := fun j u h => by rw [hW1, World.cell?_alloc_past (w := w.drew) _ g j hgw]; exact h
  have hOv : ∀ j u, w.cell? ⟨vb, j, none⟩ = some u → W1.cell? ⟨vb, j, none⟩ = some u := fun j u h => by rw [hW1, World.cell?_alloc_past (w := w.drew) _ vb j hvw]; exact h
  have hvv : ∀ j u, (cR v)[j]? = some u → w.cell? ⟨vb, j, none⟩ = some u := fun j u hj => (cell_of_row w vb j _ _ (0, 0) hvb).trans (by rw [← hj]; simp [cR])
  have hgN : g ≠ w.heap.size := Nat.ne_of_lt hgw
  have hfd : (gl (l.drop i)).length = (l.length - i) * 4 := by rw [gl_len, List.length_drop]
  have hdr : gl (l.drop i) = (gl l).drop (i * 4) := gl_drop l i
  have hcpA : ∀ (W : World), (∀ x, W.cell? x = W1.cell? x) → (∀ x, W.frozen? x = W1.frozen? x) → ∀ ty dc, (Builtin.copy_ #[26, 26] ty #[.slice (some ⟨w.heap.size, i * 4, none⟩) (l.length + 1 - i) dc, .slice (some ⟨vb, 0, none⟩) 1 1]).run Try.prog W = .ok (goInt (Nat.min 1 (l.length + 1 - i))) (W.setCells w.heap.size (i * 4) (cR v)) := fun W hWc hWf ty dc =>
    run_copy4 W _ _ ty 32 w.heap.size (i * 4) (l.length + 1 - i) dc ⟨vb, 0, none⟩ 1 1 (cR v) Try.underlying26 size4 (by rw [cR_len]; simp only [Nat.min_def]; split <;> omega)
      (fun j u hj => by rw [Addr.add_lit, Nat.zero_add, hWc]; exact hOv _ u (hvv j u hj))
      (fun j hj => by rw [hWc]; exact hN _ (by rw [cR_len] at hj; omega)) (fun j hj => by rw [hWf]; exact hNf _) (cR_one v)
  have hcpB : ∀ (W : World), (∀ x, W.cell? x = (W1.setCells w.heap.size (i * 4) (cR v)).cell? x) → (∀ x, W.frozen? x = (W1.setCells w.heap.size (i * 4) (cR v)).frozen? x) → ∀ ty dc sc, (Builtin.copy_ #[26, 26] ty #[.slice (some ⟨w.heap.size, (i + 1) * 4, none⟩) (l.length - i) dc, .slice (some ⟨g, i * 4, none⟩) (l.length - i) sc]).run Try.prog W = .ok (goInt (Nat.min (l.length - i) (l.length - i))) (W.setCells w.heap.size ((i + 1) * 4) (gl (l.drop i))) := fun W hWc hWf ty dc sc =>
    run_copy4 W _ _ ty 32 w.heap.size ((i + 1) * 4) (l.length - i) dc ⟨g, i * 4, none⟩ (l.length - i) sc (gl (l.drop i)) Try.underlying26 size4 (by rw [hfd]; congr 1; simp only [Nat.min_def]; split <;> omega)
      (fun j u hj => by
        rw [Addr.add_lit, hWc, World.cell?_setCells_out _ _ _ _ _ (fun h _ => absurd h hgN)]
        rw [hdr, List.getElem?_drop] at hj
        exact hOb _ u (hcl _ u hj))
      (fun j hj => by rw [hWc]; exact isSome_setCells _ _ _ _ (fun t ht => hN _ (by rw [cR_len] at ht; omega)) _ (hN _ (by rw [hfd] at hj; omega)))
      (fun j hj => by rw [hWf, World.frozen?_setCells]; exact hNf _) (gl_all _)
  have hs0 := slice_from (some ⟨g, 0, none⟩) l.length c i (Nat.le_of_lt hi)
  rw [from_some (by omega)] at hs0
  have hs1 := slice_to (some ⟨g, 0, none⟩) l.length c i (by omega)
  have hs2 := slice_from (some ⟨w.heap.size, 0, none⟩) (l.length + 1) G i (by omega)
  rw [from_some (by omega)] at hs2
  have hs3 := slice_from (some ⟨w.heap.size, 0, none⟩) (l.length + 1) G (i + 1) (by omega)
  rw [from_some (by omega)] at hs3
  rw [show ((i + 1 : Nat) : Int) = (i : Int) + 1 from rfl, Nat.add_sub_add_right] at hs3
  have hw1 : IntKind.i64.wrap ((i : Int) + 1) = (i : Int) + 1 := wrap_in _ (by omega) (by omega)
  have hiI : ¬ ((i : Int) = (l.length : Int)) := by omega
  have hrI : (c : Int) < (l.length : Int) + 1 := by omega
  subst hW1
  have hda : (w.alloc (.cells R 32)).drew = w.drew.alloc (.cells R 32) := rfl
  have hE1 : ∀ x, ((w.alloc (.cells R 32)).drew).cell? x = (w.drew.alloc (.cells R 32)).cell? x := fun x => by rw [hda]
  have hE2 : ∀ x, ((w.alloc (.cells R 32)).drew).frozen? x = (w.drew.alloc (.cells R 32)).frozen? x := fun x => by rw [hda]
  have hF1 : ∀ x, (((w.alloc (.cells R 32)).drew.setCells w.heap.size (i * 4) (cR v)).drew).cell? x = ((w.drew.alloc (.cells R 32)).setCells w.heap.size (i * 4) (cR v)).cell? x := fun x => (cell_drew _ x).trans (by rw [hda])
  have hF2 : ∀ x, (((w.alloc (.cells R 32)).drew.setCells w.heap.size (i * 4) (cR v)).drew).frozen? x = ((w.drew.alloc (.cells R 32)).setCells w.heap.size (i * 4) (cR v)).frozen? x := fun x => (fz_drew _ x).trans (by rw [hda])
  clear hda
  clear hkk hik hRl hN hNf hOb hOv hvv hcl hfd hdr hg hvb
  go_enter Try.func26, Try.ntmps26
  go_wp2_with (first
    | (at_builtin; refine Lib.wpList_append_run _ rfl _ _ _ _ rfl _ _ rfl rfl _ _ (hrz _) ?_)
    | (at_builtin; refine wpList_copy_runI _ rfl _ _ 26 26 rfl _ _ rfl rfl (hcpA _ hE1 hE2 _ _) ?_))
  go_region_law (refine copy_step rfl _ _ 26 26 rfl (.slice (some ⟨w.heap.size, (i + 1) * 4, none⟩) (l.length - i) (G - (i + 1))) (.slice (some ⟨g, i * 4, none⟩) (l.length - i) (c - i)) (by simp [Act.eval, Act.put]) (by simp [Act.eval, Act.put]) (hcpB _ hF1 hF2 3 (G - (i + 1)) (c - i)) ?_)
  go_wp2
  go_ret
  exact hfin.out
theorem ins_any (base : Nat) (A : Option Addr) (c : Nat) (l : List MR) (i : Nat) (v : MR) (vb : Nat) (w : World) (hG : GR w base A c l) (hi : i ≤ l.length)
    (hvb : w.heap[vb]? = some (.cells #[.int .u64 v.ts, .int .i64 v.dc, .int .i64 v.tx, .slice v.A v.vs.length v.c] 32 (0, 0))) (hne : (Value.slice A l.length c).ownBlock ≠ some vb) (h9 : l.length ≤ 1000) (hb0 : base ≤ w.heap.size) :
    Calls Try.prog 26 #[.slice A l.length c, .int .i64 i, .slice (some ⟨vb, 0, none⟩) 1 1] w (InR base A c l i v w) := by
  have hv : R4 vb 0 v w := ⟨cell_of_row w vb 0 _ _ (0, 0) hvb, cell_of_row w vb 1 _ _ (0, 0) hvb, cell_of_row w vb 2 _ _ (0, 0) hvb, cell_of_row w vb 3 _ _ (0, 0) hvb⟩
  by_cases he : i = l.length
  · subst he
    exact ins_e base A c l v vb w hG hv h9 hb0
  · rcases hG.2 with ⟨e, h0⟩ | ⟨g, cap, cur, e, hbg, hg, hnc, hcm, hcs, htk⟩
    · omega
    · simp only [Value.slice.injEq] at e
      obtain ⟨rfl, -, rfl⟩ := e
      by_cases hr : l.length + 1 ≤ c
      · exact ins_s base g c l i v vb w cur hbg hg hcm hcs htk hvb (fun e => hne (by rw [e]; rfl)) h9 (by omega) hr
      · exact ins_g base g c l i v vb w cur hb0 hg hcs htk hnc hvb h9 (by omega) (by omega)
end Go.Proofs.Ytipnmgihbpbonaa.ordOg
