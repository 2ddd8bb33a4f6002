/- slices.Insert of one commit into a row of the call's own: its roads. -/
import Derived.Test.YtipnmgihbpbonaaOrdI
import Derived.Shelf.Spec.SlicesInsert
import Derived.Lib.Overlaps
import Derived.Lib.AppendZerosOnto
set_option linter.unusedVariables false
set_option linter.unusedSimpArgs false
set_option maxRecDepth 100000
namespace Go.Proofs.Ytipnmgihbpbonaa.ordN
open Go.ChangeShapes Go.WideShapes Go.ChangeAt Go.RowKit Go.Deep Go.Lib
open opV chnM gen chnA chnR chnE ordA ordB ordC ordCr ordI


theorem blk_sets (g : Nat) (t : TypeId) : ∀ (vs : List Value) (o : Nat) (cs : Array Value) (w : World), w.heap[g]? = some (.cells cs t (0, 0)) → o + vs.length ≤ cs.size →
    ∃ cs' : Array Value, (w.setCells g o vs).heap[g]? = some (.cells cs' t (0, 0)) ∧ cs'.toList = cs.toList.take o ++ vs ++ cs.toList.drop (o + vs.length) ∧ cs'.size = cs.size
  | [], o, cs, w, h, _ => ⟨cs, h, by simp, rfl⟩
  | v :: r, o, cs, w, h, hl => by
    obtain ⟨cs', h1, h2, h3⟩ := blk_sets g t r (o + 1) (cs.setIfInBounds o v) (w.setCell ⟨g, o, none⟩ v) (heap_setCell_same w g o cs t v h) (by simp at hl ⊢; omega)
    refine ⟨cs', h1, ?_, by rw [h3]; simp⟩
    have ho : o < cs.toList.length := by simp at hl ⊢; omega
    rw [h2, Array.toList_setIfInBounds, List.take_succ_eq_append_getElem (by simpa using ho), List.getElem_set_self, List.take_set_of_le (Nat.le_refl o), List.drop_set_of_lt (by omega)]
    simp
    congr 1
    omega
theorem sets_other (g : Nat) : ∀ (vs : List Value) (o : Nat) (w : World) (k : Nat), k ≠ g → (w.setCells g o vs).heap[k]? = w.heap[k]?
  | [], _, _, _, _ => rfl
  | v :: r, o, w, k, h => by rw [World.setCells, sets_other g r _ _ k h]; exact heap_setCell_other _ _ _ _ h
theorem sets_size (g : Nat) : ∀ (vs : List Value) (o : Nat) (w : World), (w.setCells g o vs).heap.size = w.heap.size
  | [], _, _ => rfl
  | v :: r, o, w => by rw [World.setCells, sets_size g r]; simp
theorem sets_same (g : Nat) : ∀ (vs : List Value) (o : Nat) (w : World), (w.setCells g o vs).os = w.os ∧ (w.setCells g o vs).tape = w.tape ∧ (w.setCells g o vs).output = w.output
  | [], _, _ => ⟨rfl, rfl, rfl⟩
  | v :: r, o, w => by
    obtain ⟨h1, h2, h3⟩ := sets_same g r (o + 1) (w.setCell ⟨g, o, none⟩ v)
    exact ⟨h1, h2, h3⟩
theorem sets_grown (w w0 : World) (g o : Nat) (vs : List Value) (h : w.grownBy w0 (some g)) : w.grownBy (w0.setCells g o vs) (some g) := by
  obtain ⟨h1, h2, h3⟩ := sets_same g vs o w0
  exact ⟨h1.trans h.os, h2.trans h.tape, h3.trans h.output, by rw [sets_size]; exact h.size, fun k hk hn => (sets_other g vs o w0 k (fun e => hn (by rw [e]))).trans (h.block k hk hn)⟩
theorem grown_refl (w : World) (row : Option Nat) : w.grownBy w row := ⟨rfl, rfl, rfl, Nat.le_refl _, fun _ _ _ => rfl⟩
theorem grown_drew {w w0 : World} {row : Option Nat} (h : w.grownBy w0 row) : w.grownBy w0.drew row := ⟨h.os, h.tape, h.output, h.size, h.block⟩
theorem cell_of_take {w : World} {g n : Nat} {cur : Array Value} {T : TypeId} {xs : List Value} (hg : w.heap[g]? = some (.cells cur T (0, 0))) (htk : cur.toList.take n = xs) {j : Nat} {v : Value} (h : xs[j]? = some v) : w.cell? ⟨g, j, none⟩ = some v := by
  have hj : j < xs.length := (List.getElem?_eq_some_iff.1 h).1
  unfold World.cell?
  rw [hg]
  simp only [Option.isSome_none, Bool.false_eq_true, if_false]
  rw [← htk, List.getElem?_take] at h
  split at h
  · rw [← h]; simp
  · cases h
theorem cell_in {w : World} {g j : Nat} {cur : Array Value} {T : TypeId} (hg : w.heap[g]? = some (.cells cur T (0, 0))) (hj : j < cur.size) : (w.cell? ⟨g, j, none⟩).isSome = true := by
  unfold World.cell?
  rw [hg]
  simp [hj]
theorem shape_of {w : World} {g : Nat} {cur : Array Value} {T : TypeId} (hg : w.heap[g]? = some (.cells cur T (0, 0))) : w.shape? g = some (T, cur.size) := by
  unfold World.shape?
  rw [hg]
/-- What Insert answers. -/
def InR (base : Nat) (A : Option Addr) (c : Nat) (l : List MR) (i : Nat) (v : MR) (w : World) (e : Ending) (w' : World) : Prop :=
  ∃ A' c', e = .returned (.slice A' (l.length + 1) c') ∧ GR w' base A' c' (insA l i v) ∧ w.grownBy w' (Value.slice A l.length c).ownBlock ∧ ((Value.slice A' (l.length + 1) c').ownBlock = (Value.slice A l.length c).ownBlock ∨ (Value.slice A' (l.length + 1) c').ownBlock = some w.heap.size)
theorem ins_len {l : List MR} {i : Nat} {v : MR} (hi : i ≤ l.length) : (insA l i v).length = l.length + 1 := by unfold insA; simp; omega
theorem gl_ins (l : List MR) (i : Nat) (v : MR) : gl (insA l i v) = (gl l).take (i * 4) ++ (cR v ++ (gl l).drop (i * 4)) := by
  unfold insA; rw [gl_app, gl_cons, gl_take, gl_drop]
theorem num1 (i n p : Nat) (h1 : i < n) (h2 : n + 1 ≤ p) : i * 4 + (n + 1 - i) * 4 + (p - (n + 1)) * 4 = p * 4 := by omega
theorem drew_get (w : World) (g : Nat) : w.drew.heap[g]? = w.heap[g]? := rfl
theorem lst_here {X F V C1 C2 : List Value} {a b : Nat} (hF : F.length = b) (hX : X.take b = F) (ha : a ≤ b) (hV : V.length = 4) (hl : b + 4 ≤ X.length) (h1 : C1 = X.take (a + 4) ++ F.drop a ++ X.drop (b + 4)) (h2 : C2 = C1.take a ++ V ++ C1.drop (a + 4)) :
    C2.take (b + 4) = F.take a ++ (V ++ F.drop a) := by
  have ht : X.take a = F.take a := by rw [← hX, List.take_take, Nat.min_eq_left ha]
  have hc1 : C1.take a = F.take a := by
    rw [h1, List.append_assoc, List.take_append_of_le_length (by simp; omega), List.take_take, Nat.min_eq_left (by omega), ht]
  have hc2 : C1.drop (a + 4) = F.drop a ++ X.drop (b + 4) := by
    rw [h1, List.append_assoc, List.drop_left' (by simp; omega)]
  rw [h2, hc1, hc2, show F.take a ++ V ++ (F.drop a ++ X.drop (b + 4)) = (F.take a ++ (V ++ F.drop a)) ++ X.drop (b + 4) by simp]
  exact List.take_left' (by simp; omega)
theorem lst_grow {F V Y Z C1 C2 : List Value} {a b : Nat} (hF : F.length = b) (ha : a ≤ b) (hV : V.length = 4) (h1 : C1 = (F.take a ++ Y ++ Z).take a ++ V ++ (F.take a ++ Y ++ Z).drop (a + 4)) (h2 : C2 = C1.take (a + 4) ++ F.drop a ++ C1.drop (b + 4)) :
    C2.take (b + 4) = F.take a ++ (V ++ F.drop a) := by
  have e1 : (F.take a ++ Y ++ Z).take a = F.take a := by rw [List.append_assoc, List.take_left' (by simp; omega)]
  have hc1 : C1.take (a + 4) = F.take a ++ V := by rw [h1, e1, List.take_left' (by simp; omega)]
  rw [h2, hc1, show F.take a ++ V ++ F.drop a ++ C1.drop (b + 4) = (F.take a ++ (V ++ F.drop a)) ++ C1.drop (b + 4) by simp]
  exact List.take_left' (by simp; omega)
section
variable {base g c i : Nat} {l : List MR} {v : MR} {w : World} {cur : Array Value}
/-- In place. -/
theorem ins_here (hb : base ≤ g) (hg : w.heap[g]? = some (.cells cur 32 (0, 0))) (hcm : c ≤ maxLen) (hcs : cur.size = c * 4) (htk : cur.toList.take (l.length * 4) = gl l) (hi : i ≤ l.length) (hr : l.length + 1 ≤ c) :
    InR base (some ⟨g, 0, none⟩) c l i v w (.returned (.slice (some ⟨g, 0, none⟩) (l.length + 1) c)) ((w.drew.setCells g ((i + 1) * 4) (gl (l.drop i))).setCells g (i * 4) (cR v)) := by
  have hfl := gl_len l
  have hfd : (gl (l.drop i)).length = (l.length - i) * 4 := by rw [gl_len, List.length_drop]
  have hin := ins_len (v := v) hi
  have hfi := gl_ins l i v
  have hdr : gl (l.drop i) = (gl l).drop (i * 4) := gl_drop l i
  have hV := cR_len v
  have hX : cur.toList.length = c * 4 := by rw [Array.length_toList]; exact hcs
  have hfI : (gl (insA l i v)).length = (l.length + 1) * 4 := by rw [gl_len, hin]
  obtain ⟨c1, h1, h2, h3⟩ := blk_sets g 32 (gl (l.drop i)) ((i + 1) * 4) cur w.drew hg (by rw [hfd, hcs]; clear hcm; omega)
  obtain ⟨c2, h4, h5, h6⟩ := blk_sets g 32 (cR v) (i * 4) c1 _ h1 (by rw [hV, h3, hcs]; clear hcm; omega)
  refine ⟨_, _, rfl, ?_, sets_grown _ _ _ _ _ (sets_grown _ _ _ _ _ (grown_drew (grown_refl w _))), .inl rfl⟩
  unfold GR
  rw [hin]
  refine ⟨hfI, .inr ⟨g, c, c2, rfl, hb, h4, hr, hcm, by rw [h6, h3, hcs], ?_⟩⟩
  rw [hfi, show (l.length + 1) * 4 = l.length * 4 + 4 by clear hcm; omega]
  rw [hfd, show (i + 1) * 4 + (l.length - i) * 4 = l.length * 4 + 4 by clear hcm; omega, show (i + 1) * 4 = i * 4 + 4 by clear hcm; omega, hdr] at h2
  rw [hV] at h5
  exact lst_here hfl htk (by clear hcm; omega) hV (by rw [hX]; clear hcm; omega) h2 h5
/-- In new memory. -/
theorem ins_grow (A : Option Addr) (hb : base ≤ w.heap.size) (hi : i < l.length) (cap : Nat) (hcap : l.length + 1 ≤ cap) (hcm : cap ≤ maxLen) (Y Z : Array Value) (hY : Y.size = (l.length + 1 - i) * 4) (hZ : Z.size = (cap - (l.length + 1)) * 4) :
    InR base A c l i v w (.returned (.slice (some ⟨w.heap.size, 0, none⟩) (l.length + 1) cap)) ((((w.alloc (.cells (((gl l).take (i * 4)).toArray ++ Y ++ Z) 32)).drew.setCells w.heap.size (i * 4) (cR v)).drew).setCells w.heap.size ((i + 1) * 4) (gl (l.drop i))) := by
  have hfl := gl_len l
  have hfd : (gl (l.drop i)).length = (l.length - i) * 4 := by rw [gl_len, List.length_drop]
  have hin := ins_len (v := v) (Nat.le_of_lt hi)
  have hfi := gl_ins l i v
  have hdr : gl (l.drop i) = (gl l).drop (i * 4) := gl_drop l i
  have hV := cR_len v
  have hfI : (gl (insA l i v)).length = (l.length + 1) * 4 := by rw [gl_len, hin]
  have hft : ((gl l).take (i * 4)).length = i * 4 := by rw [List.length_take, hfl]; clear hcm; omega
  have hli : (((gl l).take (i * 4)).toArray ++ Y ++ Z).toList = (gl l).take (i * 4) ++ Y.toList ++ Z.toList := by rw [Array.toList_append, Array.toList_append]
  have hsz : (((gl l).take (i * 4)).toArray ++ Y ++ Z).size = cap * 4 := by rw [← Array.length_toList, hli, List.length_append, List.length_append, hft, Array.length_toList, Array.length_toList, hY, hZ]; exact num1 i l.length cap hi hcap
  obtain ⟨R, hR⟩ : ∃ R, ((gl l).take (i * 4)).toArray ++ Y ++ Z = R := ⟨_, rfl⟩
  rw [hR] at hsz hli ⊢
  clear hR
  obtain ⟨c1, h1, h2, h3⟩ := blk_sets w.heap.size 32 (cR v) (i * 4) R (w.alloc (.cells R 32)).drew (heap_alloc_new w _) (by rw [hsz, hV]; clear hcm; omega)
  obtain ⟨c2, h4, h5, h6⟩ := blk_sets w.heap.size 32 (gl (l.drop i)) ((i + 1) * 4) c1 (((w.alloc (.cells R 32)).drew.setCells w.heap.size (i * 4) (cR v)).drew) ((drew_get _ _).trans h1) (by rw [h3, hsz, hfd]; clear hcm; omega)
  have h0 : w.grownBy (w.alloc (.cells R 32)) (some w.heap.size) := ⟨rfl, rfl, rfl, by simp, fun k hk _ => Below.heap_alloc w _ k hk⟩
  have hg := sets_grown w _ w.heap.size ((i + 1) * 4) (gl (l.drop i)) (grown_drew (sets_grown w _ w.heap.size (i * 4) (cR v) (grown_drew h0)))
  refine ⟨_, _, rfl, ?_, ⟨hg.os, hg.tape, hg.output, hg.size, fun k hk _ => hg.block k hk (fun e => by cases e; exact absurd hk (Nat.lt_irrefl _))⟩, .inr rfl⟩
  unfold GR
  rw [hin]
  refine ⟨hfI, .inr ⟨w.heap.size, cap, c2, rfl, hb, h4, hcap, hcm, by rw [h6, h3, hsz], ?_⟩⟩
  rw [hfi, show (l.length + 1) * 4 = l.length * 4 + 4 by clear hcm; omega]
  rw [hfd, show (i + 1) * 4 + (l.length - i) * 4 = l.length * 4 + 4 by clear hcm; omega, show (i + 1) * 4 = i * 4 + 4 by clear hcm; omega, hdr] at h5
  rw [hV, hli] at h2
  exact lst_grow hfl (by clear hcm; omega) hV h2 h5
end
end Go.Proofs.Ytipnmgihbpbonaa.ordN
