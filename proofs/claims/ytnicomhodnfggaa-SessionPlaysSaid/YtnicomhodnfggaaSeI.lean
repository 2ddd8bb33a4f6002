/- slices.Insert of one version into a row of the call's own: in place, at the end, in new memory. -/
import Derived.Test.YtnicomhodnfggaaOrdE
import Derived.Lib.AppendZerosOnto
import Derived.Laws.IdiomCopy
import Derived.Laws.NewBlocks
import Derived.Deep.RegionLaw
import Derived.Shelf.Spec.SlicesInsert
import Derived.Lib.Overlaps
set_option linter.unusedVariables false
set_option linter.unusedSimpArgs false
set_option maxRecDepth 100000
namespace Go.Proofs.Ytnicomhodnfggaa.seI
open Go.ChangeShapes Go.WideShapes Go.ChangeAt Go.RowKit Go.Deep Go.Lib
open opV chnM gen chnA chnR chnE

theorem run_copy6 {P : Program} (w : World) (dT sT ty elem : TypeId) (b o dLen dCap : Nat) (a : Addr) (sLen sCap : Nat) (cs : List Value)
    (hu : P.underlying dT = some (.slice elem)) (hs : (P.info? elem).map (·.size) = some 6) (hn : cs.length = Nat.min sLen dLen * 6)
    (hsrc : ∀ j v, cs[j]? = some v → w.cell? (a.add j) = some v) (hc : ∀ j, j < cs.length → (w.cell? ⟨b, o + j, none⟩).isSome = true) (hf : ∀ j, j < cs.length → w.frozen? ⟨b, o + j, none⟩ = false) (h1 : ∀ v ∈ cs, v.oneCell' = true) :
    (Builtin.copy_ #[dT, sT] ty #[.slice (some ⟨b, o, none⟩) dLen dCap, .slice (some a) sLen sCap]).run P w = .ok (goInt (Nat.min sLen dLen)) (w.setCells b o cs) := by
  have hl := run_loadCells_list (P := P) w a cs hsrc
  have hst := run_storeCells_cells (P := P) b o cs 0 w (by simpa using hc) (by simpa using hf) h1
  cases hq : P.info? elem with
  | none => simp [hq] at hs
  | some i =>
    have hi : i.size = 6 := by simpa [hq] using hs
    simp [Builtin.copy_, run_underlying hu, Builtin.lenOf, Builtin.firstCells, sizeOf, typeInfo, hq, hi, ← hn, hl, hst]
theorem slice_to (A : Option Addr) (n c i : Nat) (h : i ≤ c) (w : World) : (Instr.slice 27 (.slice A n c) none (some (.int .i64 (i : Int))) none).run Try.prog w = .ok (.slice A i c) w := by
  have ht : Try.prog.underlying 27 = some (.slice (Try.prog.elem 27)) := by kernel_rfl
  have hs : ∀ w, (sizeOf (Try.prog.elem 27)).run Try.prog w = .ok 6 w := fun _ => by kernel_rfl
  rw [run_slice_h w 27 A n c ht .i64 (i : Int) (by omega) (by omega), hs]
  cases A <;> simp [Result.andThen, sliced, Addr.add_zero']
def fromA (A : Option Addr) (c i : Nat) : Option Addr := if c = i then A else A.map (·.add (i * 6))
theorem slice_from (A : Option Addr) (n c i : Nat) (h : i ≤ n) (w : World) : (Instr.slice 27 (.slice A n c) (some (.int .i64 (i : Int))) none none).run Try.prog w = .ok (.slice (fromA A c i) (n - i) (c - i)) w := by
  have ht : Try.prog.underlying 27 = some (.slice (Try.prog.elem 27)) := by kernel_rfl
  have hs : ∀ w, (sizeOf (Try.prog.elem 27)).run Try.prog w = .ok 6 w := fun _ => by kernel_rfl
  rw [run_slice_l w 27 A n c ht .i64 (i : Int) (by omega) (by omega), hs]
  unfold fromA
  simp [Result.andThen, sliced]

theorem blk_sets (g : Nat) (t : TypeId) : ∀ (vs : List Value) (o : Nat) (cs : Array Value) (w : World), w.heap[g]? = some (.cells cs t (0, 0)) → o + vs.length ≤ cs.size →
    ∃ cs' : Array Value, (w.setCells g o vs).heap[g]? = some (.cells cs' t (0, 0)) ∧ cs'.toList = cs.toList.take o ++ vs ++ cs.toList.drop (o + vs.length) ∧ cs'.size = cs.size
  | [], o, cs, w, h, _ => ⟨cs, h, by simp, rfl⟩
  | v :: r, o, cs, w, h, hl => by
    obtain ⟨cs', h1, h2, h3⟩ := blk_sets g t r (o + 1) (cs.setIfInBounds o v) (w.setCell ⟨g, o, none⟩ v) (heap_setCell_same w g o cs t v h) (by simp at hl ⊢; omega)
    refine ⟨cs', h1, ?_, by rw [h3]; simp⟩
    have ho : o < cs.toList.length := by simp at hl ⊢; omega
    rw [h2, Array.toList_setIfInBounds, List.take_succ_eq_append_getElem (by simpa using ho), List.getElem_set_self, List.take_set_of_le (Nat.le_refl o), List.drop_set_of_lt (by omega)]
    simp
    congr 1
    omega
theorem sets_other (g : Nat) : ∀ (vs : List Value) (o : Nat) (w : World) (k : Nat), k ≠ g → (w.setCells g o vs).heap[k]? = w.heap[k]?
  | [], _, _, _, _ => rfl
  | v :: r, o, w, k, h => by rw [World.setCells, sets_other g r _ _ k h]; exact heap_setCell_other _ _ _ _ h
theorem sets_size (g : Nat) : ∀ (vs : List Value) (o : Nat) (w : World), (w.setCells g o vs).heap.size = w.heap.size
  | [], _, _ => rfl
  | v :: r, o, w => by rw [World.setCells, sets_size g r]; simp
theorem sets_same (g : Nat) : ∀ (vs : List Value) (o : Nat) (w : World), (w.setCells g o vs).os = w.os ∧ (w.setCells g o vs).tape = w.tape ∧ (w.setCells g o vs).output = w.output
  | [], _, _ => ⟨rfl, rfl, rfl⟩
  | v :: r, o, w => by
    obtain ⟨h1, h2, h3⟩ := sets_same g r (o + 1) (w.setCell ⟨g, o, none⟩ v)
    exact ⟨h1, h2, h3⟩
theorem sets_grown (w w0 : World) (g o : Nat) (vs : List Value) (h : w.grownBy w0 (some g)) : w.grownBy (w0.setCells g o vs) (some g) := by
  obtain ⟨h1, h2, h3⟩ := sets_same g vs o w0
  exact ⟨h1.trans h.os, h2.trans h.tape, h3.trans h.output, by rw [sets_size]; exact h.size, fun k hk hn => (sets_other g vs o w0 k (fun e => hn (by rw [e]))).trans (h.block k hk hn)⟩
theorem grown_refl (w : World) (row : Option Nat) : w.grownBy w row := ⟨rfl, rfl, rfl, Nat.le_refl _, fun _ _ _ => rfl⟩
theorem grown_drew {w w0 : World} {row : Option Nat} (h : w.grownBy w0 row) : w.grownBy w0.drew row := ⟨h.os, h.tape, h.output, h.size, h.block⟩
theorem cell_of_take {w : World} {g n : Nat} {cur : Array Value} {T : TypeId} {xs : List Value} (hg : w.heap[g]? = some (.cells cur T (0, 0))) (htk : cur.toList.take n = xs) {j : Nat} {v : Value} (h : xs[j]? = some v) : w.cell? ⟨g, j, none⟩ = some v := by
  have hj : j < xs.length := (List.getElem?_eq_some_iff.1 h).1
  unfold World.cell?
  rw [hg]
  simp only [Option.isSome_none, Bool.false_eq_true, if_false]
  rw [← htk, List.getElem?_take] at h
  split at h
  · rw [← h]; simp
  · cases h
theorem cell_in {w : World} {g j : Nat} {cur : Array Value} {T : TypeId} (hg : w.heap[g]? = some (.cells cur T (0, 0))) (hj : j < cur.size) : (w.cell? ⟨g, j, none⟩).isSome = true := by
  unfold World.cell?
  rw [hg]
  simp [hj]
theorem shape_of {w : World} {g : Nat} {cur : Array Value} {T : TypeId} (hg : w.heap[g]? = some (.cells cur T (0, 0))) : w.shape? g = some (T, cur.size) := by
  unfold World.shape?
  rw [hg]
/-- What Insert answers. -/
def InV (base : Nat) (A : Option Addr) (c : Nat) (l : List Ver) (i : Nat) (v : Ver) (w : World) (e : Ending) (w' : World) : Prop :=
  ∃ A' c', e = .returned (.slice A' (l.length + 1) c') ∧ GV w' base A' c' (insA l i v) ∧ w.grownBy w' (Value.slice A l.length c).ownBlock ∧ ((Value.slice A' (l.length + 1) c').ownBlock = (Value.slice A l.length c).ownBlock ∨ (Value.slice A' (l.length + 1) c').ownBlock = some w.heap.size)
theorem ins_len {l : List Ver} {i : Nat} {v : Ver} (hi : i ≤ l.length) : (insA l i v).length = l.length + 1 := by unfold insA; simp; omega
theorem fl_ins (l : List Ver) (i : Nat) (v : Ver) : fl (insA l i v) = (fl l).take (i * 6) ++ (cL v ++ (fl l).drop (i * 6)) := by
  unfold insA; rw [fl_app, fl_cons, fl_take, fl_drop]
theorem num1 (i n p : Nat) (h1 : i < n) (h2 : n + 1 ≤ p) : i * 6 + (n + 1 - i) * 6 + (p - (n + 1)) * 6 = p * 6 := by omega
theorem drew_get (w : World) (g : Nat) : w.drew.heap[g]? = w.heap[g]? := rfl
theorem lst_here {X F V C1 C2 : List Value} {a b : Nat} (hF : F.length = b) (hX : X.take b = F) (ha : a ≤ b) (hV : V.length = 6) (hl : b + 6 ≤ X.length) (h1 : C1 = X.take (a + 6) ++ F.drop a ++ X.drop (b + 6)) (h2 : C2 = C1.take a ++ V ++ C1.drop (a + 6)) :
    C2.take (b + 6) = F.take a ++ (V ++ F.drop a) := by
  have ht : X.take a = F.take a := by rw [← hX, List.take_take, Nat.min_eq_left ha]
  have hc1 : C1.take a = F.take a := by
    rw [h1, List.append_assoc, List.take_append_of_le_length (by simp; omega), List.take_take, Nat.min_eq_left (by omega), ht]
  have hc2 : C1.drop (a + 6) = F.drop a ++ X.drop (b + 6) := by
    rw [h1, List.append_assoc, List.drop_left' (by simp; omega)]
  rw [h2, hc1, hc2, show F.take a ++ V ++ (F.drop a ++ X.drop (b + 6)) = (F.take a ++ (V ++ F.drop a)) ++ X.drop (b + 6) by simp]
  exact List.take_left' (by simp; omega)
theorem lst_grow {F V Y Z C1 C2 : List Value} {a b : Nat} (hF : F.length = b) (ha : a ≤ b) (hV : V.length = 6) (h1 : C1 = (F.take a ++ Y ++ Z).take a ++ V ++ (F.take a ++ Y ++ Z).drop (a + 6)) (h2 : C2 = C1.take (a + 6) ++ F.drop a ++ C1.drop (b + 6)) :
    C2.take (b + 6) = F.take a ++ (V ++ F.drop a) := by
  have e1 : (F.take a ++ Y ++ Z).take a = F.take a := by rw [List.append_assoc, List.take_left' (by simp; omega)]
  have hc1 : C1.take (a + 6) = F.take a ++ V := by rw [h1, e1, List.take_left' (by simp; omega)]
  rw [h2, hc1, show F.take a ++ V ++ F.drop a ++ C1.drop (b + 6) = (F.take a ++ (V ++ F.drop a)) ++ C1.drop (b + 6) by simp]
  exact List.take_left' (by simp; omega)
section
variable {base g c i : Nat} {l : List Ver} {v : Ver} {w : World} {cur : Array Value}
/-- In place. -/
theorem ins_here (hb : base ≤ g) (hg : w.heap[g]? = some (.cells cur 41 (0, 0))) (hcm : c ≤ maxLen) (hcs : cur.size = c * 6) (htk : cur.toList.take (l.length * 6) = fl l) (hi : i ≤ l.length) (hr : l.length + 1 ≤ c) :
    InV base (some ⟨g, 0, none⟩) c l i v w (.returned (.slice (some ⟨g, 0, none⟩) (l.length + 1) c)) ((w.drew.setCells g ((i + 1) * 6) (fl (l.drop i))).setCells g (i * 6) (cL v)) := by
  have hfl := fl_len l
  have hfd : (fl (l.drop i)).length = (l.length - i) * 6 := by rw [fl_len, List.length_drop]
  have hin := ins_len (v := v) hi
  have hfi := fl_ins l i v
  have hdr : fl (l.drop i) = (fl l).drop (i * 6) := fl_drop l i
  have hV := cL_len v
  have hX : cur.toList.length = c * 6 := by rw [Array.length_toList]; exact hcs
  have hfI : (fl (insA l i v)).length = (l.length + 1) * 6 := by rw [fl_len, hin]
  obtain ⟨c1, h1, h2, h3⟩ := blk_sets g 41 (fl (l.drop i)) ((i + 1) * 6) cur w.drew hg (by rw [hfd, hcs]; clear hcm; omega)
  obtain ⟨c2, h4, h5, h6⟩ := blk_sets g 41 (cL v) (i * 6) c1 _ h1 (by rw [hV, h3, hcs]; clear hcm; omega)
  refine ⟨_, _, rfl, ?_, sets_grown _ _ _ _ _ (sets_grown _ _ _ _ _ (grown_drew (grown_refl w _))), .inl rfl⟩
  unfold GV
  rw [hin]
  refine ⟨hfI, .inr ⟨g, c, c2, rfl, hb, h4, hr, hcm, by rw [h6, h3, hcs], ?_⟩⟩
  rw [hfi, show (l.length + 1) * 6 = l.length * 6 + 6 by clear hcm; omega]
  rw [hfd, show (i + 1) * 6 + (l.length - i) * 6 = l.length * 6 + 6 by clear hcm; omega, show (i + 1) * 6 = i * 6 + 6 by clear hcm; omega, hdr] at h2
  rw [hV] at h5
  exact lst_here hfl htk (by clear hcm; omega) hV (by rw [hX]; clear hcm; omega) h2 h5
/-- In new memory. -/
theorem ins_grow (A : Option Addr) (hb : base ≤ w.heap.size) (hi : i < l.length) (cap : Nat) (hcap : l.length + 1 ≤ cap) (hcm : cap ≤ maxLen) (Y Z : Array Value) (hY : Y.size = (l.length + 1 - i) * 6) (hZ : Z.size = (cap - (l.length + 1)) * 6) :
    InV base A c l i v w (.returned (.slice (some ⟨w.heap.size, 0, none⟩) (l.length + 1) cap)) ((((w.alloc (.cells (((fl l).take (i * 6)).toArray ++ Y ++ Z) 41)).drew.setCells w.heap.size (i * 6) (cL v)).drew).setCells w.heap.size ((i + 1) * 6) (fl (l.drop i))) := by
  have hfl := fl_len l
  have hfd : (fl (l.drop i)).length = (l.length - i) * 6 := by rw [fl_len, List.length_drop]
  have hin := ins_len (v := v) (Nat.le_of_lt hi)
  have hfi := fl_ins l i v
  have hdr : fl (l.drop i) = (fl l).drop (i * 6) := fl_drop l i
  have hV := cL_len v
  have hfI : (fl (insA l i v)).length = (l.length + 1) * 6 := by rw [fl_len, hin]
  have hft : ((fl l).take (i * 6)).length = i * 6 := by rw [List.length_take, hfl]; clear hcm; omega
  have hli : (((fl l).take (i * 6)).toArray ++ Y ++ Z).toList = (fl l).take (i * 6) ++ Y.toList ++ Z.toList := by rw [Array.toList_append, Array.toList_append]
  have hsz : (((fl l).take (i * 6)).toArray ++ Y ++ Z).size = cap * 6 := by rw [← Array.length_toList, hli, List.length_append, List.length_append, hft, Array.length_toList, Array.length_toList, hY, hZ]; exact num1 i l.length cap hi hcap
  obtain ⟨R, hR⟩ : ∃ R, ((fl l).take (i * 6)).toArray ++ Y ++ Z = R := ⟨_, rfl⟩
  rw [hR] at hsz hli ⊢
  clear hR
  obtain ⟨c1, h1, h2, h3⟩ := blk_sets w.heap.size 41 (cL v) (i * 6) R (w.alloc (.cells R 41)).drew (heap_alloc_new w _) (by rw [hsz, hV]; clear hcm; omega)
  obtain ⟨c2, h4, h5, h6⟩ := blk_sets w.heap.size 41 (fl (l.drop i)) ((i + 1) * 6) c1 (((w.alloc (.cells R 41)).drew.setCells w.heap.size (i * 6) (cL v)).drew) ((drew_get _ _).trans h1) (by rw [h3, hsz, hfd]; clear hcm; omega)
  have h0 : w.grownBy (w.alloc (.cells R 41)) (some w.heap.size) := ⟨rfl, rfl, rfl, by simp, fun k hk _ => Below.heap_alloc w _ k hk⟩
  have hg := sets_grown w _ w.heap.size ((i + 1) * 6) (fl (l.drop i)) (grown_drew (sets_grown w _ w.heap.size (i * 6) (cL v) (grown_drew h0)))
  refine ⟨_, _, rfl, ?_, ⟨hg.os, hg.tape, hg.output, hg.size, fun k hk _ => hg.block k hk (fun e => by cases e; exact absurd hk (Nat.lt_irrefl _))⟩, .inr rfl⟩
  unfold GV
  rw [hin]
  refine ⟨hfI, .inr ⟨w.heap.size, cap, c2, rfl, hb, h4, hcap, hcm, by rw [h6, h3, hsz], ?_⟩⟩
  rw [hfi, show (l.length + 1) * 6 = l.length * 6 + 6 by clear hcm; omega]
  rw [hfd, show (i + 1) * 6 + (l.length - i) * 6 = l.length * 6 + 6 by clear hcm; omega, show (i + 1) * 6 = i * 6 + 6 by clear hcm; omega, hdr] at h5
  rw [hV, hli] at h2
  exact lst_grow hfl (by clear hcm; omega) hV h2 h5
end

theorem stand_one {w : World} {b : Nat} {v : Ver} (h : V6 b 0 v w) : Stand w (some ⟨b, 0, none⟩) 1 (cL v) := .inr ⟨_, rfl, fun j u hu => by
  rw [add_plain]
  exact V6.at h hu⟩
theorem fl_ins_end (l : List Ver) (v : Ver) : fl (insA l l.length v) = fl l ++ cL v := by
  unfold insA; rw [List.take_length, List.drop_length, fl_app, fl_one]
theorem from_some {g c i : Nat} (h : c ≠ i) : fromA (some ⟨g, 0, none⟩) c i = some ⟨g, i * 6, none⟩ := by
  unfold fromA; rw [if_neg h]; simp [Addr.add]; omega
theorem size6 : (Try.prog.info? 41).map (·.size) = some 6 := by kernel_rfl
theorem copy_step {P : Program} {ops : Array Oper} {o : Oper} {a : Act} {w : World} {K : Act → World → Prop} {Q : Exit → Act → World → Prop} {E : Prop}
    (hg : o.guard = none) (d x : Operand) (dT sT : TypeId) (hop : o.op = Op.call { callee := Callee.builtin Builtin.copy, args := #[d, x], argTypes := #[dT, sT] })
    (v u : Value) (hd : a.eval d = v) (hx : a.eval x = u) {v' : Value} {w' : World} (hr : (Builtin.copy_ #[dT, sT] o.type #[v, u]).run P w = .ok v' w') (hK : K (a.put o.dst v') w') :
    if Region.wanted o (yielded ops a.tmps) = true then Oper.wp P o a w K Q else E := step_copy_runI hg d x dT sT hop v u hd hx hr hK
set_option maxRecDepth 100000 in
set_option maxHeartbeats 2000000 in
theorem ins_e (base : Nat) (A : Option Addr) (c : Nat) (l : List Ver) (v : Ver) (vb : Nat) (w : World) (hG : GV w base A c l) (hv : V6 vb 0 v w) (h9 : l.length ≤ 1000) (hb0 : base ≤ w.heap.size) :
    Calls Try.prog 29 #[.slice A l.length c, .int .i64 l.length, .slice (some ⟨vb, 0, none⟩) 1 1] w (InV base A c l l.length v w) := by
  obtain ⟨iV, hiV, hzV0, hzV1, hzV2⟩ := info_parts infoV
  have hs2 := slice_from A l.length c l.length (Nat.le_refl _)
  have hst := Lib.hid (stand_one hv)
  have hone := Lib.hid (cL_one v)
  have hcl := Lib.hid (show (cL v).length = 1 * 6 from rfl)
  have hls : Hid (l.length + 1 ≤ maxLen ∧ (l.length + 1) * 64 ≤ 140737488355328) := Lib.hid ⟨by unfold maxLen; omega, by omega⟩
  have hfin := Lib.hid (show ∀ A9 c9 w9, w9.ownsRow base 41 6 (.slice A9 (l.length + 1) c9) (l.length + 1) (fl l ++ cL v) → w.grownBy w9 (Value.slice A l.length c).ownBlock → ((Value.slice A9 (l.length + 1) c9).ownBlock = (Value.slice A l.length c).ownBlock ∨ (Value.slice A9 (l.length + 1) c9).ownBlock = some w.heap.size) → InV base A c l l.length v w (.returned (.slice A9 (l.length + 1) c9)) w9 from fun A9 c9 w9 ho hg hat => by
    refine ⟨A9, c9, rfl, ?_, hg, hat⟩
    unfold GV
    rw [ins_len (Nat.le_refl _), fl_ins_end]
    exact ho)
  replace hG := Lib.hid hG
  clear hv
  generalize fromA A c l.length = A2 at *
  go_enter Try.func29, Try.ntmps29
  go_wp2_with (at_builtin; refine wpList_gen rfl (.tmp 23) (.tmp 24) 27 rfl base 41 iV _ 6 64 Try.underlying27 hiV hzV0 hzV1 hzV2 rfl (by decide) _ l.length (fl l) (by rfl) hG.out (some ⟨vb, 0, none⟩) 1 1 (cL v) (by rfl) hcl.out hst.out hone.out hls.out.1 hls.out.2 hb0 ?_; intro A9 c9 w9 hr9 hg9 hat9; have hF := Lib.hid (hfin.out A9 c9 w9 hr9 hg9 hat9); clear hr9 hg9 hat9)
  go_ret
  exact hF.out
set_option maxRecDepth 100000 in
set_option maxHeartbeats 4000000 in
theorem ins_s (base g c : Nat) (l : List Ver) (i : Nat) (v : Ver) (vb : Nat) (w : World) (cur : Array Value) (hb : base ≤ g) (hg : w.heap[g]? = some (.cells cur 41 (0, 0))) (hcm : c ≤ maxLen) (hcs : cur.size = c * 6) (htk : cur.toList.take (l.length * 6) = fl l)
    (hvb : w.heap[vb]? = some (.cells #[.string v.key, .string v.val, .bool v.gone, .int .u64 v.ts, .int .i64 v.dc, .int .i64 v.tx] 41 (0, 0))) (hne : vb ≠ g) (h9 : l.length ≤ 1000) (hi : i < l.length) (hr : l.length + 1 ≤ c) :
    Calls Try.prog 29 #[.slice (some ⟨g, 0, none⟩) l.length c, .int .i64 i, .slice (some ⟨vb, 0, none⟩) 1 1] w (InV base (some ⟨g, 0, none⟩) c l i v w) := by
  have hfin := Lib.hid (ins_here (v := v) hb hg hcm hcs htk (Nat.le_of_lt hi) hr)
  have hc9 : c ≤ 9223372036854775807 := by unfold maxLen at hcm; exact hcm
  have hs0 := slice_from (some ⟨g, 0, none⟩) l.length c i (Nat.le_of_lt hi)
  rw [from_some (by omega)] at hs0
  have hs1 := slice_to (some ⟨g, 0, none⟩) l.length c (l.length + 1) hr
  have hs2 := slice_from (some ⟨g, 0, none⟩) (l.length + 1) c (i + 1) (by omega)
  rw [from_some (by omega)] at hs2
  have hs3 := slice_from (some ⟨g, 0, none⟩) (l.length + 1) c i (by omega)
  rw [from_some (by omega)] at hs3
  rw [show ((l.length + 1 : Nat) : Int) = (l.length : Int) + 1 from rfl] at hs1
  rw [show ((i + 1 : Nat) : Int) = (i : Int) + 1 from rfl, Nat.add_sub_add_right] at hs2
  have hov : ∀ lb cb, (callFunc 38 #[.slice (some ⟨vb, 0, none⟩) 1 1, .slice (some ⟨g, (i + 1) * 6, none⟩) lb cb]).run Try.prog w = .ok (.value (.bool false)) w := fun lb cb => by
    rw [run_callFunc_extern Try.func38 (by kernel_rfl) (by kernel_rfl) (by kernel_rfl) (e := Extern.SlicesOverlaps.overlaps #[27, 27] #[4]) (by kernel_rfl),
      Lib.run_overlaps_apart w 27 4 41 Try.underlying27 6 Try.sizeOf41 ⟨vb, 0, none⟩ ⟨g, (i + 1) * 6, none⟩ 1 1 lb cb hne _ _ _ _ (shape_of hvb) (shape_of hg) (by omega) (frozen_of_row w vb _ _ _ hvb) (frozen_of_row w vb _ _ _ hvb)]
    rfl
  have hfd : (fl (l.drop i)).length = (l.length - i) * 6 := by rw [fl_len, List.length_drop]
  have hcl : ∀ j u, (fl l)[j]? = some u → w.cell? ⟨g, j, none⟩ = some u := fun j u h => cell_of_take hg htk h
  have hdr : fl (l.drop i) = (fl l).drop (i * 6) := fl_drop l i
  have hcp1 : ∀ ty dc sc, (Builtin.copy_ #[27, 27] ty #[.slice (some ⟨g, (i + 1) * 6, none⟩) (l.length - i) dc, .slice (some ⟨g, i * 6, none⟩) (l.length + 1 - i) sc]).run Try.prog w.drew = .ok (goInt (Nat.min (l.length + 1 - i) (l.length - i))) (w.drew.setCells g ((i + 1) * 6) (fl (l.drop i))) := fun ty dc sc =>
    run_copy6 w.drew _ _ ty 41 g ((i + 1) * 6) (l.length - i) dc ⟨g, i * 6, none⟩ (l.length + 1 - i) sc (fl (l.drop i)) Try.underlying27 size6 (by rw [hfd]; congr 1; simp only [Nat.min_def]; split <;> omega)
      (fun j u hj => by
        rw [Addr.add_lit]
        rw [hdr, List.getElem?_drop] at hj
        exact hcl _ u hj)
      (fun j hj => cell_in (w := w.drew) hg (by rw [hfd] at hj; omega)) (fun j _ => frozen_of_row w g _ cur _ hg) (fl_all _)
  obtain ⟨W1, hW1⟩ : ∃ W1, W1 = w.drew.setCells g ((i + 1) * 6) (fl (l.drop i)) := ⟨_, rfl⟩
  have hsp1 : ∀ k, k < c * 6 → (W1.cell? ⟨g, k, none⟩).isSome = true := fun k hk => by
    rw [hW1]
    exact isSome_setCells g _ _ _ (fun j hj => cell_in (w := w.drew) hg (by rw [hfd] at hj; omega)) _ (cell_in (w := w.drew) hg (by omega))
  have hvv : ∀ j u, (cL v)[j]? = some u → w.cell? ⟨vb, j, none⟩ = some u := fun j u hj => (cell_of_row w vb j _ _ (0, 0) hvb).trans (by rw [← hj]; simp [cL])
  have hcp2 : ∀ ty dc, (Builtin.copy_ #[27, 27] ty #[.slice (some ⟨g, i * 6, none⟩) (l.length + 1 - i) dc, .slice (some ⟨vb, 0, none⟩) 1 1]).run Try.prog W1 = .ok (goInt (Nat.min 1 (l.length + 1 - i))) (W1.setCells g (i * 6) (cL v)) := fun ty dc =>
    run_copy6 W1 _ _ ty 41 g (i * 6) (l.length + 1 - i) dc ⟨vb, 0, none⟩ 1 1 (cL v) Try.underlying27 size6 (by rw [cL_len]; simp only [Nat.min_def]; split <;> omega)
      (fun j u hj => by
        rw [Addr.add_lit, Nat.zero_add, hW1, World.cell?_setCells_out g _ _ _ _ (fun h _ => absurd h hne)]
        exact hvv j u hj)
      (fun j hj => hsp1 _ (by rw [cL_len] at hj; omega)) (fun j hj => by rw [hW1, World.frozen?_setCells]; exact frozen_of_row w g _ cur _ hg) (cL_one v)
  rw [← hW1] at hcp1 hfin
  replace hW1 := Lib.hid hW1
  clear hsp1 hvv hcl hdr hfd hvb hg htk hcs hcm
  have hiI : ¬ ((i : Int) = (l.length : Int)) := by omega
  have hw1 : IntKind.i64.wrap ((i : Int) + 1) = (i : Int) + 1 := wrap_in _ (by omega) (by omega)
  have hrI : ¬ ((c : Int) < (l.length : Int) + 1) := by omega
  go_enter Try.func29, Try.ntmps29
  go_wp2_with (simp only [hov])
  go_region_law (refine copy_step rfl _ _ 27 27 rfl _ _ (by simp [Act.eval, Act.put]) (by simp [Act.eval, Act.put]) (hcp1 _ _ _) ?_)
  go_wp2_with (at_builtin; refine wpList_copy_runI _ rfl _ _ 27 27 rfl _ _ rfl rfl (hcp2 _ _) ?_)
  go_ret
  exact hfin.out

theorem cell_drew (w : World) (x : Addr) : w.drew.cell? x = w.cell? x := rfl
theorem fz_drew (w : World) (x : Addr) : w.drew.frozen? x = w.frozen? x := rfl
def zV : Value := .agg #[.string { data := #[] }, .string { data := #[] }, .bool false, .int .u64 0, .int .i64 0, .int .i64 0]
theorem zV_size (k : Nat) : (Builtin.zeroCells zV.cells k).size = k * 6 := by rw [size_zeroCells]; simp [zV, Value.cells]
set_option maxRecDepth 100000 in
set_option maxHeartbeats 4000000 in
theorem ins_g (base g c : Nat) (l : List Ver) (i : Nat) (v : Ver) (vb : Nat) (w : World) (cur : Array Value) (hb0 : base ≤ w.heap.size) (hg : w.heap[g]? = some (.cells cur 41 (0, 0))) (hcs : cur.size = c * 6) (htk : cur.toList.take (l.length * 6) = fl l) (hlc : l.length ≤ c)
    (hvb : w.heap[vb]? = some (.cells #[.string v.key, .string v.val, .bool v.gone, .int .u64 v.ts, .int .i64 v.dc, .int .i64 v.tx] 41 (0, 0))) (h9 : l.length ≤ 1000) (hi : i < l.length) (hr : c < l.length + 1) :
    Calls Try.prog 29 #[.slice (some ⟨g, 0, none⟩) l.length c, .int .i64 i, .slice (some ⟨vb, 0, none⟩) 1 1] w (InV base (some ⟨g, 0, none⟩) c l i v w) := by
  obtain ⟨iV, hiV, hzV0, hzV1, hzV2⟩ := info_parts infoV
  have hgw : g < w.heap.size := (Array.getElem?_eq_some_iff.1 hg).1
  have hvw : vb < w.heap.size := (Array.getElem?_eq_some_iff.1 hvb).1
  have hcl : ∀ j u, (fl l)[j]? = some u → w.cell? ⟨g, j, none⟩ = some u := fun j u h => cell_of_take hg htk h
  have hft : ((fl l).take (i * 6)).length = i * 6 := by rw [List.length_take, fl_len]; omega
  have hold : (Builtin.firstCells iV.size i (.slice (some ⟨g, 0, none⟩) i c)).run Try.prog w.drew = .ok ((fl l).take (i * 6)).toArray w.drew := by
    rw [hzV1]
    exact run_firstCells_some w.drew 6 i ⟨g, 0, none⟩ i c ((fl l).take (i * 6)) hft (fun j u hj => by
      rw [Addr.add_lit, Nat.zero_add]
      rw [List.getElem?_take] at hj
      split at hj
      · exact hcl j u hj
      · cases hj)
  have hik : i + (l.length + 1 - i) = l.length + 1 := by omega
  have hkk : (l.length : Int) + 1 - (i : Int) = ((l.length + 1 - i : Nat) : Int) := by omega
  have hrz : ∀ ty, (Builtin.append_ #[27, 3] ty #[.slice (some ⟨g, 0, none⟩) i c, .int .i64 ((l.length : Int) + 1 - (i : Int))]).run Try.prog w =
      .ok (.slice (some ⟨w.heap.size, 0, none⟩) (l.length + 1) (grownCap w (l.length + 1) c 41)) (w.drew.alloc (.cells (((fl l).take (i * 6)).toArray ++ Builtin.zeroCells zV.cells (l.length + 1 - i) ++ Builtin.zeroCells zV.cells (grownCap w (l.length + 1) c 41 - (l.length + 1))) 41)) := fun ty => by
    have h := Lib.run_append_grow_zeros (P := Try.prog) w 27 3 ty 41 iV zV .i64 .i64 Try.underlying27 Try.underlying3 hiV hzV0 (some ⟨g, 0, none⟩) i c ((fl l).take (i * 6)) hold (l.length + 1 - i) (by omega) (by omega) (by omega) (by omega) (by rw [hzV2]; omega) (by rw [hzV2, hik]; exact growslice_fits (by omega) (by omega))
    rw [hik] at h
    rw [hkk]
    exact h
  have hge := grownCap_ge w (l.length + 1) c 41
  have hgl := grownCap_le_maxLen w (l.length + 1) c 41 (by unfold maxLen; omega)
  generalize grownCap w (l.length + 1) c 41 = G at *
  have hG9 : G ≤ 9223372036854775807 := by unfold maxLen at hgl; exact hgl
  have hfin := Lib.hid (ins_grow (c := c) (v := v) (some ⟨g, 0, none⟩) hb0 hi G hge hgl (Builtin.zeroCells zV.cells (l.length + 1 - i)) (Builtin.zeroCells zV.cells (G - (l.length + 1))) (zV_size _) (zV_size _))
  have hRl : (((fl l).take (i * 6)).toArray ++ Builtin.zeroCells zV.cells (l.length + 1 - i) ++ Builtin.zeroCells zV.cells (G - (l.length + 1))).size = G * 6 := by
    rw [Array.size_append, Array.size_append, List.size_toArray, hft, zV_size, zV_size]; exact num1 i l.length G hi hge
  generalize ((fl l).take (i * 6)).toArray ++ Builtin.zeroCells zV.cells (l.length + 1 - i) ++ Builtin.zeroCells zV.cells (G - (l.length + 1)) = R at *
  clear hgl hold hft htk hcs
  obtain ⟨W1, hW1⟩ : ∃ W1, W1 = w.drew.alloc (.cells R 41) := ⟨_, rfl⟩
  have hN : ∀ j, j < G * 6 → (W1.cell? ⟨w.heap.size, j, none⟩).isSome = true := fun j hj => by
    rw [hW1, World.cell?_alloc_at (w := w.drew) R _ w.heap.size j rfl, Array.getElem?_eq_getElem (by omega)]; rfl
  have hNf : ∀ j, W1.frozen? ⟨w.heap.size, j, none⟩ = false := fun j => by rw [hW1]; exact World.frozen?_alloc_at (w := w.drew) R _ w.heap.size j rfl
  have hOb : ∀ j u, w.cell? ⟨g, j, none⟩ = some u → W1.cell? ⟨g, j, none⟩ = some u := fun j u h => by rw [hW1, World.cell?_alloc_past (w := w.drew) _ g j hgw]; exact h
  have hOv : ∀ j u, w.cell? ⟨vb, j, none⟩ = some u → W1.cell? ⟨vb, j, none⟩ = some u := fun j u h => by rw [hW1, World.cell?_alloc_past (w := w.drew) _ vb j hvw]; exact h
  have hvv : ∀ j u, (cL v)[j]? = some u → w.cell? ⟨vb, j, none⟩ = some u := fun j u hj => (cell_of_row w vb j _ _ (0, 0) hvb).trans (by rw [← hj]; simp [cL])
  have hgN : g ≠ w.heap.size := Nat.ne_of_lt hgw
  have hfd : (fl (l.drop i)).length = (l.length - i) * 6 := by rw [fl_len, List.length_drop]
  have hdr : fl (l.drop i) = (fl l).drop (i * 6) := fl_drop l i
  have hcpA : ∀ (W : World), (∀ x, W.cell? x = W1.cell? x) → (∀ x, W.frozen? x = W1.frozen? x) → ∀ ty dc, (Builtin.copy_ #[27, 27] ty #[.slice (some ⟨w.heap.size, i * 6, none⟩) (l.length + 1 - i) dc, .slice (some ⟨vb, 0, none⟩) 1 1]).run Try.prog W = .ok (goInt (Nat.min 1 (l.length + 1 - i))) (W.setCells w.heap.size (i * 6) (cL v)) := fun W hWc hWf ty dc =>
    run_copy6 W _ _ ty 41 w.heap.size (i * 6) (l.length + 1 - i) dc ⟨vb, 0, none⟩ 1 1 (cL v) Try.underlying27 size6 (by rw [cL_len]; simp only [Nat.min_def]; split <;> omega)
      (fun j u hj => by rw [Addr.add_lit, Nat.zero_add, hWc]; exact hOv _ u (hvv j u hj))
      (fun j hj => by rw [hWc]; exact hN _ (by rw [cL_len] at hj; omega)) (fun j hj => by rw [hWf]; exact hNf _) (cL_one v)
  have hcpB : ∀ (W : World), (∀ x, W.cell? x = (W1.setCells w.heap.size (i * 6) (cL v)).cell? x) → (∀ x, W.frozen? x = (W1.setCells w.heap.size (i * 6) (cL v)).frozen? x) → ∀ ty dc sc, (Builtin.copy_ #[27, 27] ty #[.slice (some ⟨w.heap.size, (i + 1) * 6, none⟩) (l.length - i) dc, .slice (some ⟨g, i * 6, none⟩) (l.length - i) sc]).run Try.prog W = .ok (goInt (Nat.min (l.length - i) (l.length - i))) (W.setCells w.heap.size ((i + 1) * 6) (fl (l.drop i))) := fun W hWc hWf ty dc sc =>
    run_copy6 W _ _ ty 41 w.heap.size ((i + 1) * 6) (l.length - i) dc ⟨g, i * 6, none⟩ (l.length - i) sc (fl (l.drop i)) Try.underlying27 size6 (by rw [hfd]; congr 1; simp only [Nat.min_def]; split <;> omega)
      (fun j u hj => by
        rw [Addr.add_lit, hWc, World.cell?_setCells_out _ _ _ _ _ (fun h _ => absurd h hgN)]
        rw [hdr, List.getElem?_drop] at hj
        exact hOb _ u (hcl _ u hj))
      (fun j hj => by rw [hWc]; exact isSome_setCells _ _ _ _ (fun t ht => hN _ (by rw [cL_len] at ht; omega)) _ (hN _ (by rw [hfd] at hj; omega)))
      (fun j hj => by rw [hWf, World.frozen?_setCells]; exact hNf _) (fl_all _)
  have hs0 := slice_from (some ⟨g, 0, none⟩) l.length c i (Nat.le_of_lt hi)
  rw [from_some (by omega)] at hs0
  have hs1 := slice_to (some ⟨g, 0, none⟩) l.length c i (by omega)
  have hs2 := slice_from (some ⟨w.heap.size, 0, none⟩) (l.length + 1) G i (by omega)
  rw [from_some (by omega)] at hs2
  have hs3 := slice_from (some ⟨w.heap.size, 0, none⟩) (l.length + 1) G (i + 1) (by omega)
  rw [from_some (by omega)] at hs3
  rw [show ((i + 1 : Nat) : Int) = (i : Int) + 1 from rfl, Nat.add_sub_add_right] at hs3
  have hw1 : IntKind.i64.wrap ((i : Int) + 1) = (i : Int) + 1 := wrap_in _ (by omega) (by omega)
  have hiI : ¬ ((i : Int) = (l.length : Int)) := by omega
  have hrI : (c : Int) < (l.length : Int) + 1 := by omega
  subst hW1
  have hda : (w.alloc (.cells R 41)).drew = w.drew.alloc (.cells R 41) := rfl
  have hE1 : ∀ x, ((w.alloc (.cells R 41)).drew).cell? x = (w.drew.alloc (.cells R 41)).cell? x := fun x => by rw [hda]
  have hE2 : ∀ x, ((w.alloc (.cells R 41)).drew).frozen? x = (w.drew.alloc (.cells R 41)).frozen? x := fun x => by rw [hda]
  have hF1 : ∀ x, (((w.alloc (.cells R 41)).drew.setCells w.heap.size (i * 6) (cL v)).drew).cell? x = ((w.drew.alloc (.cells R 41)).setCells w.heap.size (i * 6) (cL v)).cell? x := fun x => (cell_drew _ x).trans (by rw [hda])
  have hF2 : ∀ x, (((w.alloc (.cells R 41)).drew.setCells w.heap.size (i * 6) (cL v)).drew).frozen? x = ((w.drew.alloc (.cells R 41)).setCells w.heap.size (i * 6) (cL v)).frozen? x := fun x => (fz_drew _ x).trans (by rw [hda])
  clear hda
  clear hkk hik hRl hN hNf hOb hOv hvv hcl hfd hdr hg hvb
  go_enter Try.func29, Try.ntmps29
  go_wp2_with (first
    | (at_builtin; refine Lib.wpList_append_run _ rfl _ _ _ _ rfl _ _ rfl rfl _ _ (hrz _) ?_)
    | (at_builtin; refine wpList_copy_runI _ rfl _ _ 27 27 rfl _ _ rfl rfl (hcpA _ hE1 hE2 _ _) ?_))
  go_region_law (refine copy_step rfl _ _ 27 27 rfl (.slice (some ⟨w.heap.size, (i + 1) * 6, none⟩) (l.length - i) (G - (i + 1))) (.slice (some ⟨g, i * 6, none⟩) (l.length - i) (c - i)) (by simp [Act.eval, Act.put]) (by simp [Act.eval, Act.put]) (hcpB _ hF1 hF2 3 (G - (i + 1)) (c - i)) ?_)
  go_wp2
  go_ret
  exact hfin.out
theorem ins_any (base : Nat) (A : Option Addr) (c : Nat) (l : List Ver) (i : Nat) (v : Ver) (vb : Nat) (w : World) (hG : GV w base A c l) (hi : i ≤ l.length)
    (hvb : w.heap[vb]? = some (.cells #[.string v.key, .string v.val, .bool v.gone, .int .u64 v.ts, .int .i64 v.dc, .int .i64 v.tx] 41 (0, 0))) (hne : (Value.slice A l.length c).ownBlock ≠ some vb) (h9 : l.length ≤ 1000) (hb0 : base ≤ w.heap.size) :
    Calls Try.prog 29 #[.slice A l.length c, .int .i64 i, .slice (some ⟨vb, 0, none⟩) 1 1] w (InV base A c l i v w) := by
  have hv : V6 vb 0 v w := ⟨cell_of_row w vb 0 _ _ (0, 0) hvb, cell_of_row w vb 1 _ _ (0, 0) hvb, cell_of_row w vb 2 _ _ (0, 0) hvb, cell_of_row w vb 3 _ _ (0, 0) hvb, cell_of_row w vb 4 _ _ (0, 0) hvb, cell_of_row w vb 5 _ _ (0, 0) hvb⟩
  by_cases he : i = l.length
  · subst he
    exact ins_e base A c l v vb w hG hv h9 hb0
  · rcases hG.2 with ⟨e, h0⟩ | ⟨g, cap, cur, e, hbg, hg, hnc, hcm, hcs, htk⟩
    · omega
    · simp only [Value.slice.injEq] at e
      obtain ⟨rfl, -, rfl⟩ := e
      by_cases hr : l.length + 1 ≤ c
      · exact ins_s base g c l i v vb w cur hbg hg hcm hcs htk hvb (fun e => hne (by rw [e]; rfl)) h9 (by omega) hr
      · exact ins_g base g c l i v vb w cur hb0 hg hcs htk hnc hvb h9 (by omega) (by omega)
end Go.Proofs.Ytnicomhodnfggaa.seI
