/- The law's own map of what is applied; what it says of a box. -/
import Derived.Test.YtbfepdibblialaaInS
import Derived.Deep.DeepCutAuto
import Derived.Deep.CutBlock
import Derived.Deep.CutRange
set_option linter.unusedVariables false
set_option linter.unusedSimpArgs false
namespace Go.Proofs.Ytbfepdibblialaa.inH
open Go.ChangeShapes Go.WideShapes Go.ChangeAt Go.RowKit Go.Deep
open opG opV opR chnM gen chnA chnR chnE ordA ordB ordC inM inW inL inN inP inPt inG inD inA inK inS

abbrev MapB (w : World) (b n : Nat) (D : DM) : Prop := w.ownsMap Try.prog 3 (plainElem Try.prog 4) b n D
def hb (D : DM) (k : Int) : Bool := match D.atKey (lk k) (.lit (.bool false)) with | .lit (.bool b) => b | _ => false
theorem hb_put_same {D : DM} (hD : Maps.IsMap D) (k : Int) : hb (D.put (lk k) (.lit (.bool true))) k = true := by
  unfold hb
  rw [Maps.atKey_put_same hD (show WideAt.IsKeyLit (lk k) from trivial)]
theorem hb_put_other (D : DM) {k k' : Int} (h : k' ≠ k) (d : DM) : hb (D.put (lk k) d) k' = hb D k' := by
  unfold hb
  rw [Maps.atKey_put_other (lk_ne h)]
theorem hb_empty (k : Int) : hb (.map []) k = false := rfl
theorem plain_bool_inv {v : Value} {z : DM × List MemPlace} (h : plainElem Try.prog 4 v = some z) : ∃ b, v = .bool b ∧ z = (.lit (.bool b), []) := by
  unfold plainElem at h
  rw [Try.underlying4] at h
  cases v <;> simp at h
  exact ⟨_, rfl, h.symm⟩
theorem key_wf {k : Int} (h1 : -9223372036854775808 ≤ k) (h2 : k ≤ 9223372036854775807) : (Lit.int .i64 k).wf = true := by simp [Lit.wf, IntKind.min, IntKind.max, IntKind.bits, IntKind.signed]; omega
section
variable {w w1 : World} {b n : Nat} {D : DM} {k : Int}
theorem mb_look (h : MapB w b n D) (h1 : -9223372036854775808 ≤ k) (h2 : k ≤ 9223372036854775807) : (Instr.lookup 52 (.map (some b)) (.int .i64 k) false).run Try.prog w = .ok (.bool (hb D k)) w := by
  obtain ⟨v, ps, hr, hv⟩ := World.ownsMap.lookup h law3 Try.underlying52 (Try.zeroValue4 _) (plainElem_bool Try.underlying4 false) (Maps.keyOf_int_mk Try.underlying3 (key_wf h1 h2))
  obtain ⟨b, rfl, e⟩ := plain_bool_inv hv
  rw [hr]
  congr 2
  unfold hb lk
  simp only [Prod.mk.injEq] at e
  rw [e.1]
theorem mb_store (h : MapB w b n D) (h1 : -9223372036854775808 ≤ k) (h2 : k ≤ 9223372036854775807) (hn : n ≤ 1000) :
    ∃ w', (Instr.mapUpdate 52 (.map (some b)) (.int .i64 k) (.bool true)).run Try.prog w = .ok () w' ∧ MapB w' b (n + 1) (D.put (lk k) (.lit (.bool true))) ∧ w.grownBy w' (some b) := by
  obtain ⟨w', h3, h4, h5⟩ := World.ownsMap.store h law3 Try.underlying52 (by unfold maxLen; omega) (Maps.keyOf_int_mk Try.underlying3 (key_wf h1 h2)) (plainElem_bool Try.underlying4 true)
  exact ⟨w', h3, h4, h5.grown⟩
end
/-- the map, of a color of its own -/
def XM (dm n : Nat) (D : DM) : (Nat → Nat) → World → Prop := fun col V => MapB V dm n D ∧ col dm = 3
theorem st_XM (dm n : Nat) (D : DM) : St 1 (XM dm n D) := fun col col' V V' hg he ⟨h1, h2⟩ =>
  ⟨map_block h1 (hg.block dm h1.lt (by rw [h2]; decide)), (he dm h1.lt).trans h2⟩
theorem p_mp {w V : World} {p B dm n : Nat} {S : Bx} {o : Oq} {D : DM} (h : P w p S B o (XM dm n D) V) : MapB V dm n D := by obtain ⟨col, h1, ⟨h2, _⟩, _⟩ := h; exact h2
theorem j_mp {w V : World} {p dm n : Nat} {S : Bx} {D : DM} (h : J w p S (XM dm n D) V) : MapB V dm n D := by obtain ⟨col, h1, h2, _⟩ := h; exact h2
theorem p_store {w V V' : World} {p B dm n n' : Nat} {S : Bx} {o : Oq} {D D' : DM} (h : P w p S B o (XM dm n D) V) (hg : V.grownBy V' (some dm)) (hm : MapB V' dm n' D') : P w p S B o (XM dm n' D') V' := by
  obtain ⟨col, h1, ⟨h2, h5⟩, h3, h4⟩ := h
  have hc : Chg col 3 V V' := Chg.grown hg fun k e => by cases e; exact h5
  have hlt := World.block_lt_of_cell? _ _ h3.1
  exact ⟨col, h1.go hc (by decide) (Ext.refl _ _) (h1.fr.up hc.size) (h1.box.other hc (by decide) (by decide) (Ext.refl _ _)), ⟨hm, h5⟩, b7_of h3 (hc.block B hlt (by rw [h4]; decide)), h4⟩
/-- a new map -/
theorem j_map {w V : World} {p : Nat} {S : Bx} {col : Nat → Nat} (h : LS w p S col V) : J w p S (XM V.heap.size 0 (.map [])) (V.alloc (.map #[] 0)) := by
  have hB := al0 V (.map #[] 0)
  have hE : Ext V col (fun k => if k = V.heap.size then 3 else col k) := fun k hk => if_neg (by omega)
  have hs : (V.alloc (.map #[] 0)).heap.size = V.heap.size + 1 := by simp
  have hf : Fresh (fun k => if k = V.heap.size then 3 else col k) (V.alloc (.map #[] 0)) := fun k hk => by
    show (if k = V.heap.size then 3 else col k) = 0
    rw [if_neg (by omega)]
    exact h.fr k (by omega)
  have hg := Chg.of_below col 4 hB
  exact ⟨_, h.go hg (by decide) hE hf (h.box.other hg (by decide) (by decide) hE), World.ownsMap_made _ _ _ _, if_pos rfl⟩
/-- what the map says -/
def DR (S : Bx) (D : DM) : Prop := ∀ k : Int, hb D k = decide ((S.first : Int) ≤ k ∧ S.done[(k - S.first).toNat]? = some true)
section
variable {S : Bx} {D : DM} {at0 : Int}
theorem dr_0 (a : Int) : DR (B0 a) (.map []) := fun k => by rw [hb_empty]; simp [B0]
theorem dr_put (h : DR S D) (r : Rc) : DR (bxS S at0 r) D := fun k => by
  rw [h k]
  unfold bxS
  split
  · simp only
    congr 1
    rw [eq_iff_iff]
    refine and_congr_right fun h1 => ?_
    rcases Nat.lt_or_ge (k - S.first).toNat S.done.length with h2 | h2
    · rw [List.getElem?_append_left h2]
    · rw [List.getElem?_append_right h2, List.getElem?_eq_none h2]
      cases ((k - S.first).toNat - S.done.length) <;> simp
  · rfl
theorem dr_next (h : DR S D) : DR (nextS S) D := fun k => by
  rw [h k]
  unfold nextS
  split <;> rfl
theorem dr_done (h : DR S D) (hD : Maps.IsMap D) (hok : S.ok) (hc : canDo S at0 = true) : DR (doneS S at0) (D.put (lk at0) (.lit (.bool true))) := fun k => by
  rw [canDo_iff] at hc
  obtain ⟨c1, c2, c3⟩ := hc
  have hlt := (List.getElem?_eq_some_iff.1 c3).1
  have hS : doneS S at0 = { S with done := S.done.set (at0 - S.first).toNat true } := by unfold doneS; rw [if_pos (canDo_iff.2 ⟨c1, c2, c3⟩)]
  rw [hS]
  simp only
  by_cases hk : k = at0
  · subst hk
    rw [hb_put_same hD, List.getElem?_set, if_pos rfl, if_pos hlt]
    simp [c1]
  · rw [hb_put_other _ hk, h k]
    congr 1
    rw [eq_iff_iff]
    refine and_congr_right fun h1 => ?_
    rw [List.getElem?_set, if_neg (by omega)]
/-- of one that isn't to be applied -/
theorem dr_not (h : DR S D) (hok : S.ok) (hc : canDo S at0 = false) : at0 < (S.first : Int) ∨ ((S.first : Int) ≤ at0 ∧ (S.first : Int) + S.handed ≤ at0) ∨ ((S.first : Int) ≤ at0 ∧ at0 < (S.first : Int) + S.handed ∧ hb D at0 = true) := by
  by_cases h1 : at0 < (S.first : Int)
  · exact .inl h1
  · by_cases h2 : (S.first : Int) + S.handed ≤ at0
    · exact .inr (.inl ⟨by omega, h2⟩)
    · right; right
      refine ⟨by omega, by omega, ?_⟩
      rw [h at0, decide_eq_true_eq]
      refine ⟨by omega, ?_⟩
      have hn : ¬ canDo S at0 = true := by rw [hc]; simp
      rw [canDo_iff] at hn
      have hlt : (at0 - S.first).toNat < S.done.length := by rw [hok.len]; have := hok.hd; omega
      rw [List.getElem?_eq_getElem hlt] at hn ⊢
      cases hb : S.done[(at0 - S.first).toNat] with
      | true => rfl
      | false => exact absurd ⟨by omega, by omega, by rw [hb]⟩ hn
theorem dr_yes (h : DR S D) (hc : canDo S at0 = true) : (S.first : Int) ≤ at0 ∧ at0 < (S.first : Int) + S.handed ∧ hb D at0 = false := by
  rw [canDo_iff] at hc
  obtain ⟨c1, c2, c3⟩ := hc
  exact ⟨c1, c2, by rw [h at0, c3]; simp⟩
theorem dr_in (h : DR S D) {q : Nat} (hq : q < lead S.done) : hb D ((S.first : Int) + q) = true := by
  rw [h, decide_eq_true_eq]
  refine ⟨by omega, ?_⟩
  rw [show ((S.first : Int) + q - S.first).toNat = q by omega]
  exact lead_lt hq
theorem dr_out (h : DR S D) : hb D ((S.first : Int) + lead S.done) = false := by
  rw [h, decide_eq_false_iff_not]
  rintro ⟨_, h2⟩
  rw [show ((S.first : Int) + lead S.done - S.first).toNat = lead S.done by omega] at h2
  rw [lead_at (List.getElem?_eq_some_iff.1 h2).1] at h2
  cases h2
end
/-! ### The steps: hearts are left out -/
def stO (S : Bx) (o : Oq) : Bx := if o.kind = 3 then S else stepS S o
theorem stO_ok {S : Bx} {o : Oq} (h : S.ok) (ht : 0 ≤ o.t) : (stO S o).ok := by unfold stO; split; exact h; exact ok_step h ht
theorem stO_lm {S : Bx} {o : Oq} {j : Nat} (h : Lm S j) : Lm (stO S o) (j + 1) := by
  unfold stO
  split
  · exact ⟨h.f, by have := h.c; omega, by have := h.h; omega⟩
  · exact lm_step h
theorem stO_not {S : Bx} {o : Oq} (h : o.kind ≠ 3) : stO S o = stepS S o := if_neg h
theorem stO_three {S : Bx} {o : Oq} (h : o.kind = 3) : stO S o = S := if_pos h
theorem stO_first {S : Bx} {o : Oq} : (stO S o).first = S.first := by
  unfold stO
  split
  · rfl
  · rcases five_ways o.kind with e | e | e | e | ⟨e0, e1, e2, e3⟩
    · rw [step0 e, first_put]
    · rw [step1 e, (came_next S).2]
    · rw [step2 e, (came_done S _).2]
    · rw [step3 e]; rfl
    · rw [step4 e0 e1 e2 e3]
end Go.Proofs.Ytbfepdibblialaa.inH
