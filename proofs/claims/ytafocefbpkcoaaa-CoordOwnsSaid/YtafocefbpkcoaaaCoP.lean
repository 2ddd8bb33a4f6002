/- A map of numbers in memory, whatever it holds, that says what a list of pairs says. -/
import Derived.Test.YtafocefbpkcoaaaGen
import Derived.Maps.OwnOps
import Derived.Maps.OwnSet
import Derived.Maps.Views
import Derived.Maps.RangeWalk
set_option linter.unusedVariables false
set_option linter.unusedSimpArgs false
namespace Go.Proofs.Ytafocefbpkcoaaa.coP
open Go.ChangeShapes Go.WideShapes Go.ChangeAt Go.RowKit Go.Deep

/-! ### Pairs, plainly -/
abbrev PL : Type := List (Int × Value)
def fnp : PL → Int → Option Value
  | [], _ => none
  | x :: l, k => if x.1 = k then some x.2 else fnp l k
def rmp (l : PL) (k : Int) : PL := l.filter fun x => decide (x.1 ≠ k)
def pup (l : PL) (k : Int) (v : Value) : PL := rmp l k ++ [(k, v)]
def Dfp (l : PL) : Prop := (l.map (·.1)).Nodup
theorem fnp_none {l : PL} {k : Int} : fnp l k = none ↔ ∀ x ∈ l, x.1 ≠ k := by
  induction l with
  | nil => simp [fnp]
  | cons a l ih =>
    unfold fnp
    by_cases h : a.1 = k
    · rw [if_pos h]; simp [h]
    · rw [if_neg h, ih]; simp [h]
theorem fnp_app (l m : PL) (k : Int) : fnp (l ++ m) k = (fnp l k).or (fnp m k) := by
  induction l with
  | nil => simp [fnp]
  | cons a l ih =>
    show (if a.1 = k then some a.2 else fnp (l ++ m) k) = (if a.1 = k then some a.2 else fnp l k).or (fnp m k)
    split
    · simp
    · exact ih
theorem fnp_rm (l : PL) (k x : Int) : fnp (rmp l k) x = if x = k then none else fnp l x := by
  unfold rmp
  induction l with
  | nil => simp [fnp]
  | cons a l ih =>
    rw [List.filter_cons]
    by_cases h : a.1 = k
    · have hd : decide (a.1 ≠ k) = false := by simp [h]
      rw [hd]
      simp only [Bool.false_eq_true, if_false]
      rw [ih]
      by_cases e : x = k
      · rw [if_pos e, if_pos e]
      · rw [if_neg e, if_neg e]
        show _ = if a.1 = x then some a.2 else fnp l x
        rw [if_neg (fun e2 => e (e2.symm.trans h))]
    · have hd : decide (a.1 ≠ k) = true := by simp [h]
      rw [hd]
      simp only [if_true]
      show (if a.1 = x then some a.2 else fnp _ x) = _
      rw [ih]
      show _ = if x = k then none else if a.1 = x then some a.2 else fnp l x
      by_cases e : a.1 = x
      · rw [if_pos e, if_neg (fun e2 => h (e.trans e2)), if_pos e]
      · rw [if_neg e, if_neg e]
theorem fnp_pu (l : PL) (k x : Int) (v : Value) : fnp (pup l k v) x = if x = k then some v else fnp l x := by
  unfold pup
  rw [fnp_app, fnp_rm]
  by_cases e : x = k
  · rw [if_pos e, if_pos e]; simp [fnp, e]
  · rw [if_neg e, if_neg e]
    have : fnp [(k, v)] x = none := if_neg fun e2 => e e2.symm
    rw [this]
    cases fnp l x <;> rfl
theorem rm_none {l : PL} {k : Int} (h : fnp l k = none) : rmp l k = l := by
  unfold rmp
  rw [List.filter_eq_self]
  intro x hx
  exact decide_eq_true (fnp_none.1 h x hx)
theorem rm_len {l : PL} {k : Int} {v : Value} (hd : Dfp l) (h : fnp l k = some v) : (rmp l k).length + 1 = l.length := by
  induction l with
  | nil => simp [fnp] at h
  | cons a l ih =>
    have hd' : (a.1 :: l.map (·.1)).Nodup := hd
    obtain ⟨hn, hd2⟩ := List.nodup_cons.1 hd'
    unfold rmp
    rw [List.filter_cons]
    by_cases e : a.1 = k
    · have hdd : decide (a.1 ≠ k) = false := by simp [e]
      rw [hdd]
      simp only [Bool.false_eq_true, if_false]
      have : l.filter (fun x => decide (x.1 ≠ k)) = l := by
        rw [List.filter_eq_self]
        intro x hx
        refine decide_eq_true fun e2 => hn ?_
        rw [e, ← e2]
        exact List.mem_map.2 ⟨x, hx, rfl⟩
      rw [this]; rfl
    · have hdd : decide (a.1 ≠ k) = true := by simp [e]
      rw [hdd]
      simp only [if_true, List.length_cons]
      have h' : fnp l k = some v := by
        have : (if a.1 = k then some a.2 else fnp l k) = some v := h
        rwa [if_neg e] at this
      have := ih hd2 h'
      unfold rmp at this
      omega
theorem rm_dif {l : PL} (hd : Dfp l) (k : Int) : Dfp (rmp l k) := by
  unfold Dfp rmp
  exact List.Nodup.sublist (List.Sublist.map _ List.filter_sublist) hd
theorem pu_dif {l : PL} (hd : Dfp l) (k : Int) (v : Value) : Dfp (pup l k v) := by
  have h1 := rm_dif hd k
  unfold Dfp at h1 ⊢
  unfold pup
  rw [List.map_append, List.nodup_append]
  refine ⟨h1, by simp, ?_⟩
  intro a ha b hb
  simp at hb
  subst hb
  obtain ⟨x, hx, rfl⟩ := List.mem_map.1 ha
  have := (List.mem_filter.1 hx).2
  simpa using this
theorem pu_len {l : PL} (hd : Dfp l) (k : Int) (v : Value) : (pup l k v).length = l.length + (if (fnp l k).isSome then 0 else 1) := by
  unfold pup
  rw [List.length_append]
  cases h : fnp l k with
  | none => rw [rm_none h]; rfl
  | some u => have := rm_len hd h; simp; omega
theorem fnp_mem {l : PL} {k : Int} {v : Value} (h : fnp l k = some v) : (k, v) ∈ l := by
  induction l with
  | nil => simp [fnp] at h
  | cons a l ih =>
    unfold fnp at h
    by_cases e : a.1 = k
    · rw [if_pos e] at h
      simp only [Option.some.injEq] at h
      subst e h
      exact List.mem_cons_self ..
    · rw [if_neg e] at h
      exact List.mem_cons_of_mem _ (ih h)
theorem fnp_of_mem {l : PL} (hd : Dfp l) {x : Int × Value} (h : x ∈ l) : fnp l x.1 = some x.2 := by
  induction l with
  | nil => cases h
  | cons a l ih =>
    obtain ⟨hn, hd2⟩ := List.nodup_cons.1 (show (a.1 :: l.map (·.1)).Nodup from hd)
    rcases List.mem_cons.1 h with rfl | h
    · exact if_pos rfl
    · unfold fnp
      rw [if_neg (fun e => hn (by rw [e]; exact List.mem_map.2 ⟨x, h, rfl⟩))]
      exact ih hd2 h

/-! ### In memory -/
abbrev DM := DataW Value
def hV : Value → Option (DM × List MemPlace) := fun v => some (.held v, [])
structure CR (q : IntKind) (l : PL) (D : DM) : Prop where
  at_ : ∀ k : Int, match fnp l k with
    | none => Maps.has D (.int q k) = false
    | some v => ∀ z, D.atKey (.int q k) z = .held v
  sz : Maps.size D = l.length
  df : Dfp l
theorem lk_ne {q : IntKind} {k k' : Int} (h : k' ≠ k) : Lit.int q k' ≠ Lit.int q k := fun e => h (by cases e; rfl)
theorem lk_key (q : IntKind) (k : Int) : WideAt.IsKeyLit (.int q k) := trivial
section
variable {q : IntKind} {l : PL} {D : DM}
theorem cr_nil (q : IntKind) : CR q [] (.map []) := ⟨fun k => rfl, rfl, List.nodup_nil⟩
theorem cr_has (h : CR q l D) (k : Int) : Maps.has D (.int q k) = (fnp l k).isSome := by
  have h1 := h.at_ k
  cases hf : fnp l k with
  | none => rw [hf] at h1; simpa using h1
  | some t => rw [hf] at h1; simpa using Maps.has_true_of_atKey h1
theorem cr_put (h : CR q l D) (hD : Maps.Tidy D) (hM : Maps.IsMap D) (k : Int) (v : Value) : CR q (pup l k v) (D.put (.int q k) (.held v)) := by
  refine ⟨fun x => ?_, ?_, pu_dif h.df k v⟩
  · rw [fnp_pu]
    by_cases e : x = k
    · rw [if_pos e]
      subst e
      exact fun z => Maps.atKey_put_same hM (lk_key _ _) _ _
    · rw [if_neg e]
      have h1 := h.at_ x
      cases hf : fnp l x with
      | none =>
        rw [hf] at h1
        simp only at h1 ⊢
        rw [Maps.has_put_other (lk_ne e)]; exact h1
      | some u =>
        rw [hf] at h1
        simp only at h1 ⊢
        exact fun z => by rw [Maps.atKey_put_other (lk_ne e)]; exact h1 z
  · rw [Maps.size_put hD, cr_has h k, h.sz, pu_len h.df]
    cases (fnp l k).isSome <;> rfl
theorem cr_del (h : CR q l D) (hD : Maps.Tidy D) {k : Int} {v : Value} (hk : fnp l k = some v) : CR q (rmp l k) (D.del (.int q k)) := by
  refine ⟨fun x => ?_, ?_, rm_dif h.df k⟩
  · rw [fnp_rm]
    by_cases e : x = k
    · rw [if_pos e]
      subst e
      exact Maps.has_del_same
    · rw [if_neg e]
      have h1 := h.at_ x
      cases hf : fnp l x with
      | none =>
        rw [hf] at h1
        simp only at h1 ⊢
        rw [Maps.has_del_other (lk_ne e)]; exact h1
      | some u =>
        rw [hf] at h1
        simp only at h1 ⊢
        exact fun z => by rw [Maps.atKey_del_other (lk_ne e)]; exact h1 z
  · have h1 := cr_has h k
    rw [hk] at h1
    have h2 := Maps.size_del hD (k := .int q k)
    rw [h1, h.sz] at h2
    have := rm_len h.df hk
    simp at h2
    omega
variable {P : Program} {tm kt et : TypeId} {w : World} {b n : Nat}
theorem cr_tight (hm : w.ownsMap P kt hV b n D) (h : CR q l D) : w.ownsMap P kt hV b l.length D := by
  obtain ⟨es, cl, hb, hr, hn, rfl⟩ := hm
  refine ⟨es, cl, hb, hr, ?_, rfl⟩
  have := h.sz
  simp [Maps.size, length_sorted] at this
  omega
/-- a look into the map -/
theorem cr_look (h : CR q l D) (hm : w.ownsMap P kt hV b n D) (hk : P.underlying kt = some (.int q)) (ht : P.underlying tm = some (.map kt et)) {z : Value} (hz : (zeroValue et).run P w = .ok z w) {k : Int} (hw : (Lit.int q k).wf = true) :
    (Instr.lookup tm (.map (some b)) (.int q k) true).run P w = .ok (.tuple #[(fnp l k).getD z, .bool (fnp l k).isSome]) w := by
  obtain ⟨v, ps, hr, hv⟩ := World.ownsMap.look_ok hm (Maps.int_keyed hk) ht hz (show hV z = some (.held z, []) from rfl) (Maps.keyOf_int_mk hk hw)
  simp only [hV, Option.some.injEq, Prod.mk.injEq] at hv
  have h1 := h.at_ k
  rw [hr, cr_has h k]
  cases hf : fnp l k with
  | none =>
    rw [hf] at h1
    simp only at h1
    rw [Maps.atKey_of_not_has h1] at hv
    simp only [DataW.held.injEq] at hv
    rw [hv.1]; rfl
  | some u =>
    rw [hf] at h1
    simp only at h1
    rw [h1] at hv
    simp only [DataW.held.injEq] at hv
    rw [hv.1]; rfl
theorem cr_look1 (h : CR q l D) (hm : w.ownsMap P kt hV b n D) (hk : P.underlying kt = some (.int q)) (ht : P.underlying tm = some (.map kt et)) {z : Value} (hz : (zeroValue et).run P w = .ok z w) {k : Int} (hw : (Lit.int q k).wf = true) :
    (Instr.lookup tm (.map (some b)) (.int q k) false).run P w = .ok ((fnp l k).getD z) w := by
  obtain ⟨v, ps, hr, hv⟩ := World.ownsMap.lookup hm (Maps.int_keyed hk) ht hz (show hV z = some (.held z, []) from rfl) (Maps.keyOf_int_mk hk hw)
  simp only [hV, Option.some.injEq, Prod.mk.injEq] at hv
  have h1 := h.at_ k
  rw [hr]
  cases hf : fnp l k with
  | none =>
    rw [hf] at h1
    simp only at h1
    rw [Maps.atKey_of_not_has h1] at hv
    simp only [DataW.held.injEq] at hv
    rw [hv.1]; rfl
  | some u =>
    rw [hf] at h1
    simp only at h1
    rw [h1] at hv
    simp only [DataW.held.injEq] at hv
    rw [hv.1]; rfl
/-- a store into it -/
theorem cr_store (h : CR q l D) (hm : w.ownsMap P kt hV b n D) (hk : P.underlying kt = some (.int q)) (ht : P.underlying tm = some (.map kt et)) (hn : n < maxLen) {k : Int} (hw : (Lit.int q k).wf = true) (v : Value) :
    ∃ w' D', (Instr.mapUpdate tm (.map (some b)) (.int q k) v).run P w = .ok () w' ∧ w'.ownsMap P kt hV b (pup l k v).length D' ∧ CR q (pup l k v) D' ∧ w.mapTurned w' b := by
  obtain ⟨w', h3, h4, h5⟩ := World.ownsMap.store hm (Maps.int_keyed hk) ht hn (Maps.keyOf_int_mk hk hw) (show hV v = some (.held v, []) from rfl)
  have hc := cr_put h (hm.tidy (Maps.int_keyed hk)) hm.isMap k v
  exact ⟨w', _, h3, cr_tight h4 hc, hc, h5⟩
/-- a deletion -/
theorem cr_drop (h : CR q l D) (hm : w.ownsMap P kt hV b n D) (hk : P.underlying kt = some (.int q)) (ht : P.underlying tm = some (.map kt et)) {k : Int} (hw : (Lit.int q k).wf = true) {v : Value} (hf : fnp l k = some v) (ty : TypeId) :
    ∃ w' D', (Builtin.delete_ #[tm, kt] ty #[.map (some b), .int q k]).run P w = .ok (.tuple #[]) w' ∧ w'.ownsMap P kt hV b (rmp l k).length D' ∧ CR q (rmp l k) D' ∧ w.mapTurned w' b := by
  obtain ⟨w', h3, h4, h5⟩ := World.ownsMap.drop hm (Maps.int_keyed hk) ht (Maps.keyOf_int_mk hk hw) ty
  have hc := cr_del h (hm.tidy (Maps.int_keyed hk)) hf
  exact ⟨w', _, h3, cr_tight h4 hc, hc, h5⟩
theorem cr_len (h : CR q l D) (hm : w.ownsMap P kt hV b n D) (ht : P.underlying tm = some (.map kt et)) (ty : TypeId) : (Builtin.len_ #[tm] ty #[.map (some b)]).run P w = .ok (.int .i64 (l.length : Int)) w := by
  rw [World.ownsMap.len hm ht ty, h.sz]
/-! ### Going through it -/
theorem wpList_next_hv {ops : Array Oper} {rest : List Oper} {o : Oper} {a : Act} {Q : Exit → Act → World → Prop} (hg : o.guard = none) (it : Operand) (hop : o.op = Op.next it false) (hk : P.underlying kt = some (.int q))
    (r : Nat) (left : Lit → Bool) (cnt : Nat) (hit : a.eval it = .pointer (some ⟨r, 0, none⟩)) (h : w.ranges P kt hV b r n D left cnt)
    (hDone : cnt = 0 → (∀ kl, left kl = false) → wpList P ops Q rest (a.put o.dst (.tuple #[.bool false])) w)
    (hMore : ∀ (x : Int) (v : Value) (w' : World) (cnt' : Nat), (∀ zd, D.atKey (.int q x) zd = .held v) → w'.ranges P kt hV b r n D (fun z => left z && !z.sameKey (.int q x)) cnt' → cnt' < cnt →
      w.grownBy w' (some r) → w'.heap.size = w.heap.size → (Instr.entry (.pointer (some ⟨r, 0, none⟩))).run P w' = .ok (.tuple #[.int q x, v]) w' → wpList P ops Q rest (a.put o.dst (.tuple #[.bool true, .int q x, v])) w') :
    wpList P ops Q (o :: rest) a w :=
  wpList_next_ranges w hg it hop kt (Maps.int_keyed hk) hV (Value.int q) id (fun key kl hkey => by obtain ⟨x, rfl, _⟩ := Maps.keyOf_int_inv hk hkey; exact ⟨x, rfl⟩) (fun v y _ => ⟨v, rfl⟩)
    b r n D left cnt hit h hDone (fun x c kl y w' cnt' hkey hlk hv hat hrg hlt hgr hsz hen => by
      obtain ⟨x', ex, rfl, hwx⟩ := Maps.keyOf_int_inv hk hkey
      cases ex
      simp only [hV, id, Option.some.injEq] at hv
      subst hv
      exact hMore x c w' cnt' hat hrg hlt hgr hsz hen)
theorem cr_was (h : CR q l D) {x : Int} {v : Value} (hc : ∀ z, D.atKey (.int q x) z = .held v) : fnp l x = some v := by
  have h1 := h.at_ x
  have ht := Maps.has_true_of_atKey hc
  cases hf : fnp l x with
  | none => rw [hf] at h1; simp only at h1; rw [ht] at h1; cases h1
  | some u =>
    rw [hf] at h1
    simp only at h1
    have := (h1 .nil).symm.trans (hc .nil)
    simp only [DataW.held.injEq] at this
    rw [this]
theorem strike_ne {left : Lit → Bool} {x k : Int} (h : k ≠ x) : (left (.int q k) && !(Lit.int q k).sameKey (.int q x)) = left (.int q k) := by
  rw [Maps.sameKey_ne (lk_ne h)]; simp
/-- what was seen of it has the property -/
def Seen (q : IntKind) (l : PL) (Q : Int → Value → Prop) (left : Lit → Bool) : Prop := ∀ k v, fnp l k = some v → left (.int q k) = false → Q k v
theorem seen_start (h : CR q l D) (Q : Int → Value → Prop) : Seen q l Q (Maps.has D) := fun k v hk hl => by rw [cr_has h k, hk] at hl; cases hl
theorem Seen.step {Q : Int → Value → Prop} {left : Lit → Bool} (h : Seen q l Q left) {x : Int} (hx : ∀ v, fnp l x = some v → Q x v) : Seen q l Q (fun z => left z && !z.sameKey (.int q x)) := fun k v hk hl => by
  by_cases e : k = x
  · subst e; exact hx v hk
  · simp only [strike_ne e] at hl
    exact h k v hk hl
theorem Seen.done {Q : Int → Value → Prop} {left : Lit → Bool} (h : Seen q l Q left) (hl : ∀ z, left z = false) : ∀ k v, fnp l k = some v → Q k v := fun k v hk => h k v hk (hl _)
end
end Go.Proofs.Ytafocefbpkcoaaa.coP
