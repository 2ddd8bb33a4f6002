/- A box of another datacenter's commits, plainly: what came, what was handed out, what is applied, the hearts, and up to when all are; the program's map of hearts. -/
import Derived.Test.YtbfepdibblialaaOrdA
import Derived.Maps.Views
import Derived.Maps.OwnSet
set_option linter.unusedVariables false
set_option linter.unusedSimpArgs false
namespace Go.Proofs.Ytbfepdibblialaa.inM
open Go.ChangeShapes Go.WideShapes Go.ChangeAt Go.RowKit Go.Deep
open opV chnM gen chnA chnR chnE ordA

/-! ### How many at the front -/
def lead : List Bool → Nat
  | true :: l => lead l + 1
  | _ => 0
theorem lead_le : ∀ l : List Bool, lead l ≤ l.length
  | [] => Nat.le_refl _
  | true :: l => by simp only [lead, List.length_cons]; have := lead_le l; omega
  | false :: l => by simp [lead]
theorem lead_lt : ∀ {l : List Bool} {i : Nat}, i < lead l → l[i]? = some true
  | [], i, h => by simp [lead] at h
  | true :: l, 0, h => rfl
  | true :: l, i + 1, h => by simp only [lead] at h; simpa using lead_lt (l := l) (i := i) (by omega)
  | false :: l, i, h => by simp [lead] at h
theorem lead_at : ∀ {l : List Bool}, lead l < l.length → l[lead l]? = some false
  | [], h => by simp at h
  | true :: l, h => by simp only [lead, List.length_cons] at h ⊢; simpa using lead_at (l := l) (by omega)
  | false :: l, h => rfl
theorem lead_eq {l : List Bool} {n : Nat} (h1 : ∀ i, i < n → l[i]? = some true) (h2 : l[n]? ≠ some true) : n = lead l := by
  rcases Nat.lt_trichotomy n (lead l) with h | h | h
  · exact absurd (lead_lt h) h2
  · exact h
  · have := h1 _ h
    have hl : lead l < l.length := (List.getElem?_eq_some_iff.1 this).1
    rw [lead_at hl] at this; cases this
theorem lead_app (l : List Bool) : lead (l ++ [false]) = lead l := by
  refine (lead_eq (fun i hi => ?_) ?_).symm
  · rw [List.getElem?_append_left (by have := lead_le l; omega)]; exact lead_lt hi
  · rcases Nat.lt_or_ge (lead l) l.length with h | h
    · rw [List.getElem?_append_left h, lead_at h]; simp
    · have : lead l = l.length := by have := lead_le l; omega
      rw [this]; simp
theorem lead_set (l : List Bool) (i : Nat) : lead l ≤ lead (l.set i true) := by
  rcases Nat.lt_or_ge (lead (l.set i true)) (lead l) with h | h
  · have h1 := lead_lt h
    have hl : lead (l.set i true) < l.length := (List.getElem?_eq_some_iff.1 h1).1
    have h2 := lead_at (l := l.set i true) (by simpa using hl)
    rw [List.getElem?_set] at h2
    split at h2
    · rw [if_pos (by omega)] at h2; cases h2
    · rw [h1] at h2; cases h2
  · exact h
theorem lead_drop : ∀ (l : List Bool) (k : Nat), k ≤ lead l → lead (l.drop k) = lead l - k
  | _, 0, _ => rfl
  | [], k + 1, h => by simp [lead] at h
  | true :: l, k + 1, h => by simp only [lead] at h ⊢; rw [List.drop_succ_cons, lead_drop l k (by omega)]; omega
  | false :: l, k + 1, h => by simp [lead] at h
/-! ### Hearts -/
def stp (ap : Int) (g : Int) (x : Int × Int) : Int := if x.2 ≤ ap ∧ g < x.1 then x.1 else g
def gotF (hs : List (Int × Int)) (ap : Int) : Int := hs.foldl (stp ap) 0
theorem stp_ge (ap g : Int) (x : Int × Int) : g ≤ stp ap g x := by unfold stp; split <;> omega
theorem fold_ge (ap : Int) : ∀ (hs : List (Int × Int)) (g : Int), g ≤ hs.foldl (stp ap) g
  | [], g => Int.le_refl _
  | x :: hs, g => Int.le_trans (stp_ge ap g x) (fold_ge ap hs _)
theorem fold_all (ap : Int) : ∀ (hs : List (Int × Int)) (g : Int), ∀ x ∈ hs, x.2 ≤ ap → x.1 ≤ hs.foldl (stp ap) g
  | [], g, x, h, _ => by cases h
  | y :: hs, g, x, h, hx => by
    rcases List.mem_cons.1 h with rfl | h
    · exact Int.le_trans (by unfold stp; split <;> omega) (fold_ge ap hs _)
    · exact fold_all ap hs _ x h hx
theorem fold_one (ap : Int) : ∀ (hs : List (Int × Int)) (g : Int), hs.foldl (stp ap) g = g ∨ ∃ x ∈ hs, x.2 ≤ ap ∧ hs.foldl (stp ap) g = x.1
  | [], g => .inl rfl
  | y :: hs, g => by
    rcases fold_one ap hs (stp ap g y) with h | ⟨x, hx, h1, h2⟩
    · by_cases hy : y.2 ≤ ap ∧ g < y.1
      · exact .inr ⟨y, by simp, hy.1, by rw [List.foldl_cons, h]; unfold stp; rw [if_pos hy]⟩
      · exact .inl (by rw [List.foldl_cons, h]; unfold stp; rw [if_neg hy])
    · exact .inr ⟨x, List.mem_cons_of_mem _ hx, h1, h2⟩
/-- g is the greatest time of all whose count isn't above ap -/
def isGot (hs : List (Int × Int)) (ap g : Int) : Prop := (∀ x ∈ hs, x.2 ≤ ap → x.1 ≤ g) ∧ (g = 0 ∨ ∃ x ∈ hs, x.2 ≤ ap ∧ x.1 = g) ∧ 0 ≤ g
theorem got_is (hs : List (Int × Int)) (ap : Int) : isGot hs ap (gotF hs ap) :=
  ⟨fold_all ap hs 0, (fold_one ap hs 0).imp id (fun ⟨x, hx, h1, h2⟩ => ⟨x, hx, h1, h2.symm⟩), fold_ge ap hs 0⟩
theorem got_eq {hs : List (Int × Int)} {ap g : Int} (h : isGot hs ap g) : g = gotF hs ap := by
  obtain ⟨a1, a2, a3⟩ := h
  obtain ⟨b1, b2, b3⟩ := got_is hs ap
  refine Int.le_antisymm ?_ ?_
  · rcases a2 with rfl | ⟨x, hx, h1, rfl⟩
    · exact b3
    · exact b1 x hx h1
  · rcases b2 with h | ⟨x, hx, h1, h⟩
    · rw [h]; exact a3
    · rw [← h]; exact a1 x hx h1
theorem got_mono (hs : List (Int × Int)) {a b : Int} (h : a ≤ b) : gotF hs a ≤ gotF hs b := by
  obtain ⟨b1, b2, b3⟩ := got_is hs a
  obtain ⟨c1, c2, c3⟩ := got_is hs b
  rcases b2 with e | ⟨x, hx, h1, e⟩
  · rw [e]; exact c3
  · rw [← e]; exact c1 x hx (by omega)
theorem got_app (hs : List (Int × Int)) (ap : Int) (x : Int × Int) : gotF (hs ++ [x]) ap = stp ap (gotF hs ap) x := by unfold gotF; rw [List.foldl_append]; rfl
/-- what settling makes of a time that is told already -/
theorem got_from {hs : List (Int × Int)} {ap g : Int} (h0 : 0 ≤ g) (hg : g = 0 ∨ ∃ x ∈ hs, x.2 ≤ ap ∧ x.1 = g) : hs.foldl (stp ap) g = gotF hs ap := by
  refine got_eq ⟨fold_all ap hs g, ?_, Int.le_trans h0 (fold_ge ap hs g)⟩
  rcases fold_one ap hs g with e | ⟨x, hx, h1, e⟩
  · rw [e]; exact hg
  · exact .inr ⟨x, hx, h1, e.symm⟩
theorem got_from_old {hs hs' : List (Int × Int)} {ap ap' : Int} (hsub : ∀ x ∈ hs, x ∈ hs') (hap : ap ≤ ap') : hs'.foldl (stp ap') (gotF hs ap) = gotF hs' ap' := by
  obtain ⟨b1, b2, b3⟩ := got_is hs ap
  exact got_from b3 (b2.imp id fun ⟨x, hx, h1, h2⟩ => ⟨x, hsub x hx, by omega, h2⟩)
/-! ### The map of hearts -/
abbrev DM := DataW Unit
def lk (k : Int) : Lit := .int .i64 k
def hm (D : DM) (k : Int) : Option Int := match D.atKey (lk k) .nil with | .lit (.int .u64 v) => some v | _ => none
theorem hm_put_same {D : DM} (hD : Maps.IsMap D) (k v : Int) : hm (D.put (lk k) (.lit (.int .u64 v))) k = some v := by
  unfold hm
  rw [Maps.atKey_put_same hD (show WideAt.IsKeyLit (lk k) from trivial)]
theorem lk_ne {k k' : Int} (h : k' ≠ k) : lk k' ≠ lk k := fun e => h (by cases e; rfl)
theorem hm_put_other (D : DM) {k k' : Int} (h : k' ≠ k) (d : DM) : hm (D.put (lk k) d) k' = hm D k' := by
  unfold hm
  rw [Maps.atKey_put_other (lk_ne h)]
theorem hm_del_same (D : DM) (k : Int) : hm (D.del (lk k)) k = none := by
  unfold hm
  rw [Maps.atKey_del_same]
theorem hm_del_other (D : DM) {k k' : Int} (h : k' ≠ k) : hm (D.del (lk k)) k' = hm D k' := by
  unfold hm
  rw [Maps.atKey_del_other (lk_ne h)]
theorem hm_of_at {D : DM} {k c : Int} (h : ∀ z, D.atKey (lk k) z = .lit (.int .u64 c)) : hm D k = some c := by
  unfold hm
  rw [h]
theorem hm_none {D : DM} {k : Int} (h : Maps.has D (lk k) = false) : hm D k = none := by
  unfold hm
  rw [Maps.atKey_of_not_has h]
theorem hm_empty (k : Int) : hm (.map []) k = none := rfl
theorem at_cases (D : DM) (k : Int) : (∀ z, D.atKey (lk k) z = z) ∨ ∃ d, ∀ z, D.atKey (lk k) z = d := by
  cases D <;> try exact .inl fun _ => rfl
  rename_i es
  unfold DataW.atKey
  simp only
  cases hf : es.find? (fun p => p.1.sameKey (lk k)) with
  | none => exact .inl fun _ => rfl
  | some p => exact .inr ⟨p.2, fun _ => rfl⟩
theorem hm_look {D : DM} {k c : Int} (h : D.atKey (lk k) (.lit (.int .u64 0)) = .lit (.int .u64 c)) : (hm D k = none ∧ c = 0) ∨ hm D k = some c := by
  rcases at_cases D k with hz | ⟨d, hd⟩
  · rw [hz] at h
    simp only [DataW.lit.injEq, Lit.int.injEq, true_and] at h
    exact .inl ⟨by unfold hm; rw [hz], h.symm⟩
  · rw [hd] at h
    subst h
    exact .inr (hm_of_at hd)
/-- what the program's map says of the hearts -/
def MapRel (hs : List (Int × Int)) (ap g : Int) (D : DM) : Prop :=
  (∀ x ∈ hs, ap < x.2 → x.1 ≤ g ∨ ∃ v, hm D x.2 = some v ∧ x.1 ≤ v) ∧ ∀ k v, hm D k = some v → ap < k ∧ (v, k) ∈ hs
theorem mapRel_0 (ap : Int) : MapRel [] ap 0 (.map []) := ⟨fun x hx => (by cases hx), fun k v h => (by rw [hm_empty] at h; cases h)⟩
/-- a heart that is reached -/
theorem mapRel_now {hs : List (Int × Int)} {ap g : Int} {D : DM} (h : MapRel hs ap g D) {x : Int × Int} (hx : x.2 ≤ ap) : MapRel (hs ++ [x]) ap (max g x.1) D := by
  refine ⟨fun y hy hy2 => ?_, fun k v hk => ⟨(h.2 k v hk).1, List.mem_append_left _ (h.2 k v hk).2⟩⟩
  rcases List.mem_append.1 hy with hy | hy
  · exact (h.1 y hy hy2).imp (fun h => by omega) id
  · rw [List.mem_singleton.1 hy] at hy2; omega
/-- one that says nothing -/
theorem mapRel_less {hs : List (Int × Int)} {ap g : Int} {D : DM} (h : MapRel hs ap g D) {x : Int × Int} (hx : x.1 ≤ g) : MapRel (hs ++ [x]) ap g D := by
  refine ⟨fun y hy hy2 => ?_, fun k v hk => ⟨(h.2 k v hk).1, List.mem_append_left _ (h.2 k v hk).2⟩⟩
  rcases List.mem_append.1 hy with hy | hy
  · exact h.1 y hy hy2
  · rw [List.mem_singleton.1 hy]; exact .inl hx
/-- one that is kept -/
theorem mapRel_put {hs : List (Int × Int)} {ap g c : Int} {D : DM} (h : MapRel hs ap g D) (hD : Maps.IsMap D) {x : Int × Int} (hx : ap < x.2) (h0 : 0 ≤ x.1) (hc : (hm D x.2 = none ∧ c = 0) ∨ hm D x.2 = some c) :
    MapRel (hs ++ [x]) ap g (D.put (lk x.2) (.lit (.int .u64 (max c x.1)))) := by
  have hs1 := hm_put_same hD x.2 (max c x.1)
  refine ⟨fun y hy hy2 => ?_, fun k v hk => ?_⟩
  · by_cases hk : y.2 = x.2
    · rcases List.mem_append.1 hy with hy | hy
      · rcases h.1 y hy hy2 with h1 | ⟨v, h1, h2⟩
        · exact .inl h1
        · rw [hk] at h1
          rcases hc with ⟨e, _⟩ | e
          · rw [e] at h1; cases h1
          · rw [e] at h1; cases h1
            exact .inr ⟨_, by rw [hk]; exact hs1, by omega⟩
      · exact .inr ⟨_, by rw [hk]; exact hs1, by rw [List.mem_singleton.1 hy]; omega⟩
    · rw [hm_put_other _ hk]
      rcases List.mem_append.1 hy with hy | hy
      · exact h.1 y hy hy2
      · exact absurd (by rw [List.mem_singleton.1 hy]) hk
  · by_cases hkk : k = x.2
    · subst hkk
      rw [hs1] at hk
      cases hk
      refine ⟨hx, ?_⟩
      rcases Int.le_total c x.1 with h1 | h1
      · rw [Int.max_eq_right h1]; simp
      · rcases hc with ⟨_, rfl⟩ | e
        · have : x.1 = 0 := by omega
          rw [Int.max_eq_left h1, ← this]; simp
        · rw [Int.max_eq_left h1]; exact List.mem_append_left _ (h.2 _ _ e).2
    · rw [hm_put_other _ hkk] at hk
      exact ⟨(h.2 k v hk).1, List.mem_append_left _ (h.2 k v hk).2⟩
/-- what is between the steps of going through the map -/
structure RL (D0 : DM) (ap g : Int) (D : DM) (left : Lit → Bool) (gr : Int) : Prop where
  i1 : ∀ k, hm D k = if left (lk k) = true ∨ ap < k then hm D0 k else none
  i2 : g ≤ gr ∧ ∀ k v, hm D0 k = some v → left (lk k) = false → k ≤ ap → v ≤ gr
  i3 : gr = g ∨ ∃ k v, hm D0 k = some v ∧ k ≤ ap ∧ gr = v
theorem rl_start (D0 : DM) (ap g : Int) : RL D0 ap g D0 (Maps.has D0) g := by
  refine ⟨fun k => ?_, ⟨Int.le_refl _, fun k v h1 h2 _ => ?_⟩, .inl rfl⟩
  · split
    · rfl
    · rename_i h
      exact hm_none (by cases hh : Maps.has D0 (lk k) with | false => rfl | true => exact absurd (.inl hh) h)
  · rw [hm_none h2] at h1; cases h1
theorem strike_ne {left : Lit → Bool} {x k : Int} (h : k ≠ x) : (left (lk k) && !(lk k).sameKey (lk x)) = left (lk k) := by
  rw [Maps.sameKey_ne (lk_ne h)]; simp
theorem strike_eq (left : Lit → Bool) (x : Int) : (left (lk x) && !(lk x).sameKey (lk x)) = false := by
  rw [WideAt.sameKey_self (show WideAt.IsKeyLit (lk x) from trivial)]; simp
section
variable {D0 D : DM} {ap g gr x c : Int} {left : Lit → Bool}
theorem RL.was (h : RL D0 ap g D left gr) (hl : left (lk x) = true) (hc : hm D x = some c) : hm D0 x = some c := by
  have := h.i1 x
  rw [if_pos (.inl hl), hc] at this
  exact this.symm
theorem RL.go_del (h : RL D0 ap g D left gr) (hl : left (lk x) = true) (hc : hm D x = some c) (hx : x ≤ ap) : RL D0 ap g (D.del (lk x)) (fun z => left z && !z.sameKey (lk x)) (max gr c) := by
  have h0 := h.was hl hc
  refine ⟨fun k => ?_, ⟨by have := h.i2.1; omega, fun k v h1 h2 h3 => ?_⟩, ?_⟩
  · by_cases hk : k = x
    · subst hk
      rw [hm_del_same, if_neg]
      rintro (e | e)
      · rw [strike_eq] at e; cases e
      · omega
    · rw [hm_del_other _ hk, h.i1 k]
      simp only [strike_ne hk]
  · by_cases hk : k = x
    · subst hk
      rw [h0] at h1; cases h1; omega
    · simp only [strike_ne hk] at h2
      have := h.i2.2 k v h1 h2 h3
      omega
  · rcases Int.le_total gr c with h1 | h1
    · exact .inr ⟨x, c, h0, hx, by omega⟩
    · rw [Int.max_eq_left h1]; exact h.i3
theorem RL.go_stay (h : RL D0 ap g D left gr) (hl : left (lk x) = true) (hc : hm D x = some c) (hx : ap < x) : RL D0 ap g D (fun z => left z && !z.sameKey (lk x)) gr := by
  refine ⟨fun k => ?_, ⟨h.i2.1, fun k v h1 h2 h3 => ?_⟩, h.i3⟩
  · by_cases hk : k = x
    · subst hk
      rw [if_pos (.inr hx), h.i1, if_pos (.inl hl)]
    · rw [h.i1 k]
      simp only [strike_ne hk]
  · have hk : k ≠ x := by omega
    simp only [strike_ne hk] at h2
    exact h.i2.2 k v h1 h2 h3
/-- at the end, where the hearts were told of an earlier place -/
theorem RL.done (h : RL D0 ap g D left gr) (hl : ∀ z, left z = false) {hs : List (Int × Int)} {ap0 : Int} (hm0 : MapRel hs ap0 (gotF hs ap0) D0) (hg : g = gotF hs ap0) (hap : ap0 ≤ ap) : gr = gotF hs ap ∧ MapRel hs ap (gotF hs ap) D := by
  obtain ⟨b1, b2, b3⟩ := got_is hs ap0
  have hgr : gr = gotF hs ap := by
    refine got_eq ⟨fun x hx hx2 => ?_, ?_, by have := h.i2.1; omega⟩
    · by_cases h2 : x.2 ≤ ap0
      · have := b1 x hx h2; have := h.i2.1; omega
      · rcases hm0.1 x hx (by omega) with h3 | ⟨v, h3, h4⟩
        · have := h.i2.1; omega
        · have := h.i2.2 _ v h3 (hl _) hx2; omega
    · rcases h.i3 with e | ⟨k, v, h1, h2, e⟩
      · rw [e, hg]
        exact b2.imp id fun ⟨x, hx, h1, h2⟩ => ⟨x, hx, by omega, h2⟩
      · exact .inr ⟨(v, k), (hm0.2 k v h1).2, h2, e.symm⟩
  refine ⟨hgr, fun x hx hx2 => ?_, fun k v hk => ?_⟩
  · rcases hm0.1 x hx (by omega) with h3 | ⟨v, h3, h4⟩
    · left
      have := got_mono hs hap
      omega
    · right
      exact ⟨v, by rw [h.i1, if_pos (.inr hx2)]; exact h3, h4⟩
  · rw [h.i1] at hk
    split at hk
    · rename_i h1
      rcases h1 with h1 | h1
      · rw [hl] at h1; cases h1
      · exact ⟨h1, (hm0.2 k v hk).2⟩
    · cases hk
end
/-! ### A box -/
structure Bx where
  first : Nat
  came : List Rc
  handed : Nat
  done : List Bool
  hearts : List (Int × Int)
structure Bx.lim (S : Bx) : Prop where
  f : S.first ≤ 1152921504606846976
  c : S.came.length ≤ 150
  h : S.hearts.length ≤ 150
def Bx.ap (S : Bx) : Nat := S.first + lead S.done
def Bx.nxt (S : Bx) : Nat := S.first + S.came.length
def Bx.g (S : Bx) : Int := gotF S.hearts S.ap
structure Bx.ok (S : Bx) : Prop where
  len : S.done.length = S.came.length
  hd : S.handed ≤ S.came.length
  nd : ∀ i, S.handed ≤ i → i < S.done.length → S.done[i]? = some false
  ht : ∀ x ∈ S.hearts, 0 ≤ x.1
theorem Bx.ok.lh {S : Bx} (h : S.ok) : lead S.done ≤ S.handed := by
  rcases Nat.lt_or_ge S.handed (lead S.done) with h1 | h1
  · have h2 := lead_lt h1
    rw [h.nd _ (Nat.le_refl _) (List.getElem?_eq_some_iff.1 h2).1] at h2
    cases h2
  · exact h1
/-- what the program keeps of it -/
def Bx.outs (S : Bx) : List Bool := (S.done.take S.handed).drop (lead S.done)
theorem Bx.ok.outs_len {S : Bx} (h : S.ok) : S.outs.length = S.handed - lead S.done := by
  unfold Bx.outs
  rw [List.length_drop, List.length_take, h.len, Nat.min_eq_left h.hd]
def B0 (at0 : Int) : Bx := ⟨at0.toNat, [], 0, [], []⟩
theorem ok_B0 (at0 : Int) : (B0 at0).ok := ⟨rfl, Nat.le_refl _, fun i _ h => by simp [B0] at h, fun x hx => by cases hx⟩
def bxE (S : Bx) (at0 : Int) : Int := if at0 < S.nxt then 11 else if (S.nxt : Int) < at0 then 7 else 0
def bxS (S : Bx) (at0 : Int) (r : Rc) : Bx := if at0 = S.nxt then { S with came := S.came ++ [r], done := S.done ++ [false] } else S
def nextS (S : Bx) : Bx := if S.handed < S.came.length then { S with handed := S.handed + 1 } else S
def isThere (S : Bx) : Bool := decide (S.handed < S.came.length)
/-- one that was handed out, and isn't told to be applied -/
def canDo (S : Bx) (at0 : Int) : Bool := decide ((S.first : Int) ≤ at0 ∧ at0 < (S.first : Int) + S.handed ∧ S.done[(at0 - S.first).toNat]? = some false)
def doneE (S : Bx) (at0 : Int) : Int := if canDo S at0 then 0 else 7
def doneS (S : Bx) (at0 : Int) : Bx := if canDo S at0 then { S with done := S.done.set (at0 - S.first).toNat true } else S
def heartS (S : Bx) (t n : Int) : Bx := { S with hearts := S.hearts ++ [(t, n)] }
theorem ok_put {S : Bx} (h : S.ok) (at0 : Int) (r : Rc) : (bxS S at0 r).ok := by
  unfold bxS
  split
  · refine ⟨by simp [h.len], by simp; have := h.hd; omega, fun i h1 h2 => ?_, h.ht⟩
    simp only [List.length_append, List.length_singleton] at h2
    rcases Nat.lt_or_ge i S.done.length with h3 | h3
    · rw [List.getElem?_append_left h3]; exact h.nd i h1 h3
    · obtain rfl : i = S.done.length := by omega
      simp
  · exact h
theorem ok_next {S : Bx} (h : S.ok) : (nextS S).ok := by
  unfold nextS
  split
  · exact ⟨h.len, by simpa, fun i h1 h2 => h.nd i (by simp only at h1; omega) h2, h.ht⟩
  · exact h
theorem ok_done {S : Bx} (h : S.ok) (at0 : Int) : (doneS S at0).ok := by
  unfold doneS
  split
  · rename_i hc
    unfold canDo at hc
    simp only [decide_eq_true_eq] at hc
    refine ⟨by simp [h.len], h.hd, fun i h1 h2 => ?_, h.ht⟩
    simp only [List.length_set] at h1 h2
    rw [List.getElem?_set, if_neg (by omega)]
    exact h.nd i h1 h2
  · exact h
theorem ok_heart {S : Bx} (h : S.ok) {t : Int} (ht : 0 ≤ t) (n : Int) : (heartS S t n).ok := ⟨h.len, h.hd, h.nd, fun x hx => by
  rcases List.mem_append.1 hx with hx | hx
  · exact h.ht x hx
  · rw [List.mem_singleton.1 hx]; exact ht⟩
theorem len_put (S : Bx) (at0 : Int) (r : Rc) : (bxS S at0 r).came.length ≤ S.came.length + 1 := by unfold bxS; split <;> simp
theorem first_put (S : Bx) (at0 : Int) (r : Rc) : (bxS S at0 r).first = S.first := by unfold bxS; split <;> rfl
theorem ap_put (S : Bx) (at0 : Int) (r : Rc) : (bxS S at0 r).ap = S.ap := by
  unfold bxS Bx.ap
  split
  · simp only [lead_app]
  · rfl
theorem ap_done (S : Bx) (at0 : Int) : S.ap ≤ (doneS S at0).ap := by
  unfold doneS Bx.ap
  split
  · have := lead_set S.done (at0 - S.first).toNat; simp only; omega
  · exact Nat.le_refl _
end Go.Proofs.Ytbfepdibblialaa.inM
