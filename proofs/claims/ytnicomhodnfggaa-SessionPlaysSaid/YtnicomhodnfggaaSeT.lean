/- What the law keeps of a key: what is written of it, and what was committed of it last; what it says of the session. -/
import Derived.Test.YtnicomhodnfggaaSeS
set_option linter.unusedVariables false
namespace Go.Proofs.Ytnicomhodnfggaa.seT
open Go opV opO chnM seM seS

structure Tk where
  mine : Ver
  last : Ver
  is : Bool
  was : Bool
def T0 : Tk := ⟨default, default, false, false⟩
def tkS (T : Tk) (S : Ss) (o : Oq) (key : ByteArray) : Tk :=
  if stE S o = 0 then
    (if o.kind = 0 then { T with is := false } else if o.kind = 1 then (if seq o.key key then { T with mine := wv key o.val o.gone, is := true } else T)
      else if o.kind = 2 then (if T.is then ⟨T.mine, sign o.ts o.dc o.tx T.mine, false, true⟩ else T) else if o.kind = 3 then { T with is := false } else T)
  else T
section
variable {S : Ss} {T : Tk} {o : Oq} {key : ByteArray}
theorem tk_no (hz : stE S o ≠ 0) : tkS T S o key = T := if_neg hz
theorem tk0 (hz : stE S o = 0) (h : o.kind = 0) : tkS T S o key = { T with is := false } := by unfold tkS; rw [if_pos hz, if_pos h]
theorem tk1y (hz : stE S o = 0) (h : o.kind = 1) (hk : seq o.key key = true) : tkS T S o key = { T with mine := wv key o.val o.gone, is := true } := by unfold tkS; rw [if_pos hz, if_neg (by omega), if_pos h, if_pos hk]
theorem tk1n (hz : stE S o = 0) (h : o.kind = 1) (hk : seq o.key key = false) : tkS T S o key = T := by unfold tkS; rw [if_pos hz, if_neg (by omega), if_pos h, if_neg (by rw [hk]; simp)]
theorem tk2y (hz : stE S o = 0) (h : o.kind = 2) (hi : T.is = true) : tkS T S o key = ⟨T.mine, sign o.ts o.dc o.tx T.mine, false, true⟩ := by unfold tkS; rw [if_pos hz, if_neg (by omega), if_neg (by omega), if_pos h, if_pos hi]
theorem tk2n (hz : stE S o = 0) (h : o.kind = 2) (hi : T.is = false) : tkS T S o key = T := by unfold tkS; rw [if_pos hz, if_neg (by omega), if_neg (by omega), if_pos h, if_neg (by rw [hi]; simp)]
theorem tk3 (hz : stE S o = 0) (h : o.kind = 3) : tkS T S o key = { T with is := false } := by unfold tkS; rw [if_pos hz, if_neg (by omega), if_neg (by omega), if_neg (by omega), if_pos h]
theorem tk4 (h0 : o.kind ≠ 0) (h1 : o.kind ≠ 1) (h2 : o.kind ≠ 2) (h3 : o.kind ≠ 3) : tkS T S o key = T := by
  unfold tkS
  rw [if_neg h0, if_neg h1, if_neg h2, if_neg h3]
  exact ite_self _
end
/-- what the law's words say of the session -/
structure TI (S : Ss) (T : Tk) (key : ByteArray) : Prop where
  ws : fnd S.ws key = if T.is then some T.mine else none
  ca : fnd S.ca key = if T.was = true ∧ S.snap < T.last.ts then some T.last else none
theorem ti_0 (key : ByteArray) : TI S0 T0 key := ⟨rfl, rfl⟩
section
variable {S : Ss} {T : Tk} {o : Oq} {key : ByteArray}
theorem fnd_snoc (a : List Ver) (x : Ver) (k : ByteArray) : fnd (a ++ [x]) k = (fnd a k).or (if seq x.key k then some x else none) := by
  unfold fnd
  rw [List.find?_append]
  congr 1
  cases h : seq x.key k <;> simp [List.find?, h]
theorem fnd_take_none (hu : Up S.ws) {j : Nat} (hj : j < S.ws.length) : fnd (S.ws.take j) (nt S.ws j).key = none := by
  refine fnd_none fun x hx e => ?_
  obtain ⟨i, hi, rfl⟩ := mem_nt hx
  rw [List.length_take] at hi
  have e2 : nt (S.ws.take j) i = nt S.ws i := by rw [nt_at (by rw [List.length_take]; omega), List.getElem_take, nt_at (by omega)]
  rw [e2] at e
  have := hu.lt (i := i) (j := j) (by omega) hj
  rw [e, slt_irr] at this; cases this
theorem fnd_caJ (hu : Up S.ws) (ts dc tx : Int) : ∀ j, j ≤ S.ws.length → fnd (caJ S ts dc tx j) key = ((fnd (S.ws.take j) key).map (sign ts dc tx)).or (fnd S.ca key)
  | 0, _ => rfl
  | j + 1, hj => by
    have ih := fnd_caJ hu ts dc tx j (by omega)
    unfold caJ
    rw [fnd_pK, take_nt (by omega), fnd_snoc]
    show (if key = (nt S.ws j).key then _ else _) = _
    by_cases h : key = (nt S.ws j).key
    · rw [if_pos h, h, fnd_take_none hu (by omega), seq_self]
      rfl
    · rw [if_neg h, ih, seq_ne fun e => h e.symm]
      simp
theorem fnd_pK_ne (l : List Ver) (v : Ver) (h : key ≠ v.key) : fnd (pK l v) key = fnd l key := by rw [fnd_pK, if_neg h]
theorem ti_st (h : TI S T key) (hok : S.ok) : TI (stS S o) (tkS T S o key) key := by
  by_cases hz : stE S o = 0
  · unfold tkS
    rw [if_pos hz]
    rcases five_ways o.kind with e | e | e | e | ⟨e0, e1, e2, e3⟩
    · rw [(st0 e).1, if_pos e]
      rw [(st0 e).2] at hz
      unfold beE at hz
      have hop : S.op = false := by
        cases hs : S.op
        · rfl
        · rw [hs] at hz; simp at hz
      have hw := hok.cl hop
      unfold beS
      rw [hop, if_neg (by simp)]
      refine ⟨by simp only; rw [hw]; rfl, ?_⟩
      simp only
      rw [hok.uc.fnd_filter, h.ca]
      by_cases h1 : T.was = true ∧ S.snap < T.last.ts
      · rw [if_pos h1, Option.filter_some]
        by_cases h2 : max S.snap o.t < T.last.ts
        · have e9 : newer (max S.snap o.t) T.last = true := decide_eq_true h2
          rw [e9, if_pos rfl, if_pos ⟨h1.1, h2⟩]
        · have e9 : newer (max S.snap o.t) T.last = false := decide_eq_false h2
          rw [e9, if_neg (by simp), if_neg (fun h => h2 h.2)]
      · rw [if_neg h1, if_neg (fun h2 => h1 ⟨h2.1, by have := h2.2; omega⟩)]; rfl
    · rw [(st1 e).1, if_neg (by omega), if_pos e]
      rw [(st1 e).2] at hz
      unfold wrS
      rw [if_pos hz]
      cases hq : seq o.key key with
      | true =>
        have hk := (seq_iff _ _).1 hq
        rw [if_pos rfl, hk]
        exact ⟨by simp only; rw [fnd_pK]; show (if key = key then _ else _) = _; rw [if_pos rfl]; rfl, h.ca⟩
      | false =>
        rw [if_neg (by simp)]
        have hk : key ≠ o.key := fun e => by rw [e, seq_self] at hq; cases hq
        exact ⟨by simp only; rw [fnd_pK_ne _ _ hk]; exact h.ws, h.ca⟩
    · rw [(st2 e).1, if_neg (by omega), if_neg (by omega), if_pos e]
      rw [(st2 e).2] at hz
      obtain ⟨z1, z2⟩ := co_zero hz
      have z3 : S.snap < o.ts := by unfold low at z2; omega
      unfold coS
      rw [if_pos hz]
      have hc := fnd_caJ (key := key) hok.up o.ts o.dc o.tx S.ws.length (Nat.le_refl _)
      rw [List.take_length, h.ws] at hc
      cases hi : T.is with
      | true =>
        rw [hi, if_pos rfl] at hc
        rw [if_pos rfl]
        refine ⟨rfl, ?_⟩
        show fnd (caJ S o.ts o.dc o.tx S.ws.length) key = if (true = true ∧ S.snap < o.ts) then some (sign o.ts o.dc o.tx T.mine) else none
        rw [hc, if_pos ⟨rfl, z3⟩]
        rfl
      | false =>
        rw [hi, if_neg (by simp)] at hc
        rw [if_neg (by simp)]
        refine ⟨by simp only; rw [hi]; rfl, ?_⟩
        simp only
        rw [hc]
        exact h.ca
    · rw [(st3 e).1, if_neg (by omega), if_neg (by omega), if_neg (by omega), if_pos e]
      exact ⟨rfl, h.ca⟩
    · rw [(st4 e0 e1 e2 e3).1, if_neg e0, if_neg e1, if_neg e2, if_neg e3]
      exact h
  · unfold tkS
    rw [if_neg hz]
    rcases five_ways o.kind with e | e | e | e | ⟨e0, e1, e2, e3⟩
    · rw [(st0 e).1]
      rw [(st0 e).2] at hz
      unfold beE at hz
      have hop : S.op = true := by
        cases hs : S.op
        · rw [hs] at hz; simp at hz
        · rfl
      unfold beS
      rw [hop, if_pos rfl]
      exact h
    · rw [(st1 e).1]
      rw [(st1 e).2] at hz
      unfold wrS
      rw [if_neg hz]
      exact h
    · rw [(st2 e).1]
      rw [(st2 e).2] at hz
      unfold coS
      rw [if_neg hz]
      exact h
    · rw [(st3 e).1]
      rw [(st3 e).2] at hz
      unfold clE at hz
      have hop : S.op = false := by
        cases hs : S.op
        · rfl
        · rw [hs] at hz; simp at hz
      have hw := hok.cl hop
      have e2 : clS S = S := by unfold clS; cases S; simp only at hop hw; rw [hop, hw]
      rw [e2]
      exact h
    · rw [(st4 e0 e1 e2 e3).1]
      exact h
/-- what is looked up -/
theorem ti_look (h : TI S T key) : (S.op = false ∧ lkN S key = 0) ∨ (S.op = true ∧ T.is = true ∧ lkN S key = 1 ∧ lkV S key = T.mine) ∨
    (S.op = true ∧ T.is = false ∧ T.was = true ∧ S.snap < T.last.ts ∧ lkN S key = 2 ∧ lkV S key = T.last) ∨
    (S.op = true ∧ T.is = false ∧ T.was = true ∧ ¬ S.snap < T.last.ts ∧ lkN S key = 0) ∨ (S.op = true ∧ T.is = false ∧ T.was = false ∧ lkN S key = 0) := by
  have hi : is S.ws key = T.is := by unfold seM.is; rw [h.ws]; cases T.is <;> rfl
  cases hop : S.op with
  | false => exact .inl ⟨rfl, by unfold lkN; rw [if_pos hop]⟩
  | true =>
    right
    have hn : ¬ S.op = false := by rw [hop]; simp
    cases ht : T.is with
    | true =>
      left
      refine ⟨rfl, rfl, by unfold lkN; rw [if_neg hn, hi, ht]; rfl, ?_⟩
      unfold lkV; rw [if_neg hn, h.ws, ht]; rfl
    | false =>
      right
      have hw : fnd S.ws key = none := by rw [h.ws, ht]; rfl
      have hN : lkN S key = if is S.ca key then 2 else 0 := by unfold lkN; rw [if_neg hn, hi, ht]; rfl
      have hV : lkV S key = (fnd S.ca key).getD default := by unfold lkV; rw [if_neg hn, hw]
      have hc : is S.ca key = decide (T.was = true ∧ S.snap < T.last.ts) := by
        unfold seM.is; rw [h.ca]
        by_cases h1 : T.was = true ∧ S.snap < T.last.ts
        · rw [if_pos h1, decide_eq_true h1]; rfl
        · rw [if_neg h1, decide_eq_false h1]; rfl
      cases hwas : T.was with
      | false =>
        right; right
        exact ⟨rfl, rfl, rfl, by rw [hN, hc, hwas]; simp⟩
      | true =>
        by_cases h2 : S.snap < T.last.ts
        · left
          exact ⟨rfl, rfl, rfl, h2, by rw [hN, hc, hwas]; simp [h2], by rw [hV, h.ca, if_pos ⟨hwas, h2⟩]; rfl⟩
        · right; left
          exact ⟨rfl, rfl, rfl, h2, by rw [hN, hc]; simp [h2]⟩
end
/-- behind j calls -/
def tn (l : List Oq) (key : ByteArray) : Nat → Tk
  | 0 => T0
  | j + 1 => tkS (tn l key j) (rn l j) (nt l j) key
theorem tn_ti (l : List Oq) (key : ByteArray) : ∀ j, TI (rn l j) (tn l key j) key
  | 0 => ti_0 key
  | j + 1 => ti_st (tn_ti l key j) (rn_ok l j)
end Go.Proofs.Ytnicomhodnfggaa.seT
