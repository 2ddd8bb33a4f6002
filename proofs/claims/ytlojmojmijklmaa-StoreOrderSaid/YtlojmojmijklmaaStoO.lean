/- Plain facts of stores: the order of puts makes no difference. -/
import Derived.Test.YtlojmojmijklmaaStoX
import Derived.Test.YtlojmojmijklmaaStoY
set_option linter.unusedVariables false
namespace Go.Proofs.Ytlojmojmijklmaa.stoO
open Go opV chnM chnT stoM stoX stoY

/-- what a store holds of the versions that were put, floor f -/
def Kp (P : List Ver) (f : Int) (k : ByteArray) (x : Ver) : Prop := x ∈ P ∧ chk x = 0 ∧ x.key = k ∧ ∀ y ∈ P, chk y = 0 → y.key = k → y.ts ≤ f → lt x y = false
structure Rep (P : List Ver) (s : St) : Prop where
  inv : Inv s
  mem : ∀ k x, x ∈ of s.ch k ↔ Kp P s.fl k x
theorem keep_iff (l : List Ver) (s : Int) (x : Ver) : keep l s x = true ↔ ∀ y ∈ l, y.ts ≤ s → lt x y = false := by
  cases h : atB l s with
  | false =>
    refine ⟨fun _ y hy hs => absurd hs ((at_no h).1 y hy), fun _ => by unfold keep; rw [h]; rfl⟩
  | true =>
    obtain ⟨h1, h2, h3⟩ := at_yes h
    unfold keep
    rw [h]
    refine ⟨fun hk y hy hs => ?_, fun hk => by rw [hk _ h1 h2]; rfl⟩
    have hk' : lt x (atV l s) = false := by simpa using hk
    cases e : lt x y
    · rfl
    · rw [lt_up e (h3 y hy hs)] at hk'; cases hk'
theorem mem_trm' {l : List Ver} {s : Int} {x : Ver} : x ∈ trm l s ↔ x ∈ l ∧ ∀ y ∈ l, y.ts ≤ s → lt x y = false := by rw [mem_trm, keep_iff]
/-- one of them is not below any other -/
theorem top_of (p : Ver → Prop) : ∀ (P : List Ver), (∃ y ∈ P, p y) → ∃ z ∈ P, p z ∧ ∀ y ∈ P, p y → lt z y = false
  | [], h => by obtain ⟨y, hy, _⟩ := h; cases hy
  | a :: P, h => by
    by_cases hP : ∃ y ∈ P, p y
    · obtain ⟨z, hz, pz, hm⟩ := top_of p P hP
      by_cases ha : p a
      · by_cases hl : lt z a = true
        · refine ⟨a, by simp, ha, fun y hy py => ?_⟩
          rcases List.mem_cons.1 hy with rfl | hy
          · exact lt_self _
          · cases e : lt a y
            · rfl
            · have h2 := lt_trans hl e
              rw [hm y hy py] at h2; cases h2
        · refine ⟨z, by simp [hz], pz, fun y hy py => ?_⟩
          rcases List.mem_cons.1 hy with rfl | hy
          · simpa using hl
          · exact hm y hy py
      · refine ⟨z, by simp [hz], pz, fun y hy py => ?_⟩
        rcases List.mem_cons.1 hy with rfl | hy
        · exact absurd py ha
        · exact hm y hy py
    · obtain ⟨y, hy, py⟩ := h
      rcases List.mem_cons.1 hy with rfl | hy'
      · refine ⟨y, by simp, py, fun z hz pz => ?_⟩
        rcases List.mem_cons.1 hz with rfl | hz
        · exact lt_self _
        · exact absurd ⟨z, hz, pz⟩ hP
      · exact absurd ⟨y, hy', py⟩ hP
theorem Rep.new : Rep [] St.new := ⟨Inv.new, fun k x => ⟨fun h => (by cases h), fun h => (by cases h.1)⟩⟩
/-- the one that stands highest at or below the floor lies in the chain -/
theorem Rep.top {P : List Ver} {s : St} (h : Rep P s) {k : ByteArray} {y : Ver} (hy : y ∈ P) (hc : chk y = 0) (hk : y.key = k) (hf : y.ts ≤ s.fl) : ∃ z ∈ of s.ch k, z.ts ≤ s.fl ∧ lt z y = false := by
  obtain ⟨z, hz, ⟨z1, z2, z3⟩, hm⟩ := top_of (fun y => chk y = 0 ∧ y.key = k ∧ y.ts ≤ s.fl) P ⟨y, hy, hc, hk, hf⟩
  exact ⟨z, (h.mem k z).2 ⟨hz, z1, z2, fun u hu u1 u2 u3 => hm u hu ⟨u1, u2, u3⟩⟩, z3, hm y hy ⟨hc, hk, hf⟩⟩
theorem Rep.put {P : List Ver} {s : St} (h : Rep P s) {v : Ver} (hd : ∀ x ∈ P, x.key = v.key → mk3 x ≠ mk3 v) : Rep (P ++ [v]) (puS s v) := by
  have hin : ∀ x, x ∈ P ++ [v] ↔ x ∈ P ∨ x = v := fun x => by simp
  by_cases hc : chk v = 0
  · have hE : putE (of s.ch v.key) v = 0 := putE_zero.2 fun x hx => by
      obtain ⟨h1, _, h3, _⟩ := (h.mem _ x).1 hx
      exact hd x h1 h3
    cases hb : (atB (of s.ch v.key) s.fl && lt v (atV (of s.ch v.key) s.fl)) with
    | true =>
      have he : puE s v = 11 := by unfold puE; rw [if_neg (by omega), if_neg (by omega), if_pos hb]
      have es : puS s v = s := by unfold puS; rw [if_neg (by omega)]
      rw [es]
      obtain ⟨b1, b2⟩ := (Bool.and_eq_true_iff.1 hb)
      obtain ⟨m1, m2, m3⟩ := at_yes b1
      obtain ⟨p1, p2, p3, p4⟩ := (h.mem _ _).1 m1
      refine ⟨h.inv, fun k x => ?_⟩
      rw [h.mem k x]
      constructor
      · rintro ⟨x1, x2, x3, x4⟩
        refine ⟨(hin x).2 (.inl x1), x2, x3, fun y hy y1 y2 y3 => ?_⟩
        rcases (hin y).1 hy with hy | rfl
        · exact x4 y hy y1 y2 y3
        · cases e : lt x y
          · rfl
          · have := x4 _ p1 p2 (p3.trans y2) m2
            rw [lt_trans e b2] at this; cases this
      · rintro ⟨x1, x2, x3, x4⟩
        rcases (hin x).1 x1 with x1 | rfl
        · exact ⟨x1, x2, x3, fun y hy => x4 y ((hin y).2 (.inl hy))⟩
        · have := x4 _ ((hin _).2 (.inl p1)) p2 (p3.trans x3) m2
          rw [b2] at this; cases this
    | false =>
      have he : puE s v = 0 := by unfold puE; rw [if_neg (by omega), if_neg (by omega), if_neg (by rw [hb]; simp)]
      refine ⟨h.inv.put v, fun k x => ?_⟩
      obtain ⟨o1, o2⟩ := puS_of h.inv he k
      rw [o1, o2]
      by_cases hk : k = v.key
      · subst hk
        rw [if_pos rfl]
        unfold puC
        rw [mem_trm', mem_put, h.mem]
        constructor
        · rintro ⟨hx, hl⟩
          have hl' : ∀ y ∈ of s.ch v.key, y.ts ≤ s.fl → lt x y = false := fun y hy => hl y (mem_put.2 (.inr hy))
          rcases hx with rfl | ⟨x1, x2, x3, x4⟩
          · refine ⟨(hin _).2 (.inr rfl), hc, rfl, fun y hy y1 y2 y3 => ?_⟩
            rcases (hin y).1 hy with hy | rfl
            · obtain ⟨z, z1, z2, z3⟩ := h.top hy y1 y2 y3
              cases e : lt x y
              · rfl
              · have := hl' z z1 z2
                rw [lt_up e z3] at this; cases this
            · exact lt_self _
          · refine ⟨(hin x).2 (.inl x1), x2, x3, fun y hy y1 y2 y3 => ?_⟩
            rcases (hin y).1 hy with hy | rfl
            · exact x4 y hy y1 y2 y3
            · exact hl y (mem_put.2 (.inl rfl)) y3
        · rintro ⟨x1, x2, x3, x4⟩
          refine ⟨?_, fun y hy y3 => ?_⟩
          · rcases (hin x).1 x1 with x1 | rfl
            · exact .inr ⟨x1, x2, x3, fun y hy => x4 y ((hin y).2 (.inl hy))⟩
            · exact .inl rfl
          · rcases mem_put.1 hy with rfl | hy
            · exact x4 _ ((hin _).2 (.inr rfl)) hc rfl y3
            · obtain ⟨y1, y2, y4, _⟩ := (h.mem _ y).1 hy
              exact x4 y ((hin y).2 (.inl y1)) y2 y4 y3
      · rw [if_neg hk, h.mem]
        constructor
        · rintro ⟨x1, x2, x3, x4⟩
          refine ⟨(hin x).2 (.inl x1), x2, x3, fun y hy y1 y2 y3 => ?_⟩
          rcases (hin y).1 hy with hy | rfl
          · exact x4 y hy y1 y2 y3
          · exact absurd y2.symm hk
        · rintro ⟨x1, x2, x3, x4⟩
          rcases (hin x).1 x1 with x1 | rfl
          · exact ⟨x1, x2, x3, fun y hy => x4 y ((hin y).2 (.inl hy))⟩
          · exact absurd x3.symm hk
  · have es : puS s v = s := by
      unfold puS
      rw [if_neg (by unfold puE; rw [if_pos hc]; exact hc)]
    rw [es]
    refine ⟨h.inv, fun k x => ?_⟩
    rw [h.mem k x]
    constructor
    · rintro ⟨x1, x2, x3, x4⟩
      refine ⟨(hin x).2 (.inl x1), x2, x3, fun y hy y1 y2 y3 => ?_⟩
      rcases (hin y).1 hy with hy | rfl
      · exact x4 y hy y1 y2 y3
      · exact absurd y1 hc
    · rintro ⟨x1, x2, x3, x4⟩
      rcases (hin x).1 x1 with x1 | rfl
      · exact ⟨x1, x2, x3, fun y hy => x4 y ((hin y).2 (.inl hy))⟩
      · exact absurd x2 hc
theorem of_tm {ch : List Ch} (hs : Srt ch) (g : Int) (k : ByteArray) : of (tmC ch g) k = trm (of ch k) g := by
  have hs' : Srt (tmC ch g) := List.pairwise_map.2 hs
  rcases of_cases hs k with ⟨c, hc, rfl, e⟩ | ⟨h0, e⟩ <;> rw [e]
  · exact of_some (c := tm1 g c) hs' (List.mem_map.2 ⟨c, hc, rfl⟩)
  · rw [of_none fun c hc => by obtain ⟨d, hd, rfl⟩ := List.mem_map.1 hc; exact h0 d hd]
    rfl
theorem Rep.trim {P : List Ver} {s : St} (h : Rep P s) {g : Int} (hg : s.fl ≤ g) : Rep P ⟨tmC s.ch g, g⟩ := by
  refine ⟨h.inv.trim g g, fun k x => ?_⟩
  show x ∈ of (tmC s.ch g) k ↔ Kp P g k x
  rw [of_tm h.inv.srt, mem_trm', h.mem]
  constructor
  · rintro ⟨⟨x1, x2, x3, x4⟩, hl⟩
    refine ⟨x1, x2, x3, fun y hy y1 y2 y3 => ?_⟩
    by_cases hf : y.ts ≤ s.fl
    · exact x4 y hy y1 y2 hf
    · refine hl y ((h.mem k y).2 ⟨hy, y1, y2, fun z _ _ _ z3 => ?_⟩) y3
      rw [lt_no]; omega
  · rintro ⟨x1, x2, x3, x4⟩
    refine ⟨⟨x1, x2, x3, fun y hy y1 y2 y3 => x4 y hy y1 y2 (by omega)⟩, fun y hy y3 => ?_⟩
    obtain ⟨y1, y2, y4, _⟩ := (h.mem k y).1 hy
    exact x4 y y1 y2 y4 y3
/-- no two of one key and one mark -/
def Dis (a b : Ver) : Prop := a.key = b.key → mk3 a ≠ mk3 b
theorem Rep.load {P l : List Ver} {s : St} (h : Rep P s) (hd : (P ++ l).Pairwise Dis) : ∀ j, j ≤ l.length → Rep (P ++ l.take j) (loS s l j)
  | 0, _ => by simpa [loS] using h
  | j + 1, hj => by
    have h1 := Rep.load h hd j (by omega)
    have e : P ++ l.take (j + 1) = (P ++ l.take j) ++ [nt l j] := by rw [take_nt (by omega), List.append_assoc]
    rw [e]
    refine h1.put fun x hx hk => ?_
    have hd' : ((P ++ l.take j) ++ l.drop j).Pairwise Dis := by rw [List.append_assoc, List.take_append_drop]; exact hd
    exact (List.pairwise_append.1 hd').2.2 x hx (nt l j) (by rw [nt_at (by omega : j < l.length)]; exact List.mem_drop_iff_getElem.2 ⟨0, by omega, by simp⟩) hk
/-- a store is known by what its chains hold -/
theorem ch_ext : ∀ {a b : List Ch}, Srt a → Srt b → (∀ c, c ∈ a ↔ c ∈ b) → a = b
  | [], [], _, _, _ => rfl
  | [], y :: b, _, _, h => absurd ((h y).2 (by simp)) (by simp)
  | x :: a, [], _, _, h => absurd ((h x).1 (by simp)) (by simp)
  | x :: a, y :: b, ha, hb, h => by
    obtain ⟨a1, a2⟩ := List.pairwise_cons.1 ha
    obtain ⟨b1, b2⟩ := List.pairwise_cons.1 hb
    have irr : ∀ k : ByteArray, ¬ slt k k = true := fun k e => by rw [slt_irr] at e; cases e
    have e : x = y := by
      rcases List.mem_cons.1 ((h x).1 (by simp)) with e | hx
      · exact e
      · rcases List.mem_cons.1 ((h y).2 (by simp)) with e | hy
        · exact e.symm
        · exact absurd (slt_trans (a1 y hy) (b1 x hx)) (irr _)
    subst e
    congr 1
    refine ch_ext a2 b2 fun z => ⟨fun hz => ?_, fun hz => ?_⟩
    · rcases List.mem_cons.1 ((h z).1 (List.mem_cons_of_mem _ hz)) with e | h'
      · subst e; exact absurd (a1 z hz) (irr _)
      · exact h'
    · rcases List.mem_cons.1 ((h z).2 (List.mem_cons_of_mem _ hz)) with e | h'
      · subst e; exact absurd (b1 z hz) (irr _)
      · exact h'
theorem ch_of {s t : St} (h : Inv s) (g : Inv t) (e : ∀ k, of s.ch k = of t.ch k) : s.ch = t.ch := by
  have one : ∀ {s t : St}, Inv s → Inv t → (∀ k, of s.ch k = of t.ch k) → ∀ c, c ∈ s.ch → c ∈ t.ch := by
    intro s t h g e c hc
    have e1 := e c.key
    rw [of_some h.srt hc] at e1
    rcases of_cases g.srt c.key with ⟨d, hd, e2, e3⟩ | ⟨_, e3⟩
    · rw [e3] at e1
      have : c = d := by cases c; cases d; simp only at e1 e2; rw [e1, e2]
      rw [this]; exact hd
    · rw [e3] at e1
      exact absurd e1 (h.ne c hc)
  exact ch_ext h.srt g.srt fun c => ⟨one h g e c, one g h (fun k => (e k).symm) c⟩
theorem Rep.same {P Q : List Ver} {s t : St} (h : Rep P s) (g : Rep Q t) (hf : s.fl = t.fl) (hm : ∀ x, x ∈ P ↔ x ∈ Q) : s.ch = t.ch :=
  ch_of h.inv g.inv fun k => chain_same (of_chain h.inv k) (of_chain g.inv k) fun x => by
    rw [h.mem, g.mem, hf]
    unfold Kp
    simp only [hm]
end Go.Proofs.Ytlojmojmijklmaa.stoO
