/- Plain facts of stores: what is loaded out of one store into another one is the same there. -/
import Derived.Test.YtlojmojmijklmaaStoX
set_option linter.unusedVariables false
namespace Go.Proofs.Ytlojmojmijklmaa.stoY
open Go opV chnM chnT stoM stoX

theorem loS_take (s : St) (l : List Ver) : ∀ j, j ≤ l.length → loS s l j = (l.take j).foldl puS s
  | 0, _ => rfl
  | j + 1, hj => by
    show puS (loS s l j) (nt l j) = _
    rw [loS_take s l j (by omega), take_nt (by omega), List.foldl_append]; rfl
theorem loS_all (s : St) (l : List Ver) : loS s l l.length = l.foldl puS s := by rw [loS_take s l _ (Nat.le_refl _), List.take_length]
/-- each is taken -/
def Ok (s : St) : List Ver → Prop
  | [] => True
  | v :: r => puE s v = 0 ∧ Ok (puS s v) r
theorem ok_at : ∀ (l : List Ver) (s : St), Ok s l → ∀ j, j < l.length → puE ((l.take j).foldl puS s) (nt l j) = 0
  | [], _, _, j, hj => by simp at hj
  | v :: r, s, h, 0, _ => h.1
  | v :: r, s, h, j + 1, hj => ok_at r (puS s v) h.2 j (by simpa using hj)
theorem ok_num {s : St} {l : List Ver} (h : Ok s l) : ∀ j, j ≤ l.length → loN s l j = j
  | 0, _ => rfl
  | j + 1, hj => by
    show loN s l j + _ = _
    rw [ok_num h j (by omega), loS_take s l j (by omega), if_pos (ok_at l s h j (by omega))]
theorem ok_app {s : St} {a b : List Ver} (h1 : Ok s a) (h2 : Ok (a.foldl puS s) b) : Ok s (a ++ b) := by
  induction a generalizing s with
  | nil => exact h2
  | cons v r ih => exact ⟨h1.1, ih h1.2 h2⟩
/-- all versions are right -/
def Ck (s : St) : Prop := ∀ c ∈ s.ch, ∀ v ∈ c.l, chk v = 0
theorem ck_put {s : St} (h : Inv s) (hc : Ck s) (u : Ver) : Ck (puS s u) := by
  unfold puS
  split
  · rename_i hu
    obtain ⟨h1, _, _⟩ := puE_zero hu
    intro c hc2 v hv
    rcases (mem_stC h.srt).1 hc2 with rfl | ⟨hc2, _⟩
    · rcases mem_put.1 (mem_trm.1 hv).1 with rfl | hv
      · exact h1
      · rcases of_cases h.srt u.key with ⟨d, hd, _, e⟩ | ⟨_, e⟩
        · rw [e] at hv; exact hc d hd v hv
        · rw [e] at hv; cases hv
    · exact hc c hc2 v hv
  · exact hc
theorem ck_load {s : St} (h : Inv s) (hc : Ck s) (l : List Ver) : ∀ j, Ck (loS s l j)
  | 0 => hc
  | j + 1 => ck_put (Inv.load h l j).1 (ck_load h hc l j) _
theorem ck_trim {s : St} (hc : Ck s) (f g : Int) : Ck ⟨tmC s.ch f, g⟩ := by
  intro c hc2 v hv
  obtain ⟨d, hd, rfl⟩ := List.mem_map.1 hc2
  exact hc d hd v (mem_trm.1 hv).1
/-- a beginning of a trimmed chain is trimmed -/
theorem trm_pre {l p r : List Ver} {f : Int} (e : l = p ++ r) (h : trm l f = l) : trm p f = p := by
  cases hb : atB p f with
  | false => exact trm_all hb
  | true =>
    obtain ⟨h1, h2, h3⟩ := at_yes hb
    have hm : atV p f ∈ l := by rw [e]; exact List.mem_append_left _ h1
    have hbl := at_some hm h2
    obtain ⟨k1, k2, k3⟩ := at_yes hbl
    unfold trm
    rw [List.filter_eq_self]
    intro x hx
    have hxl : x ∈ trm l f := by rw [h, e]; exact List.mem_append_left _ hx
    have hk := (mem_trm.1 hxl).2
    unfold keep at hk ⊢
    rw [hbl] at hk
    rw [hb]
    have hk2 : lt x (atV l f) = false := by simpa using hk
    have h4 : lt x (atV p f) = false := le_trans (k3 _ hm h2) hk2
    rw [h4]; rfl
theorem put_end {p : List Ver} {v : Ver} (h : ∀ x ∈ p, lt x v = true) : putE p v = 0 ∧ put p v = p ++ [v] := by
  have h0 : putE p v = 0 := putE_zero.2 fun x hx => lt_ne (h x hx)
  refine ⟨h0, ?_⟩
  have hi : putI p v = p.length := idx_all _ p fun i hi => lt_not (h _ (nt_mem hi))
  unfold put insA
  rw [hi, List.take_length, List.drop_length]
theorem stC_end {C : List Ch} {k : ByteArray} {q l : List Ver} (hs : Srt C) (hk : ∀ c ∈ C, slt c.key k = true) : stC C k l = C ++ [⟨k, l⟩] ∧ stC (C ++ [⟨k, q⟩]) k l = C ++ [⟨k, l⟩] := by
  have hb : bfo C k = C := by unfold bfo; rw [List.filter_eq_self]; exact hk
  have ha : aft C k = [] := by
    unfold aft; rw [List.filter_eq_nil_iff]
    intro c hc hx
    have := slt_trans (hk c hc) hx
    rw [slt_irr] at this; cases this
  have hs2 : Srt (C ++ [⟨k, q⟩]) := List.pairwise_append.2 ⟨hs, List.pairwise_singleton _ _, fun a ha b hb => by rw [List.mem_singleton.1 hb]; exact hk a ha⟩
  refine ⟨by rw [stC_is hs, hb, ha]; simp, ?_⟩
  rw [stC_is hs2]
  have h1 : bfo (C ++ [⟨k, q⟩]) k = C := by
    unfold bfo at hb ⊢
    rw [List.filter_append, hb]
    simp [slt_irr]
  have h2 : aft (C ++ [⟨k, q⟩]) k = [] := by
    unfold aft at ha ⊢
    rw [List.filter_append, ha]
    simp [slt_irr]
  rw [h1, h2]; simp
/-- a part of a chain that is there already -/
def prt (k : ByteArray) (p : List Ver) : List Ch := if p = [] then [] else [⟨k, p⟩]
theorem of_prt {C : List Ch} {k : ByteArray} {p : List Ver} (hs : Srt C) (hk : ∀ c ∈ C, slt c.key k = true) : of (C ++ prt k p) k = p := by
  have hne : ∀ c ∈ C, c.key ≠ k := fun c hc e => by have := hk c hc; rw [e, slt_irr] at this; cases this
  unfold prt
  split
  · rename_i h; rw [List.append_nil, h]; exact of_none hne
  · have hs2 : Srt (C ++ [⟨k, p⟩]) := List.pairwise_append.2 ⟨hs, List.pairwise_singleton _ _, fun a ha b hb => by rw [List.mem_singleton.1 hb]; exact hk a ha⟩
    exact of_some (c := ⟨k, p⟩) hs2 (List.mem_append_right _ (List.mem_singleton.2 rfl))
theorem stC_prt {C : List Ch} {k : ByteArray} {p l : List Ver} (hs : Srt C) (hk : ∀ c ∈ C, slt c.key k = true) : stC (C ++ prt k p) k l = C ++ [⟨k, l⟩] := by
  unfold prt
  split
  · rw [List.append_nil]; exact (stC_end (q := []) hs hk).1
  · exact (stC_end hs hk).2
theorem load_chain {C : List Ch} {k : ByteArray} {f : Int} (hs : Srt C) (hk : ∀ c ∈ C, slt c.key k = true) {l : List Ver} (hc : Chain l) (ht : trm l f = l) (hkey : ∀ v ∈ l, v.key = k) (hck : ∀ v ∈ l, chk v = 0) :
    ∀ (r p : List Ver), l = p ++ r → Ok ⟨C ++ prt k p, f⟩ r ∧ r.foldl puS ⟨C ++ prt k p, f⟩ = ⟨C ++ prt k (p ++ r), f⟩
  | [], p, _ => ⟨trivial, by simp⟩
  | v :: r, p, e => by
    have hv : v ∈ l := by rw [e]; simp
    have hpv : ∀ x ∈ p, lt x v = true := by
      intro x hx
      have h1 : (p ++ (v :: r)).Pairwise (fun a b => lt a b = true) := by rw [← e]; exact hc
      exact (List.pairwise_append.1 h1).2.2 x hx v (List.mem_cons_self ..)
    obtain ⟨h0, h1⟩ := put_end hpv
    have hof : of (C ++ prt k p) v.key = p := by rw [hkey v hv]; exact of_prt hs hk
    have hold : (atB p f && lt v (atV p f)) = false := by
      cases hb : atB p f with
      | false => rfl
      | true => rw [lt_not (hpv _ (at_yes hb).1)]; rfl
    have hE : puE ⟨C ++ prt k p, f⟩ v = 0 := by
      unfold puE
      rw [if_neg (by have := hck v hv; omega)]
      show (if putE (of (C ++ prt k p) v.key) v ≠ 0 then _ else if (atB (of (C ++ prt k p) v.key) f && lt v (atV (of (C ++ prt k p) v.key) f)) = true then 11 else 0) = 0
      rw [hof, h0, hold]; rfl
    have e2 : l = (p ++ [v]) ++ r := by rw [e]; simp
    have hS : puS ⟨C ++ prt k p, f⟩ v = ⟨C ++ prt k (p ++ [v]), f⟩ := by
      unfold puS
      rw [if_pos hE]
      have hC : puC ⟨C ++ prt k p, f⟩ v = p ++ [v] := by
        unfold puC
        show trm (put (of (C ++ prt k p) v.key) v) f = _
        rw [hof, h1]
        exact trm_pre e2 ht
      rw [hC]
      show (⟨stC (C ++ prt k p) v.key (p ++ [v]), f⟩ : St) = _
      rw [hkey v hv, stC_prt hs hk]
      unfold prt
      rw [if_neg (by simp)]
    obtain ⟨g1, g2⟩ := load_chain hs hk hc ht hkey hck r (p ++ [v]) e2
    refine ⟨⟨hE, by rw [hS]; exact g1⟩, ?_⟩
    rw [List.foldl_cons, hS, g2]
    simp
theorem load_chains {f : Int} : ∀ (D C : List Ch), Inv ⟨C ++ D, f⟩ → Ck ⟨C ++ D, f⟩ → (∀ c ∈ D, trm c.l f = c.l) → Ok ⟨C, f⟩ (cc D) ∧ (cc D).foldl puS ⟨C, f⟩ = ⟨C ++ D, f⟩
  | [], C, _, _, _ => ⟨trivial, by rw [List.append_nil]; rfl⟩
  | d :: r, C, hi, hc, ht => by
    have hd : d ∈ C ++ d :: r := by simp
    have hsp := List.pairwise_append.1 hi.srt
    have hk : ∀ c ∈ C, slt c.key d.key = true := fun c hcC => hsp.2.2 c hcC d (List.mem_cons_self ..)
    obtain ⟨g1, g2⟩ := load_chain (k := d.key) (f := f) hsp.1 hk (hi.chn d hd) (ht d (List.mem_cons_self ..)) (hi.key d hd) (hc d hd) d.l [] rfl
    have e1 : prt d.key [] = [] := by unfold prt; rw [if_pos rfl]
    have e2 : prt d.key ([] ++ d.l) = [d] := by unfold prt; rw [List.nil_append, if_neg (hi.ne d hd)]
    rw [e1, List.append_nil] at g1 g2
    rw [e2] at g2
    have e3 : C ++ d :: r = (C ++ [d]) ++ r := by simp
    rw [e3] at hi hc ⊢
    obtain ⟨k1, k2⟩ := load_chains r (C ++ [d]) hi hc (fun c hcr => ht c (List.mem_cons_of_mem _ hcr))
    rw [cc_cons]
    refine ⟨ok_app g1 (by rw [g2]; exact k1), ?_⟩
    rw [List.foldl_append, g2, k2]
/-! ### Moved -/
theorem inv_sub {s : St} (h : Inv s) (p : Ch → Bool) : Inv ⟨s.ch.filter p, s.fl⟩ :=
  ⟨List.Pairwise.filter _ h.srt, fun c hc => h.ne c (List.mem_filter.1 hc).1, fun c hc => h.key c (List.mem_filter.1 hc).1, fun c hc => h.chn c (List.mem_filter.1 hc).1⟩
theorem of_filter {ch : List Ch} (hs : Srt ch) (p : ByteArray → Bool) (k : ByteArray) : of (ch.filter fun c => p c.key) k = if p k = true then of ch k else [] := by
  have hs2 : Srt (ch.filter fun c => p c.key) := List.Pairwise.filter _ hs
  rcases of_cases hs k with ⟨c, hc, rfl, e⟩ | ⟨h0, e⟩
  · split
    · rename_i hp
      rw [e]
      exact of_some hs2 (List.mem_filter.2 ⟨hc, hp⟩)
    · rename_i hp
      refine of_none fun d hd e2 => ?_
      obtain ⟨h1, h2⟩ := List.mem_filter.1 hd
      rw [e2] at h2
      exact hp h2
  · rw [e]
    have : of (ch.filter fun c => p c.key) k = [] := of_none fun d hd => h0 d (List.mem_filter.1 hd).1
    rw [this]; split <;> rfl
theorem ln_parts2 (p : Ch → Bool) : ∀ ch : List Ch, ln (ch.filter p) + ln (ch.filter fun c => !p c) = ln ch
  | [] => rfl
  | c :: r => by
    have h := ln_parts2 p r
    have e2 : ∀ (x : Ch) (r : List Ch), ln (x :: r) = x.l.length + ln r := fun x r => by simp [ln]
    rw [List.filter_cons, List.filter_cons, e2]
    cases p c <;> simp [e2] <;> omega
theorem al_dr (ch : List Ch) (lo hi : ByteArray) : al (dr ch lo hi) lo hi = [] := by
  have : sp (dr ch lo hi) lo hi = [] := by
    unfold sp dr
    rw [List.filter_filter, List.filter_eq_nil_iff]
    intro c _
    simp
  unfold al
  rw [this]; rfl
theorem moved {s : St} {f : Int} (hi : Inv s) (hc : Ck s) (hf : s.fl = f) (ht : ∀ c ∈ s.ch, trm c.l f = c.l) (lo hi' : ByteArray) :
    loN ⟨[], f⟩ (al s.ch lo hi') (al s.ch lo hi').length = (al s.ch lo hi').length ∧ loS ⟨[], f⟩ (al s.ch lo hi') (al s.ch lo hi').length = ⟨sp s.ch lo hi', f⟩ := by
  have h1 := inv_sub hi (fun c => wth c.key lo hi')
  rw [hf] at h1
  obtain ⟨g1, g2⟩ := load_chains (f := f) (sp s.ch lo hi') [] h1 (fun c hc2 v hv => hc c (List.mem_filter.1 hc2).1 v hv) (fun c hc2 => ht c (List.mem_filter.1 hc2).1)
  refine ⟨ok_num g1 _ (Nat.le_refl _), ?_⟩
  rw [loS_all]; exact g2
/-- seen in the one or in the other one -/
theorem seen_moved {s : St} (hi : Inv s) (lo hi' key : ByteArray) (sn : Int) :
    (gtB ⟨sp s.ch lo hi', s.fl⟩ key sn = true → gtB s key sn = true ∧ gtV ⟨sp s.ch lo hi', s.fl⟩ key sn = gtV s key sn) ∧
    (gtB ⟨sp s.ch lo hi', s.fl⟩ key sn = false → gtB ⟨dr s.ch lo hi', s.fl⟩ key sn = gtB s key sn ∧ gtV ⟨dr s.ch lo hi', s.fl⟩ key sn = gtV s key sn) := by
  have h1 := of_filter hi.srt (fun k => wth k lo hi') key
  have h2 := of_filter hi.srt (fun k => !wth k lo hi') key
  have e1 : of (sp s.ch lo hi') key = if wth key lo hi' = true then of s.ch key else [] := h1
  have e2 : of (dr s.ch lo hi') key = if (!wth key lo hi') = true then of s.ch key else [] := h2
  have n1 : atB [] sn = false := rfl
  have n2 : atV [] sn = default := rfl
  unfold gtB gtV
  simp only [e1, e2]
  by_cases hs : sn < s.fl
  · simp only [if_pos hs]
    exact ⟨fun h => (by cases h), fun _ => by simp⟩
  · simp only [if_neg hs]
    cases hw : wth key lo hi'
    · simp only [Bool.false_eq_true, if_false, Bool.not_false, if_true, n1]
      exact ⟨fun h => (by cases h), fun _ => by simp⟩
    · simp only [if_true, Bool.not_true, Bool.false_eq_true, if_false, n1, n2]
      refine ⟨fun h => by simpa using h, fun h => ?_⟩
      rw [h]
      simp [(at_no h).2]
end Go.Proofs.Ytlojmojmijklmaa.stoY
