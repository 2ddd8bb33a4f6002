/- Plain facts of stores: the versions in another order, with floors between: the same store in the end. -/
import Derived.Test.YtlojmojmijklmaaStoO
set_option linter.unusedVariables false
namespace Go.Proofs.Ytlojmojmijklmaa.stoOs
open Go opV chnM chnT stoM stoX stoY stoO

/-- the same versions in some order -/
structure Pm (L m : List Ver) : Prop where
  len : m.length = L.length
  mem : ∀ x, x ∈ m ↔ x ∈ L
  ne : ∀ i j, i < m.length → j < m.length → i ≠ j → Dis (nt m i) (nt m j)
theorem dis_symm {a b : Ver} (h : Dis a b) : Dis b a := fun hk hm => h hk.symm hm.symm
theorem Pm.self {L : List Ver} (h : L.Pairwise Dis) : Pm L L := ⟨rfl, fun _ => Iff.rfl, fun i j hi hj hne => by
  rw [nt_at hi, nt_at hj]
  rcases Nat.lt_or_gt_of_ne hne with h1 | h1
  · exact List.pairwise_iff_getElem.1 h i j hi hj h1
  · exact dis_symm (List.pairwise_iff_getElem.1 h j i hj hi h1)⟩
theorem Pm.dis {L m : List Ver} (h : Pm L m) : m.Pairwise Dis := List.pairwise_iff_getElem.2 fun i j hi hj hij => by
  have := h.ne i j hi hj (by omega)
  rwa [nt_at hi, nt_at hj] at this
/-- two of them changed places -/
def sws (m : List Ver) (i k : Nat) : List Ver := (m.set i (nt m k)).set k (nt m i)
def sg (i k j : Nat) : Nat := if j = k then i else if j = i then k else j
theorem sws_len (m : List Ver) (i k : Nat) : (sws m i k).length = m.length := by unfold sws; simp
theorem nt_sws {m : List Ver} {i k j : Nat} (hi : i < m.length) (hk : k < m.length) (hj : j < m.length) : nt (sws m i k) j = nt m (sg i k j) := by
  have e : nt (sws m i k) j = (sws m i k)[j]'(by rw [sws_len]; exact hj) := nt_at _
  rw [e]
  unfold sws sg
  rw [List.getElem_set]
  by_cases h1 : j = k
  · subst h1; rw [if_pos rfl, if_pos rfl]
  · rw [if_neg (fun e => h1 e.symm), if_neg h1, List.getElem_set]
    by_cases h2 : j = i
    · subst h2; rw [if_pos rfl, if_pos rfl]
    · rw [if_neg (fun e => h2 e.symm), if_neg h2, nt_at hj]
theorem sg_sg (i k j : Nat) : sg i k (sg i k j) = j := by unfold sg; split <;> (try split) <;> (try split) <;> omega
theorem sg_lt {i k j n : Nat} (hi : i < n) (hk : k < n) (hj : j < n) : sg i k j < n := by unfold sg; split <;> (try split) <;> omega
theorem Pm.swap {L m : List Ver} (h : Pm L m) {i k : Nat} (hi : i < m.length) (hk : k < m.length) : Pm L (sws m i k) := by
  refine ⟨by rw [sws_len]; exact h.len, fun x => ?_, fun a b ha hb hne => ?_⟩
  · rw [← h.mem]
    constructor
    · intro hx
      obtain ⟨j, hj, rfl⟩ := mem_nt hx
      rw [sws_len] at hj
      rw [nt_sws hi hk hj]
      exact nt_mem (sg_lt hi hk hj)
    · intro hx
      obtain ⟨j, hj, rfl⟩ := mem_nt hx
      have := nt_mem (l := sws m i k) (n := sg i k j) (by rw [sws_len]; exact sg_lt hi hk hj)
      rw [nt_sws hi hk (sg_lt hi hk hj), sg_sg] at this
      exact this
  · rw [sws_len] at ha hb
    rw [nt_sws hi hk ha, nt_sws hi hk hb]
    refine h.ne _ _ (sg_lt hi hk ha) (sg_lt hi hk hb) (fun e => hne ?_)
    have := congrArg (sg i k) e
    rwa [sg_sg, sg_sg] at this

/-- a store whose floor is raised -/
def TmS (s : St) (t : Int) : St := ⟨tmC s.ch (tmF s.fl t), tmF s.fl t⟩
theorem tmF_le (f t : Int) : f ≤ tmF f t := by unfold tmF; split <;> omega
theorem tmF_top {f t : Int} (h : f ≤ t) : tmF f t = t := by unfold tmF; split <;> omega
theorem tmF_up {f t T : Int} (h1 : f ≤ T) (h2 : t ≤ T) : tmF f t ≤ T := by unfold tmF; split <;> omega
theorem rep_tm {P : List Ver} {s : St} (h : Rep P s) (t : Int) : Rep P (TmS s t) := h.trim (tmF_le _ _)
/-- the puts in the other order, a floor ahead of each as long as there are some -/
def bS (m : List Ver) (F : List Int) : Nat → St
  | 0 => St.new
  | i + 1 => puS (if i < F.length then TmS (bS m F i) (F.getD i 0) else bS m F i) (nt m i)
theorem bS_rep {m : List Ver} (F : List Int) (hd : m.Pairwise Dis) : ∀ i, i ≤ m.length → Rep (m.take i) (bS m F i)
  | 0, _ => by simpa [bS] using Rep.new
  | i + 1, hi => by
    have h1 := bS_rep F hd i (by omega)
    have h2 : Rep (m.take i) (if i < F.length then TmS (bS m F i) (F.getD i 0) else bS m F i) := by
      split
      · exact rep_tm h1 _
      · exact h1
    rw [take_nt (by omega)]
    refine h2.put fun x hx hk => ?_
    have hd' : (m.take i ++ m.drop i).Pairwise Dis := by rw [List.take_append_drop]; exact hd
    exact (List.pairwise_append.1 hd').2.2 x hx (nt m i) (by rw [nt_at (by omega : i < m.length)]; exact List.mem_drop_iff_getElem.2 ⟨0, by omega, by simp⟩) hk
theorem bS_fl {m : List Ver} {F : List Int} {T : Int} (h0 : 0 ≤ T) (hF : ∀ f ∈ F, f ≤ T) : ∀ i, (bS m F i).fl ≤ T
  | 0 => h0
  | i + 1 => by
    have h1 := bS_fl (m := m) h0 hF i
    show (puS _ _).fl ≤ T
    rw [fl_put]
    split
    · rename_i hi
      exact tmF_up h1 (by rw [getD_at hi]; exact hF _ (List.getElem_mem hi))
    · exact h1
theorem bS_inv (m : List Ver) (F : List Int) : ∀ i, Inv (bS m F i) ∧ ln (bS m F i).ch ≤ i
  | 0 => ⟨Inv.new, Nat.le_refl _⟩
  | i + 1 => by
    obtain ⟨h1, h2⟩ := bS_inv m F i
    have h3 : Inv (if i < F.length then TmS (bS m F i) (F.getD i 0) else bS m F i) ∧ ln (if i < F.length then TmS (bS m F i) (F.getD i 0) else bS m F i).ch ≤ i := by
      split
      · exact ⟨h1.trim _ _, Nat.le_trans (ln_trim _ _) h2⟩
      · exact ⟨h1, h2⟩
    exact ⟨h3.1.put _, Nat.le_trans (ln_put h3.1 _) (by omega)⟩
/-- both orders end in the same store -/
theorem same_end {l m : List Ver} {F : List Int} {T : Int} (hd : l.Pairwise Dis) (hP : Pm l m) (h0 : 0 ≤ T) (hF : ∀ f ∈ F, f ≤ T) :
    TmS (bS m F m.length) T = TmS (loS St.new l l.length) T := by
  have ha := rep_tm (by simpa using Rep.load Rep.new (l := l) (by simpa using hd) l.length (Nat.le_refl _)) T
  have hb := rep_tm (by simpa using bS_rep F hP.dis m.length (Nat.le_refl _)) T
  have ea : (TmS (loS St.new l l.length) T).fl = T := tmF_top (by rw [fl_load]; exact h0)
  have eb : (TmS (bS m F m.length) T).fl = T := tmF_top (bS_fl h0 hF _)
  have hc := hb.same ha (eb.trans ea.symm) hP.mem
  have h1 : ∀ s t : St, s.ch = t.ch → s.fl = t.fl → s = t := by intro s t e1 e2; cases s; cases t; simp only at e1 e2; rw [e1, e2]
  exact h1 _ _ hc (eb.trans ea.symm)
end Go.Proofs.Ytlojmojmijklmaa.stoOs
