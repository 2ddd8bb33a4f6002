/- What holds from a first configuration on, plainly; which modes agree. -/
import Derived.Test.YtpijljbkdfjhcaaCfX
import Derived.Test.YtpijljbkdfjhcaaSpnC
set_option linter.unusedVariables false
set_option maxRecDepth 100000
namespace Go.Proofs.Ytpijljbkdfjhcaa.cfZ
open Go.ChangeShapes Go.WideShapes Go.ChangeAt Go.RowKit Go.Deep
open spnM spnA spnB spnD spnI spnJ spnK spnS cfA cfB cfC cfD cfE cfF cfG cfH cfI cfJ cfK cfR cfL cfM cfN

/-- what holds -/
structure InvC (P N : Int) (s : Cf) : Prop where
  pool : s.pool = P
  nodes : s.nodes = N
  n1 : 1 ≤ N ∧ N ≤ 4
  ok : ∀ j, j < 4 → s.me j = true → chk (s.ms j) N = 0
  no : ∀ j, j < 4 → s.me j = false → s.ms j = non
  cnt : 1 ≤ cnt s
  mo : ∀ p, p < 21 → s.mo p = 1 ∨ s.mo p = 2 ∨ s.mo p = 3
  agr : ∀ p q, p < 21 → q < 21 → ¬ (s.mo p = 1 ∧ s.mo q = 3)
theorem cnt_four (s : Cf) : cnt s = (if s.me 0 = true then 1 else 0) + (if s.me 1 = true then 1 else 0) + (if s.me 2 = true then 1 else 0) + (if s.me 3 = true then 1 else 0) := by
  unfold cnt; simp only [cntN, Nat.zero_add]
theorem cnt_pos {s : Cf} {j : Nat} (hj : j < 4) (h : s.me j = true) : 1 ≤ cnt s := by
  rw [cnt_four]
  rcases four hj with rfl | rfl | rfl | rfl <;> rw [h] <;> simp <;> try omega
theorem cnt_less {s s' : Cf} {j : Nat} (hj : j < 4) (h : s.me j = true) (e : s'.me = upd s.me j false) : cnt s' + 1 = cnt s := by
  rw [cnt_four, cnt_four, e]
  rcases four hj with rfl | rfl | rfl | rfl <;> simp [upd, h] <;> try omega
theorem chk_whole {n : Int} (h1 : 1 ≤ n) (h4 : n ≤ 4) : chk whole n = 0 := (chk_iff _ _).2 (ok_whole h1 h4)
theorem inv_start {p m n : Int} (h : stB p m n = true) : InvC p n (stC p m n) := by
  obtain ⟨⟨p1, p2⟩, ⟨m1, m2⟩, n1, n2⟩ := stB_iff.1 h
  refine ⟨rfl, rfl, ⟨n1, n2⟩, fun j hj hm => ?_, fun j hj hm => ?_, cnt_pos (j := 0) (by omega) (by show decide (((0 : Nat) : Int) < m) = true; simp; omega), fun q hq => ?_, fun q r hq hr hh => ?_⟩
  · have : (j : Int) < m := by simpa [stC] using hm
    show chk (if (j : Int) < m then whole else non) n = 0
    rw [if_pos this]; exact chk_whole n1 n2
  · have : ¬ (j : Int) < m := by simpa [stC] using hm
    show (if (j : Int) < m then whole else non) = non
    rw [if_neg this]
  · rw [show (stC p m n).mo q = if 0 < q ∧ (((q - 1) / 5 : Nat) : Int) < m ∧ (((q - 1) % 5 : Nat) : Int) ≤ n then (1 : Int) else 2 from rfl]
    split
    · exact .inl rfl
    · exact .inr (.inl rfl)
  · have h3 : (if 0 < r ∧ (((r - 1) / 5 : Nat) : Int) < m ∧ (((r - 1) % 5 : Nat) : Int) ≤ n then (1 : Int) else 2) = 3 := hh.2
    split at h3 <;> omega
theorem mo_spk {mo : Nat → Int} (j : Nat) (h : ∀ p, p < 21 → mo p = 1 ∨ mo p = 2 ∨ mo p = 3) (h2 : ∀ p q, p < 21 → q < 21 → ¬ (mo p = 1 ∧ mo q = 3)) :
    (∀ p, p < 21 → spkF mo j 5 2 p = 1 ∨ spkF mo j 5 2 p = 2 ∨ spkF mo j 5 2 p = 3) ∧ ∀ p q, p < 21 → q < 21 → ¬ (spkF mo j 5 2 p = 1 ∧ spkF mo j 5 2 q = 3) := by
  refine ⟨fun p hp => ?_, fun p q hp hq hh => ?_⟩
  · unfold spkF; split
    · exact .inr (.inl rfl)
    · exact h p hp
  · unfold spkF at hh
    have := h2 p q hp hq
    split at hh
    · omega
    · split at hh
      · omega
      · exact this hh
theorem inv_step {pool nodes : Int} {s : Cf} {c : Cm} (h : InvC pool nodes s) (h0 : apE s c = 0) : InvC pool nodes (chM s c) := by
  have hn := h.n1
  cases way s c with
  | kind _ e => omega
  | dc _ _ e => omega
  | pool _ _ _ e => omega
  | no _ _ _ _ e => omega
  | add h1 h2 h3 e q =>
    rw [q]
    have hj : dcN c < 4 := by unfold dcN; omega
    have hs := mo_spk (dcN c) h.mo h.agr
    refine ⟨h.pool, h.nodes, hn, fun j hj' hm => ?_, fun j hj' hm => ?_, cnt_pos hj (upd_same _ _ _), hs.1, hs.2⟩
    · show chk (upd s.ms (dcN c) whole j) nodes = 0
      by_cases hd : j = dcN c
      · rw [hd, upd_same]; exact chk_whole hn.1 hn.2
      · rw [upd_other _ _ hd]
        exact h.ok j hj' (by rw [← hm]; exact (upd_other s.me true hd).symm)
    · show upd s.ms (dcN c) whole j = non
      by_cases hd : j = dcN c
      · have : upd s.me (dcN c) true j = false := hm
        rw [hd, upd_same] at this; cases this
      · rw [upd_other _ _ hd]
        exact h.no j hj' (by rw [← hm]; exact (upd_other s.me true hd).symm)
  | rem h1 h2 h3 h4 e q =>
    rw [q]
    have hj : dcN c < 4 := by unfold dcN; omega
    have hs := mo_spk (dcN c) h.mo h.agr
    have hc : cnt s ≠ 1 := fun h5 => by rw [if_pos h5] at e; omega
    have hl := cnt_less (s' := remM s (dcN c)) hj h4 rfl
    have h1' := h.cnt
    refine ⟨h.pool, h.nodes, hn, fun j hj' hm => ?_, fun j hj' hm => ?_, by omega, hs.1, hs.2⟩
    · show chk (upd s.ms (dcN c) non j) nodes = 0
      by_cases hd : j = dcN c
      · have : upd s.me (dcN c) false j = true := hm
        rw [hd, upd_same] at this; cases this
      · rw [upd_other _ _ hd]
        exact h.ok j hj' (by rw [← hm]; exact (upd_other s.me false hd).symm)
    · show upd s.ms (dcN c) non j = non
      by_cases hd : j = dcN c
      · rw [hd, upd_same]
      · rw [upd_other _ _ hd]
        exact h.no j hj' (by rw [← hm]; exact (upd_other s.me false hd).symm)
  | sw h1 h2 h3 h4 e q =>
    rw [q]
    have hz : swE s c = 0 := by omega
    have hm : may s c = true := by
      cases hm : may s c
      · unfold swE at hz; rw [if_pos hm] at hz; omega
      · rfl
    obtain ⟨n0, n1, n2, n3, n4⟩ := may_yes hm
    have hf : ¬ may s c = false := by rw [hm]; simp
    have hap : apart s.mo c.mode = false := by
      unfold swE at hz
      rw [if_neg hf] at hz
      by_cases hy : s.mo (plc c) = c.mode
      · rw [if_pos hy] at hz; omega
      · rw [if_neg hy] at hz
        cases ha : apart s.mo c.mode
        · rfl
        · rw [ha, if_pos rfl] at hz; omega
    have a3 : c.mode = 1 → ∀ p, p < 21 → s.mo p ≠ 3 := fun h1 p hp h3 => by
      unfold apart at hap; rw [if_pos h1] at hap
      rw [(anyM_iff s.mo 3).2 ⟨p, hp, h3⟩] at hap; cases hap
    have a1 : c.mode = 3 → ∀ p, p < 21 → s.mo p ≠ 1 := fun h1 p hp h3 => by
      unfold apart at hap; rw [if_neg (by omega), if_pos h1] at hap
      rw [(anyM_iff s.mo 1).2 ⟨p, hp, h3⟩] at hap; cases hap
    refine ⟨h.pool, h.nodes, hn, h.ok, h.no, h.cnt, fun p hp => ?_, fun p r hp hr hh => ?_⟩
    · show upd s.mo (plc c) c.mode p = 1 ∨ _
      by_cases hd : p = plc c
      · show upd s.mo (plc c) c.mode p = 1 ∨ upd s.mo (plc c) c.mode p = 2 ∨ upd s.mo (plc c) c.mode p = 3
        rw [hd, upd_same]; omega
      · show upd s.mo (plc c) c.mode p = 1 ∨ upd s.mo (plc c) c.mode p = 2 ∨ upd s.mo (plc c) c.mode p = 3
        rw [upd_other _ _ hd]; exact h.mo p hp
    · have g1 : upd s.mo (plc c) c.mode p = 1 := hh.1
      have g2 : upd s.mo (plc c) c.mode r = 3 := hh.2
      by_cases hp' : p = plc c
      · by_cases hr' : r = plc c
        · rw [hp', upd_same] at g1; rw [hr', upd_same] at g2; omega
        · rw [hp', upd_same] at g1; rw [upd_other _ _ hr'] at g2; exact a3 g1 r hr g2
      · by_cases hr' : r = plc c
        · rw [upd_other _ _ hp'] at g1; rw [hr', upd_same] at g2; exact a1 g2 p hp g1
        · rw [upd_other _ _ hp'] at g1; rw [upd_other _ _ hr'] at g2; exact h.agr p r hp hr ⟨g1, g2⟩
  | shp h1 h2 h3 h4 e q =>
    rw [q]
    have hz : rsE (s.ms (dcN c)) s.nodes c = 0 := by omega
    have hj : dcN c < 4 := by unfold dcN; omega
    have hok : chk (rsM (s.ms (dcN c)) s.nodes c) nodes = 0 := by
      rw [chk_iff]
      rw [h.nodes] at hz ⊢
      unfold rsE at hz
      unfold rsM
      split
      · rename_i hk; rw [if_pos hk] at hz; exact Ok.split hz
      · rename_i hk
        rw [if_neg hk] at hz
        split
        · rename_i hk; rw [if_pos hk] at hz; exact Ok.merge hz
        · rename_i hk; rw [if_neg hk] at hz; exact Ok.move hz
    refine ⟨h.pool, h.nodes, hn, fun j hj' hm => ?_, fun j hj' hm => ?_, h.cnt, h.mo, h.agr⟩
    · show chk (upd s.ms (dcN c) (rsM (s.ms (dcN c)) s.nodes c) j) nodes = 0
      by_cases hd : j = dcN c
      · rw [hd, upd_same]; exact hok
      · rw [upd_other _ _ hd]; exact h.ok j hj' hm
    · show upd s.ms (dcN c) (rsM (s.ms (dcN c)) s.nodes c) j = non
      by_cases hd : j = dcN c
      · have : s.me j = false := hm
        rw [hd, h4] at this; cases this
      · rw [upd_other _ _ hd]; exact h.no j hj' hm
/-- the version that two modes agree on -/
def agv (a b : Int) : Int := if ¬ (a = 1 ∨ a = 2 ∨ a = 3) ∨ ¬ (b = 1 ∨ b = 2 ∨ b = 3) then 0 else if a ≠ 1 ∧ b ≠ 1 then 2 else if a ≠ 3 ∧ b ≠ 3 then 1 else 0
theorem agree_any (a b : Int) (w : World) (ha : a = 1 ∨ a = 2 ∨ a = 3) (hb : b = 1 ∨ b = 2 ∨ b = 3) : Calls Try.prog 22 #[.int .i64 a, .int .i64 b] w fun e w' => e = .returned (.int .i64 (agv a b)) ∧ w = w' := by
  have him : ∀ (x : Int) (w : World), (x = 1 ∨ x = 2 ∨ x = 3) → Calls Try.prog 37 #[.int .i64 x] w fun e w' => e = .returned (.bool true) ∧ w = w' := fun x w hx => by
    rcases hx with rfl | rfl | rfl
    all_goals
      go_enter Try.func37, Try.ntmps37
      go_wp2
      go_ret
      exact ⟨rfl, rfl⟩
  have hA := Lib.hid (fun w => him a w ha)
  have hB := Lib.hid (fun w => him b w hb)
  clear him
  rcases ha with rfl | rfl | rfl <;> rcases hb with rfl | rfl | rfl
  all_goals
    go_enter Try.func22, Try.ntmps22
    go_wp2_with (first | (go_at_call 37; (first | (with_reducible refine (hA.out _).mono ?_) | (with_reducible refine (hB.out _).mono ?_)); rintro e w' ⟨rfl, rfl⟩) | fail)
    go_ret
    exact ⟨rfl, rfl⟩
theorem agv_ne {a b : Int} (ha : a = 1 ∨ a = 2 ∨ a = 3) (hb : b = 1 ∨ b = 2 ∨ b = 3) (h1 : ¬ (a = 1 ∧ b = 3)) (h2 : ¬ (b = 1 ∧ a = 3)) : agv a b ≠ 0 := by
  unfold agv
  rcases ha with rfl | rfl | rfl <;> rcases hb with rfl | rfl | rfl <;> simp_all
end Go.Proofs.Ytpijljbkdfjhcaa.cfZ
