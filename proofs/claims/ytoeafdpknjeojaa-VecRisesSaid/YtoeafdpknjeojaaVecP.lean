/- What merged, raised and resized vectors are to one another, plainly. -/
import Derived.Test.YtoeafdpknjeojaaVecK
set_option linter.unusedVariables false
set_option linter.unusedSimpArgs false
namespace Go.Proofs.Ytoeafdpknjeojaa.vecP
open vecA vecB vecC vecD vecE vecF vecG vecH vecI vecJ vecK

theorem mx_comm (a b : Int) : mx a b = mx b a := by unfold mx; split <;> split <;> omega
theorem mx_self (a : Int) : mx a a = a := by unfold mx; split <;> rfl
theorem tm_tm (h : Bool) (t : Int) : tm h (tm h t) = tm h t := by cases h <;> rfl
/-- a time of a merged vector of one epoch -/
def gt (h : Bool) (t : Int) (h' : Bool) (t' : Int) : Int := tm (h || h') (mx (tm h t) (tm h' t'))
theorem mg_same {v u : V} (he : v.e = u.e) : mgV v u = ⟨v.e, v.h0 || u.h0, v.h1 || u.h1, v.h2 || u.h2, v.h3 || u.h3, gt v.h0 v.t0 u.h0 u.t0, gt v.h1 v.t1 u.h1 u.t1, gt v.h2 v.t2 u.h2 u.t2, gt v.h3 v.t3 u.h3 u.t3⟩ := by
  have e1 : moV v u = orS v u 4 := by unfold moV; rw [if_neg (by omega), if_neg (by omega)]
  have e2 : mx v.e u.e = v.e := by rw [← he, mx_self]
  unfold mgV mgS
  rw [e1, e2]
  rfl
theorem mg_lt2 {v u : V} (h : v.e < u.e) : mgV v u = plain ⟨u.e, u.h0, u.h1, u.h2, u.h3, mx (tm v.h0 v.t0) (tm u.h0 u.t0), mx (tm v.h1 v.t1) (tm u.h1 u.t1), mx (tm v.h2 v.t2) (tm u.h2 u.t2), mx (tm v.h3 v.t3) (tm u.h3 u.t3)⟩ := by
  have e1 : moV v u = u := by unfold moV; rw [if_neg (by omega), if_pos h]
  have e2 : mx v.e u.e = u.e := by unfold mx; rw [if_pos h]
  unfold mgV mgS
  rw [e1, e2]
  rfl
theorem mg_gt2 {v u : V} (h : v.e < u.e) : mgV u v = plain ⟨u.e, u.h0, u.h1, u.h2, u.h3, mx (tm u.h0 u.t0) (tm v.h0 v.t0), mx (tm u.h1 u.t1) (tm v.h1 v.t1), mx (tm u.h2 u.t2) (tm v.h2 v.t2), mx (tm u.h3 u.t3) (tm v.h3 v.t3)⟩ := by
  have e1 : moV u v = u := by unfold moV; rw [if_pos h]
  have e2 : mx u.e v.e = u.e := by unfold mx; rw [if_neg (by omega)]
  unfold mgV mgS
  rw [e1, e2]
  rfl
theorem mg_comm (v u : V) : mgV v u = mgV u v := by
  by_cases h : v.e = u.e
  · rw [mg_same h, mg_same h.symm]
    unfold gt
    simp only [h, Bool.or_comm, mx_comm]
  · rcases (show v.e < u.e ∨ u.e < v.e by omega) with h | h
    · rw [mg_lt2 h, mg_gt2 h]
      congr 2 <;> exact mx_comm _ _
    · rw [mg_gt2 h, mg_lt2 h]
      congr 2 <;> exact mx_comm _ _
theorem mg_self (v : V) : mgV v v = plain v := by
  rw [mg_same rfl]
  unfold gt plain
  simp only [Bool.or_self, mx_self, tm_tm]
theorem gt_assoc (a b c : Bool) (x y z : Int) : gt (a || b) (gt a x b y) c z = gt a x (b || c) (gt b y c z) := by
  unfold gt mx tm
  cases a <;> cases b <;> cases c <;> simp <;> (repeat' split) <;> omega
theorem mg_assoc {a b c : V} (h1 : a.e = b.e) (h2 : b.e = c.e) : mgV (mgV a b) c = mgV a (mgV b c) := by
  rw [mg_same h1, mg_same h2, mg_same (by show a.e = c.e; omega), mg_same (by show a.e = b.e; omega)]
  simp only [Bool.or_assoc, gt_assoc]
/-- one member's part of Leq -/
def cq (h : Bool) (t : Int) (h' : Bool) (t' : Int) : Bool := !h || (h' && decide (t ≤ t'))
theorem lq_and (v u : V) : lq v u 4 = (decide (v.e = u.e) && cq v.h0 v.t0 u.h0 u.t0 && cq v.h1 v.t1 u.h1 u.t1 && cq v.h2 v.t2 u.h2 u.t2 && cq v.h3 v.t3 u.h3 u.t3) := rfl
theorem cq_up1 (a b c : Bool) (x y z : Int) : cq a (tm a x) ((a || b) || c) (gt (a || b) (gt a x b y) c z) = true := by
  unfold cq gt mx tm
  cases a <;> cases b <;> cases c <;> simp <;> (repeat' split) <;> omega
theorem cq_up2 (a b c : Bool) (x y z : Int) : cq b (tm b y) ((a || b) || c) (gt (a || b) (gt a x b y) c z) = true := by
  unfold cq gt mx tm
  cases a <;> cases b <;> cases c <;> simp <;> (repeat' split) <;> omega
theorem cq_up3 (a b c : Bool) (x y z : Int) : cq c (tm c z) ((a || b) || c) (gt (a || b) (gt a x b y) c z) = true := by
  unfold cq gt mx tm
  cases a <;> cases b <;> cases c <;> simp <;> (repeat' split) <;> omega
theorem cq_least (a b c o : Bool) (x y z t : Int) (ht : 0 ≤ t) (h1 : cq a x o t = true) (h2 : cq b y o t = true) (h3 : cq c z o t = true) : cq ((a || b) || c) (gt (a || b) (gt a x b y) c z) o t = true := by
  unfold cq gt mx tm at *
  cases a <;> cases b <;> cases c <;> cases o <;> simp at h1 h2 h3 ⊢ <;> (repeat' split) <;> omega
theorem mg3 {a b c : V} (h1 : a.e = b.e) (h2 : b.e = c.e) : mgV (mgV a b) c = ⟨a.e, (a.h0 || b.h0) || c.h0, (a.h1 || b.h1) || c.h1, (a.h2 || b.h2) || c.h2, (a.h3 || b.h3) || c.h3, gt (a.h0 || b.h0) (gt a.h0 a.t0 b.h0 b.t0) c.h0 c.t0, gt (a.h1 || b.h1) (gt a.h1 a.t1 b.h1 b.t1) c.h1 c.t1, gt (a.h2 || b.h2) (gt a.h2 a.t2 b.h2 b.t2) c.h2 c.t2, gt (a.h3 || b.h3) (gt a.h3 a.t3 b.h3 b.t3) c.h3 c.t3⟩ := by
  rw [mg_same h1, mg_same (by show a.e = c.e; omega)]
theorem up_a {a b c : V} (h1 : a.e = b.e) (h2 : b.e = c.e) : lq (plain a) (mgV (mgV a b) c) 4 = true := by
  rw [mg3 h1 h2, lq_and]
  simp only [plain, cq_up1, decide_true, Bool.and_true]
theorem up_b {a b c : V} (h1 : a.e = b.e) (h2 : b.e = c.e) : lq (plain b) (mgV (mgV a b) c) 4 = true := by
  rw [mg3 h1 h2, lq_and]
  simp only [plain, cq_up2, h1, decide_true, Bool.and_true]
theorem up_c {a b c : V} (h1 : a.e = b.e) (h2 : b.e = c.e) : lq (plain c) (mgV (mgV a b) c) 4 = true := by
  rw [mg3 h1 h2, lq_and]
  simp only [plain, cq_up3, h1, h2, decide_true, Bool.and_true]
theorem least3 {a b c o : V} (h1 : a.e = b.e) (h2 : b.e = c.e) (ho : 0 ≤ o.t0 ∧ 0 ≤ o.t1 ∧ 0 ≤ o.t2 ∧ 0 ≤ o.t3) (ha : lq a o 4 = true) (hb' : lq b o 4 = true) (hc : lq c o 4 = true) : lq (mgV (mgV a b) c) o 4 = true := by
  rw [mg3 h1 h2, lq_and]
  rw [lq_and] at ha hb' hc
  simp only [Bool.and_eq_true, decide_eq_true_eq] at ha hb' hc ⊢
  obtain ⟨⟨⟨⟨a0, a1⟩, a2⟩, a3⟩, a4⟩ := ha
  obtain ⟨⟨⟨⟨b0, b1⟩, b2⟩, b3⟩, b4⟩ := hb'
  obtain ⟨⟨⟨⟨c0, c1⟩, c2⟩, c3⟩, c4⟩ := hc
  exact ⟨⟨⟨⟨a0, cq_least _ _ _ _ _ _ _ _ ho.1 a1 b1 c1⟩, cq_least _ _ _ _ _ _ _ _ ho.2.1 a2 b2 c2⟩, cq_least _ _ _ _ _ _ _ _ ho.2.2.1 a3 b3 c3⟩, cq_least _ _ _ _ _ _ _ _ ho.2.2.2 a4 b4 c4⟩
theorem tm_nonneg {h : Bool} {t : Int} (ht : 0 ≤ t) : 0 ≤ tm h t := by unfold tm; split <;> omega
/-! ### Least times -/
theorem ls_mono {v u : V} (h : ∀ i, i < 4 → hb v i = hb u i ∧ (hb v i = true → tt v i ≤ tt u i)) : (lsS v 4).2 = (lsS u 4).2 ∧ (lsS v 4).1 ≤ (lsS u 4).1 := by
  rcases ls_spec v 4 with ⟨a, b, c⟩ | ⟨a, ⟨i, b1, b2, b3⟩, c⟩
  · rcases ls_spec u 4 with ⟨a', b', c'⟩ | ⟨a', ⟨i', b1', b2', b3'⟩, c'⟩
    · exact ⟨by rw [a, a'], by omega⟩
    · rw [← (h i' b1').1, c i' b1'] at b2'; cases b2'
  · rcases ls_spec u 4 with ⟨a', b', c'⟩ | ⟨a', ⟨i', b1', b2', b3'⟩, c'⟩
    · rw [(h i b1).1, c' i b1] at b2; cases b2
    · have h2 : hb v i' = true := by rw [(h i' b1').1]; exact b2'
      have h3 := c i' b1' h2
      have h4 := (h i' b1').2 h2
      exact ⟨by rw [a, a'], by omega⟩
theorem hb_put (v : V) (j : Nat) (x : Int) (i : Nat) : hb (putT v j x) i = hb v i := by
  unfold hb; split <;> rfl
theorem tt_put {v : V} {j i : Nat} (x : Int) (hi : i < 4) : tt (putT v j x) i = if j = i then x else tt v i := by
  rcases four hi with rfl | rfl | rfl | rfl <;> rfl
theorem tt_plain {v : V} {i : Nat} (hi : i < 4) : tt (plain v) i = tm (hb v i) (tt v i) := by
  rcases four hi with rfl | rfl | rfl | rfl <;> rfl
theorem rs_mono (v : V) (dc t : Int) : (lsS v 4).2 = (lsS (rsV v dc t) 4).2 ∧ (lsS v 4).1 ≤ (lsS (rsV v dc t) 4).1 := by
  refine ls_mono fun i hi => ?_
  unfold rsV
  by_cases h : isM v dc = true
  · rw [if_pos h, hb_put, tt_put _ hi]
    refine ⟨rfl, fun hv => ?_⟩
    have e : tt v i = tt (plain v) i := by rw [tt_plain hi, hv]; rfl
    split
    · rename_i hj; rw [hj, e]; unfold mx; split <;> omega
    · omega
  · rw [if_neg h]
    refine ⟨rfl, fun hv => ?_⟩
    rw [tt_plain hi, hv]
    exact Int.le_refl _
theorem sz_hb (v : V) (e : Int) (g : V) (i : Nat) : hb (szV v e g) i = hb g i := by unfold hb; split <;> rfl
theorem sz_tt {v : V} {e : Int} {g : V} {i : Nat} (hi : i < 4) : tt (szV v e g) i = tm (hb g i) (tm (hb v i) (tt v i)) := by
  rcases four hi with rfl | rfl | rfl | rfl <;> rfl
theorem putH_hb {v : V} {j i : Nat} (x : Bool) (hi : i < 4) : hb (putH v j x) i = if i = j then x else hb v i := by
  rcases four hi with rfl | rfl | rfl | rfl <;> simp only [hb, putH] <;> (split <;> split <;> first | rfl | omega)
theorem sz_less {v : V} {e : Int} {j : Nat} (hj : j < 4) (h : (lsS (szV v e (putH v j false)) 4).2 = true) : (lsS v 4).1 ≤ (lsS (szV v e (putH v j false)) 4).1 := by
  rcases ls_spec (szV v e (putH v j false)) 4 with ⟨a, b, c⟩ | ⟨a, ⟨i, b1, b2, b3⟩, c⟩
  · rw [a] at h; cases h
  · rw [sz_hb, putH_hb _ b1] at b2
    have hv : hb v i = true := by
      split at b2
      · cases b2
      · exact b2
    have hij : ¬ i = j := by intro e; rw [if_pos e] at b2; cases b2
    rw [sz_tt b1, putH_hb _ b1, if_neg hij, hv] at b3
    simp only [tm, if_true] at b3
    rcases ls_spec v 4 with ⟨a', b', c'⟩ | ⟨a', -, c'⟩
    · rw [c' i b1] at hv; cases hv
    · have := c' i b1 hv; omega
theorem sz_none {v : V} {e : Int} {j : Nat} (hj : j < 4) : tt (szV v e (putH v j false)) j = 0 := by
  rw [sz_tt hj, putH_hb _ hj, if_pos rfl]; rfl
end Go.Proofs.Ytoeafdpknjeojaa.vecP
