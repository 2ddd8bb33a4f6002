/- The document's first configuration. -/
import Derived.Test.YtpijljbkdfjhcaaCfJ
set_option linter.unusedVariables false
set_option maxRecDepth 100000
namespace Go.Proofs.Ytpijljbkdfjhcaa.cfK
open Go.ChangeShapes Go.WideShapes Go.ChangeAt Go.RowKit Go.Deep
open spnM spnA spnB spnD spnI spnJ spnK spnS cfA cfB cfC cfD cfE cfF cfG cfH cfI cfJ

def f0 (m n : Int) (p : Nat) : Int := if 0 < p ∧ ((p - 1) / 5 : Nat) < m ∧ (((p - 1) % 5 : Nat) : Int) ≤ n then 1 else 2
def kF (m n : Int) (k : Nat) : Nat → Int := fun q => if q < k then f0 m n q else 0
theorem kF_up (m n : Int) (k : Nat) : upd (kF m n k) k (f0 m n k) = kF m n (k + 1) := by
  funext p
  unfold upd kF
  by_cases h : p = k
  · rw [if_pos h, if_pos (by omega), h]
  · rw [if_neg h]
    by_cases h2 : p < k
    · rw [if_pos h2, if_pos (by omega)]
    · rw [if_neg h2, if_neg (by omega)]
def r1 (p m n : Int) (k : Nat) : Cf := ⟨p, n, fun _ => false, fun _ => non, kF m n k⟩
theorem upd_upd {α : Type} (f : Nat → α) (k : Nat) (x y : α) : upd (upd f k x) k y = upd f k y := by
  funext q; unfold upd; split <;> rfl
theorem r1_s1 (p m n : Int) (k : Nat) : (⟨p, n, fun _ => false, fun _ => non, upd (kF m n k) k (f0 m n k)⟩ : Cf) = r1 p m n (k + 1) := by unfold r1; rw [kF_up]
theorem r1_s2 (p m n : Int) (k : Nat) : (⟨p, n, fun _ => false, fun _ => non, upd (upd (kF m n k) k 2) k (f0 m n k)⟩ : Cf) = r1 p m n (k + 1) := by rw [upd_upd]; exact r1_s1 p m n k
def r2 (p m n : Int) (k : Nat) : Cf := ⟨p, n, fun j => decide (j < k), fun j => if j < k then whole else non, kF m n 21⟩
theorem r2_0 (p m n : Int) : r2 p m n 0 = r1 p m n 21 := rfl
theorem r2_up (p m n : Int) (k : Nat) : (⟨p, n, upd (r2 p m n k).me k true, upd (r2 p m n k).ms k whole, kF m n 21⟩ : Cf) = r2 p m n (k + 1) := by
  unfold r2
  congr 1
  · funext j
    unfold upd
    by_cases h : j = k
    · rw [if_pos h]; simp; omega
    · rw [if_neg h]; simp; omega
  · funext j
    unfold upd
    by_cases h : j = k
    · rw [if_pos h, if_pos (by omega)]
    · rw [if_neg h]
      show (if j < k then whole else non) = _
      by_cases h2 : j < k
      · rw [if_pos h2, if_pos (by omega)]
      · rw [if_neg h2, if_neg (by omega)]
theorem r2_eq {p m n : Int} (hm : 1 ≤ m ∧ m ≤ 4) (a : Wh) : cS (r2 p m n m.toNat) a = cS (stC p m n) a ∧ (∀ i, i < 4 → (stC p m n).ms i = (r2 p m n m.toNat).ms i) := by
  refine ⟨cS_congr rfl rfl (fun i hi => ?_) (fun i hi => ?_) (fun i hi => ?_) (fun _ _ => rfl), fun i hi => ?_⟩
  · exact decide_eq_decide.2 (by omega)
  · show (if i < m.toNat then whole else non) = if (i : Int) < m then whole else non
    by_cases h : i < m.toNat
    · rw [if_pos h, if_pos (by omega)]
    · rw [if_neg h, if_neg (by omega)]
  · show (if i < 21 then f0 m n i else 0) = _
    rw [if_pos hi]; rfl
  · show (if (i : Int) < m then whole else non) = if i < m.toNat then whole else non
    by_cases h : i < m.toNat
    · rw [if_pos h, if_pos (by omega)]
    · rw [if_neg h, if_neg (by omega)]
set_option maxHeartbeats 2000000 in
theorem rstart_bad (p m n : Int) (w : World) (hb : stB p m n = false) : Calls Try.prog 10 #[.int .i64 p, .int .i64 m, .int .i64 n] w (TellsS 1 zC w) := by
  have hB1 := Lib.hid (al0 w (.cells #[.int .i64 0, .int .i64 0, .bool false, .bool false, .bool false, .bool false, .slice none 0 0, .slice none 0 0, .slice none 0 0, .slice none 0 0, .slice none 0 0, .slice none 0 0, .slice none 0 0, .slice none 0 0, .int .i64 0, .int .i64 0, .int .i64 0, .int .i64 0, .int .i64 0, .int .i64 0, .int .i64 0, .int .i64 0, .int .i64 0, .int .i64 0, .int .i64 0, .int .i64 0, .int .i64 0, .int .i64 0, .int .i64 0, .int .i64 0, .int .i64 0, .int .i64 0, .int .i64 0, .int .i64 0, .int .i64 0] TR))
  have hS1 := Lib.hid (show SB TR w.heap.size zC zA (w.alloc (.cells #[.int .i64 0, .int .i64 0, .bool false, .bool false, .bool false, .bool false, .slice none 0 0, .slice none 0 0, .slice none 0 0, .slice none 0 0, .slice none 0 0, .slice none 0 0, .slice none 0 0, .slice none 0 0, .int .i64 0, .int .i64 0, .int .i64 0, .int .i64 0, .int .i64 0, .int .i64 0, .int .i64 0, .int .i64 0, .int .i64 0, .int .i64 0, .int .i64 0, .int .i64 0, .int .i64 0, .int .i64 0, .int .i64 0, .int .i64 0, .int .i64 0, .int .i64 0, .int .i64 0, .int .i64 0, .int .i64 0] TR)) from SB.new TR zC zA w)
  have hway : p < 1 ∨ (¬ p < 1 ∧ 4 < p) ∨ (¬ p < 1 ∧ ¬ 4 < p ∧ m < 1) ∨ (¬ p < 1 ∧ ¬ 4 < p ∧ ¬ m < 1 ∧ p < m) ∨ (¬ p < 1 ∧ ¬ 4 < p ∧ ¬ m < 1 ∧ ¬ p < m ∧ n < 1) ∨ (¬ p < 1 ∧ ¬ 4 < p ∧ ¬ m < 1 ∧ ¬ p < m ∧ ¬ n < 1 ∧ 4 < n) := by
    by_cases h : stB p m n = true
    · rw [hb] at h; cases h
    · rw [stB_iff] at h; omega
  clear hb
  rcases hway with h1 | ⟨h1, h2⟩ | ⟨h1, h2, h3⟩ | ⟨h1, h2, h3, h4⟩ | ⟨h1, h2, h3, h4, h5⟩ | ⟨h1, h2, h3, h4, h5, h6⟩
  all_goals
    go_enter Try.func10, Try.ntmps10
    go_wp2_with (first
      | (refine st_put rfl TR _ _ rfl w.heap.size zC zA rfl rfl hS1.out (.inr rfl) ?_; intro W7 hS7 hB7 hG7 hz7; have hs7 := Lib.hid hS7; have hb7 := Lib.hid (hB1.out.trans (hB7 w.heap.size (Nat.le_refl _))); clear hS7 hB7 hG7 hz7) | fail)
    exact bodyPost_ret (v := .tuple #[.agg (cS zC zA), .int .i64 1]) (st_res2 rfl _ _ w.heap.size _ rfl rfl hs7.out (.inr rfl)) rfl ⟨zA, rfl, zGS _ _, hb7.out⟩
set_option maxHeartbeats 2000000 in
theorem rstart_good (p m n : Int) (w : World) (hb : stB p m n = true) : Calls Try.prog 10 #[.int .i64 p, .int .i64 m, .int .i64 n] w (TellsS 0 (stC p m n) w) := by
  obtain ⟨⟨p1, p2⟩, ⟨m1, m2⟩, n1, n2⟩ := stB_iff.1 hb
  have heq := Lib.hid (fun a => r2_eq (p := p) (n := n) ⟨m1, by omega⟩ a)
  have hB1 := al0 w (.cells #[.int .i64 0, .int .i64 0, .bool false, .bool false, .bool false, .bool false, .slice none 0 0, .slice none 0 0, .slice none 0 0, .slice none 0 0, .slice none 0 0, .slice none 0 0, .slice none 0 0, .slice none 0 0, .int .i64 0, .int .i64 0, .int .i64 0, .int .i64 0, .int .i64 0, .int .i64 0, .int .i64 0, .int .i64 0, .int .i64 0, .int .i64 0, .int .i64 0, .int .i64 0, .int .i64 0, .int .i64 0, .int .i64 0, .int .i64 0, .int .i64 0, .int .i64 0, .int .i64 0, .int .i64 0, .int .i64 0] TR)
  have hS1 : SB TR w.heap.size zC zA (w.alloc (.cells #[.int .i64 0, .int .i64 0, .bool false, .bool false, .bool false, .bool false, .slice none 0 0, .slice none 0 0, .slice none 0 0, .slice none 0 0, .slice none 0 0, .slice none 0 0, .slice none 0 0, .slice none 0 0, .int .i64 0, .int .i64 0, .int .i64 0, .int .i64 0, .int .i64 0, .int .i64 0, .int .i64 0, .int .i64 0, .int .i64 0, .int .i64 0, .int .i64 0, .int .i64 0, .int .i64 0, .int .i64 0, .int .i64 0, .int .i64 0, .int .i64 0, .int .i64 0, .int .i64 0, .int .i64 0, .int .i64 0] TR)) := SB.new TR zC zA w
  obtain ⟨W1, hW1⟩ : ∃ W1, w.alloc (.cells #[.int .i64 0, .int .i64 0, .bool false, .bool false, .bool false, .bool false, .slice none 0 0, .slice none 0 0, .slice none 0 0, .slice none 0 0, .slice none 0 0, .slice none 0 0, .slice none 0 0, .slice none 0 0, .int .i64 0, .int .i64 0, .int .i64 0, .int .i64 0, .int .i64 0, .int .i64 0, .int .i64 0, .int .i64 0, .int .i64 0, .int .i64 0, .int .i64 0, .int .i64 0, .int .i64 0, .int .i64 0, .int .i64 0, .int .i64 0, .int .i64 0, .int .i64 0, .int .i64 0, .int .i64 0, .int .i64 0] TR) = W1 := ⟨_, rfl⟩
  rw [hW1] at hB1 hS1
  have hWf := Lib.hid hW1
  have hS2 := Lib.hid (show SB TR W1.heap.size zC zA (W1.alloc (.cells #[.int .i64 0, .int .i64 0, .bool false, .bool false, .bool false, .bool false, .slice none 0 0, .slice none 0 0, .slice none 0 0, .slice none 0 0, .slice none 0 0, .slice none 0 0, .slice none 0 0, .slice none 0 0, .int .i64 0, .int .i64 0, .int .i64 0, .int .i64 0, .int .i64 0, .int .i64 0, .int .i64 0, .int .i64 0, .int .i64 0, .int .i64 0, .int .i64 0, .int .i64 0, .int .i64 0, .int .i64 0, .int .i64 0, .int .i64 0, .int .i64 0, .int .i64 0, .int .i64 0, .int .i64 0, .int .i64 0] TR)) from SB.new TR zC zA W1)
  have hB2 := Lib.hid (al0 W1 (.cells #[.int .i64 0, .int .i64 0, .bool false, .bool false, .bool false, .bool false, .slice none 0 0, .slice none 0 0, .slice none 0 0, .slice none 0 0, .slice none 0 0, .slice none 0 0, .slice none 0 0, .slice none 0 0, .int .i64 0, .int .i64 0, .int .i64 0, .int .i64 0, .int .i64 0, .int .i64 0, .int .i64 0, .int .i64 0, .int .i64 0, .int .i64 0, .int .i64 0, .int .i64 0, .int .i64 0, .int .i64 0, .int .i64 0, .int .i64 0, .int .i64 0, .int .i64 0, .int .i64 0, .int .i64 0, .int .i64 0] TR))
  have hG2 := Lib.hid (show GS (W1.alloc (.cells #[.int .i64 0, .int .i64 0, .bool false, .bool false, .bool false, .bool false, .slice none 0 0, .slice none 0 0, .slice none 0 0, .slice none 0 0, .slice none 0 0, .slice none 0 0, .slice none 0 0, .slice none 0 0, .int .i64 0, .int .i64 0, .int .i64 0, .int .i64 0, .int .i64 0, .int .i64 0, .int .i64 0, .int .i64 0, .int .i64 0, .int .i64 0, .int .i64 0, .int .i64 0, .int .i64 0, .int .i64 0, .int .i64 0, .int .i64 0, .int .i64 0, .int .i64 0, .int .i64 0, .int .i64 0, .int .i64 0] TR)) W1.heap.size (r1 p m n 0) zA from (zGS _ _).ms (fun _ _ => rfl))
  replace hS1 := Lib.hid hS1
  replace hB1 := Lib.hid hB1
  have hmT := Lib.hid (show ((m.toNat : Nat) : Int) = m by omega)
  have p1' := Lib.hid (show (1 ≤ m ∧ m ≤ 4) ∧ 1 ≤ n ∧ n ≤ 4 from ⟨⟨m1, by omega⟩, n1, n2⟩)
  clear hW1 hb
  go_enter Try.func10, Try.ntmps10
  go_upto_region 1 with (fail)
  rw [hWf.out]
  go_wp2_with (first
    | (refine st_put rfl TR _ _ rfl W1.heap.size (r1 p m n 0) zA rfl rfl hS2.out (.inr rfl) ?_; intro W7 hS7 hB7 hG7 hz7; have hx7 : Hid (Bx TR W1.heap.size W1.heap.size (r1 p m n 0) W1 W7) := Lib.hid ⟨zA, hS7, hG7 _ _ _ hG2.out, hB2.out.trans (hB7 W1.heap.size (Nat.le_refl _))⟩; clear hS7 hB7 hG7 hz7) | fail)
  clear hWf hS2 hB2 hG2 p1 p2 m1 m2 n1 n2
  generalize (Value.agg _ : Value) = v37 at *
  go_loopw [9] (fun i wr => ∃ k : Nat, k ≤ 21 ∧ i = .int .i64 k ∧ Hid (Bx TR W1.heap.size W1.heap.size (r1 p m n k) W1 wr)) (fun i _ => 21 - (intOf i).toNat)
  case atStart => exact ⟨0, by omega, rfl, hx7⟩
  case round =>
    clear hx7
    obtain ⟨k, hk, rfl, hX⟩ := hrel
    by_cases hlt : k < 21
    · have hu := Lib.hid (bx_mode (.inr rfl) hX.out hlt (Nat.le_refl _) (f0 m n k))
      have hv := Lib.hid (bx_mode (.inr rfl) (bx_mode (.inr rfl) hX.out hlt (Nat.le_refl _) 2) hlt (Nat.le_refl _) (f0 m n k))
      have hu2 := Lib.hid (r1_s1 p m n k)
      have hv2 := Lib.hid (r1_s2 p m n k)
      obtain ⟨a', hS, hG, hB⟩ := hX.out
      have hmo := hS.mo hlt
      have f := hS.fz
      have hj0 : (0 : Int) ≤ (k : Int) := by omega
      have hj1 : (k : Int) < 21 := by omega
      clear hX hS hG hB
      go_wp2
      all_goals
        first
          | (have e : f0 m n k = 2 := (by unfold f0; rw [if_neg (by omega)]); rw [e] at hu)
          | (have e : f0 m n k = 1 := (by unfold f0; rw [if_pos (by omega)]); rw [e] at hv)
          | (go_must (exact (0 : Nat)))
        go_roundw
        case rel => exact ⟨k + 1, by omega, by go_num, Lib.hid (by first | (rw [← hu2.out, e]; exact hu.out) | (rw [← hv2.out, e]; exact hv.out))⟩
        case measure => simp [intOf]; omega
    · obtain rfl : k = 21 := by omega
      clear hk hlt
      generalize wr = w8 at *
      go_wp2
      rw [show ((21 : Nat) : Int) = (21 : Int) from rfl]
      go_loopw [10] (fun i wr => ∃ k : Nat, k ≤ m.toNat ∧ i = .int .i64 k ∧ Hid (Bx TR W1.heap.size W1.heap.size (r2 p m n k) W1 wr)) (fun i _ => m.toNat - (intOf i).toNat)
      case atStart => exact ⟨0, by omega, rfl, hX⟩
      case round =>
        clear hX
        obtain ⟨k, hk, rfl, hX⟩ := hrel
        by_cases hlt : k < m.toNat
        · have hlt' : (k : Int) < m := by have := hmT.out; omega
          have hk4 : k < 4 := by have := p1'.out; omega
          obtain ⟨a', hS, hG, hB⟩ := hX.out
          have hj0 : (0 : Int) ≤ (k : Int) := by omega
          have hj1 : (k : Int) < 4 := by omega
          have k0 := hS.me hk4
          have f := hS.fz
          have hS2 := hS.setMe hk4 true
          have hG2 := (hG.box hS tr1 tr2 (2 + k) (.bool true))
          have hB2 := hB.setCell (p := ⟨W1.heap.size, 2 + k, none⟩) (Nat.le_refl _) (.bool true)
          have hz2 : (wr.setCell ⟨W1.heap.size, 2 + k, none⟩ (.bool true)).heap.size = wr.heap.size := by simp
          have hS3 := hS2.below (al0 _ (.cells #[.int .i64 0] 3))
          have hG3 := hG2.below (al0 _ (.cells #[.int .i64 0] 3))
          have hB3 := hB2.alloc hB2.size (.cells #[.int .i64 0] 3)
          have hrow := World.ownsRow_lit (e := 3) (size := 1) (base := W1.heap.size) (wr.setCell ⟨W1.heap.size, 2 + k, none⟩ (.bool true)) #[.int .i64 0] 1 hB2.size (by unfold maxLen; omega) rfl
          rw [hz2] at hrow
          have k1 := hS3.m1 hk4
          have k2 := hS3.m2 hk4
          have f3 := hS3.fz
          have hfin := Lib.hid (bx_mapT (m := whole) tr1 tr2 hk4 hS3 (hG3.ms fun _ _ => rfl) hB3 (Nat.le_refl _) ⟨World.ownsRow_nil _ _ _ 1, hrow⟩)
          have hup := Lib.hid (r2_up p m n k)
          clear hX hS hG hB hS2 hG2 hB2 hz2 hS3 hG3 hB3 hrow
          go_wp2
          go_roundw
          case rel => exact ⟨k + 1, by omega, by go_num, Lib.hid (by rw [← hup.out]; exact hfin.out)⟩
          case measure => simp [intOf]; omega
        · obtain rfl : k = m.toNat := by omega
          have hlt' : ¬ (((m.toNat : Nat) : Int) < m) := by have := hmT.out; omega
          obtain ⟨a', hS, hG, hB⟩ := hX.out
          have hr6 := Lib.hid (hS1.out.below hB)
          have hG' := Lib.hid hG
          have hB' := Lib.hid hB
          have he := Lib.hid (heq.out a')
          clear hG hB hX
          go_wp2_with (first | (refine st_load rfl TR _ rfl W1.heap.size rfl hS (.inr rfl) ?_) | (refine st_put rfl TR _ _ rfl w.heap.size (r2 p m n m.toNat) a' rfl rfl hr6.out (.inr rfl) ?_; intro W9 hS9 hB9 hG9 hz9; have hs9 := Lib.hid hS9; have hb9 := Lib.hid (hB9 w.heap.size (Nat.le_refl _)); have hg9 := Lib.hid (hG9 _ _ _ hG'.out); clear hS9 hB9 hG9 hz9) | fail)
          refine bodyPost_ret (v := .tuple #[.agg (cS (r2 p m n m.toNat) a'), .int .i64 0]) (st_res2 rfl _ _ w.heap.size _ rfl rfl hs9.out (.inr rfl)) rfl ⟨a', by rw [he.out.1]; rfl, (hg9.out.ms he.out.2).more hB1.out.size, ?_⟩
          exact (trans0 hB1.out hB'.out).trans hb9.out
theorem rstart_any (p m n : Int) (w : World) : Calls Try.prog 10 #[.int .i64 p, .int .i64 m, .int .i64 n] w (TellsS (stE p m n) (cfJ.stM p m n) w) := by
  unfold stE cfJ.stM
  cases hb : stB p m n
  · exact rstart_bad p m n w hb
  · exact rstart_good p m n w hb
end Go.Proofs.Ytpijljbkdfjhcaa.cfK
