/- Start: the first configuration. -/
import Derived.Test.YtpijljbkdfjhcaaCfI
set_option linter.unusedVariables false
set_option maxRecDepth 100000
namespace Go.Proofs.Ytpijljbkdfjhcaa.cfJ
open Go.ChangeShapes Go.WideShapes Go.ChangeAt Go.RowKit Go.Deep
open spnM spnA spnB spnD spnI spnJ spnK spnS cfA cfB cfC cfD cfE cfF cfG cfH cfI

/-- the first configuration -/
def stC (pool members nodes : Int) : Cf := ⟨pool, nodes, fun j => decide ((j : Int) < members), fun j => if (j : Int) < members then whole else non, fun p => if 0 < p ∧ ((p - 1) / 5 : Nat) < members ∧ (((p - 1) % 5 : Nat) : Int) ≤ nodes then 1 else 2⟩
def stB (pool members nodes : Int) : Bool := (decide (1 ≤ pool) && decide (pool ≤ 4)) && ((decide (1 ≤ members) && decide (members ≤ pool)) && (decide (1 ≤ nodes) && decide (nodes ≤ 4)))
def stE (pool members nodes : Int) : Nat := if stB pool members nodes = true then 0 else 1
def stM (pool members nodes : Int) : Cf := if stB pool members nodes = true then stC pool members nodes else zC
theorem stB_iff {p m n : Int} : stB p m n = true ↔ (1 ≤ p ∧ p ≤ 4) ∧ (1 ≤ m ∧ m ≤ p) ∧ (1 ≤ n ∧ n ≤ 4) := by
  unfold stB; simp only [Bool.and_eq_true, decide_eq_true_eq]
/-- on the way: the modes; the members -/
def b21 (k : Nat) : Nat → Int := fun p => if p < k then 2 else 0
theorem b21_up (k : Nat) : upd (b21 k) k 2 = b21 (k + 1) := by
  funext p
  unfold upd b21
  by_cases h : p = k
  · rw [if_pos h, if_pos (by omega)]
  · rw [if_neg h]
    by_cases h2 : p < k
    · rw [if_pos h2, if_pos (by omega)]
    · rw [if_neg h2, if_neg (by omega)]
def mdS (pool nodes : Int) (k : Nat) : Cf := ⟨pool, nodes, fun _ => false, fun _ => non, b21 k⟩
def stS (pool nodes : Int) : Nat → Cf
  | 0 => mdS pool nodes 21
  | k + 1 => spkM (joinM (stS pool nodes k) k) k (nodes.toNat + 1) 1
theorem stS_at (pool nodes : Int) (h1 : 1 ≤ nodes) (h4 : nodes ≤ 4) : ∀ k : Nat, k ≤ 4 → (stS pool nodes k).pool = pool ∧ (stS pool nodes k).nodes = nodes ∧ (∀ j : Nat, (stS pool nodes k).me j = decide (j < k)) ∧ (∀ j : Nat, (stS pool nodes k).ms j = if j < k then whole else non) ∧ ∀ p, p < 21 → (stS pool nodes k).mo p = if 0 < p ∧ (p - 1) / 5 < k ∧ (((p - 1) % 5 : Nat) : Int) ≤ nodes then 1 else 2
  | 0, _ => ⟨rfl, rfl, fun j => rfl, fun j => rfl, fun p hp => by
      show (if p < 21 then (2 : Int) else 0) = _
      rw [if_pos hp, if_neg (by omega)]⟩
  | k + 1, hk => by
    obtain ⟨a1, a2, a3, a4, a5⟩ := stS_at pool nodes h1 h4 k (by omega)
    refine ⟨a1, a2, fun j => ?_, fun j => ?_, fun p hp => ?_⟩
    · show upd (stS pool nodes k).me k true j = _
      unfold upd
      by_cases h : j = k
      · rw [if_pos h]; simp; omega
      · rw [if_neg h, a3 j]; simp; omega
    · show upd (stS pool nodes k).ms k whole j = _
      unfold upd
      by_cases h : j = k
      · rw [if_pos h, if_pos (by omega)]
      · rw [if_neg h, a4 j]
        by_cases h2 : j < k
        · rw [if_pos h2, if_pos (by omega)]
        · rw [if_neg h2, if_neg (by omega)]
    · show spkF (stS pool nodes k).mo k (nodes.toNat + 1) 1 p = _
      unfold spkF
      by_cases h : 1 + 5 * k ≤ p ∧ p < 1 + 5 * k + (nodes.toNat + 1)
      · rw [if_pos h, if_pos (by omega)]
      · rw [if_neg h, a5 p hp]
        by_cases h2 : 0 < p ∧ (p - 1) / 5 < k ∧ (((p - 1) % 5 : Nat) : Int) ≤ nodes
        · rw [if_pos h2, if_pos (by omega)]
        · rw [if_neg h2, if_neg (by omega)]
theorem stS_eq {pool members nodes : Int} (hb : stB pool members nodes = true) (a : Wh) : cS (stS pool nodes members.toNat) a = cS (stC pool members nodes) a ∧ (∀ i, i < 4 → (stC pool members nodes).ms i = (stS pool nodes members.toNat).ms i) := by
  obtain ⟨⟨p1, p2⟩, ⟨m1, m2⟩, n1, n2⟩ := stB_iff.1 hb
  obtain ⟨a1, a2, a3, a4, a5⟩ := stS_at pool nodes n1 n2 members.toNat (by omega)
  refine ⟨cS_congr a1 a2 (fun i hi => ?_) (fun i hi => ?_) (fun i hi => ?_) (fun _ _ => rfl), fun i hi => ?_⟩
  · rw [a3]; exact decide_eq_decide.2 (by omega)
  · rw [a4]; show _ = if (i : Int) < members then whole else non
    by_cases h : i < members.toNat
    · rw [if_pos h, if_pos (by omega)]
    · rw [if_neg h, if_neg (by omega)]
  · rw [a5 i hi]; show _ = if 0 < i ∧ (((i - 1) / 5 : Nat) : Int) < members ∧ (((i - 1) % 5 : Nat) : Int) ≤ nodes then (1 : Int) else 2
    by_cases h : 0 < i ∧ (i - 1) / 5 < members.toNat ∧ (((i - 1) % 5 : Nat) : Int) ≤ nodes
    · rw [if_pos h, if_pos (by omega)]
    · rw [if_neg h, if_neg (by omega)]
  · rw [a4]; show (if (i : Int) < members then whole else non) = _
    by_cases h : i < members.toNat
    · rw [if_pos h, if_pos (by omega)]
    · rw [if_neg h, if_neg (by omega)]
theorem sz_st (p m n : Int) : Sz (stM p m n) := by
  unfold stM
  split
  · intro i hi
    show (if (i : Int) < m then whole else non).cs.length * 16 ≤ _ ∧ (if (i : Int) < m then whole else non).ns.length * 8 ≤ _
    split <;> exact ⟨by simp [non], by simp [non]⟩
  · exact sz_zC
theorem SB.mor' {T : TypeId} {b : Nat} {s : Cf} {a : Wh} {w : World} (h : SB T b s a w) : MoR b 14 s.mo w := fun _ hj => h.mo hj
set_option maxHeartbeats 1000000 in
theorem start_bad (p m n : Int) (w : World) (hb : stB p m n = false) : Calls Try.prog 9 #[.int .i64 p, .int .i64 m, .int .i64 n] w (TellsS 1 zC w) := by
  have hf1 := Lib.hid (fun (w : World) => isFrom_any 1 4 p w)
  have hf2 := Lib.hid (fun (w : World) => isFrom_any 1 p m w)
  have hf3 := Lib.hid (fun (w : World) => isFrom_any 1 4 n w)
  unfold stB at hb
  generalize (decide (1 ≤ p) && decide (p ≤ 4)) = g1 at *
  generalize (decide (1 ≤ m) && decide (m ≤ p)) = g2 at *
  generalize (decide (1 ≤ n) && decide (n ≤ 4)) = g3 at *
  have hB1 := Lib.hid (al0 w (.cells #[.int .i64 0, .int .i64 0, .bool false, .bool false, .bool false, .bool false, .slice none 0 0, .slice none 0 0, .slice none 0 0, .slice none 0 0, .slice none 0 0, .slice none 0 0, .slice none 0 0, .slice none 0 0, .int .i64 0, .int .i64 0, .int .i64 0, .int .i64 0, .int .i64 0, .int .i64 0, .int .i64 0, .int .i64 0, .int .i64 0, .int .i64 0, .int .i64 0, .int .i64 0, .int .i64 0, .int .i64 0, .int .i64 0, .int .i64 0, .int .i64 0, .int .i64 0, .int .i64 0, .int .i64 0, .int .i64 0] TS))
  have hS1 := Lib.hid (show SB TS w.heap.size zC zA (w.alloc (.cells #[.int .i64 0, .int .i64 0, .bool false, .bool false, .bool false, .bool false, .slice none 0 0, .slice none 0 0, .slice none 0 0, .slice none 0 0, .slice none 0 0, .slice none 0 0, .slice none 0 0, .slice none 0 0, .int .i64 0, .int .i64 0, .int .i64 0, .int .i64 0, .int .i64 0, .int .i64 0, .int .i64 0, .int .i64 0, .int .i64 0, .int .i64 0, .int .i64 0, .int .i64 0, .int .i64 0, .int .i64 0, .int .i64 0, .int .i64 0, .int .i64 0, .int .i64 0, .int .i64 0, .int .i64 0, .int .i64 0] TS)) from SB.new TS zC zA w)
  cases g1 <;> cases g2 <;> cases g3
  all_goals first | (exfalso; cases hb; done) | skip
  all_goals
    clear hb
    go_enter Try.func9, Try.ntmps9
    go_wp2_with (first
      | (go_at_call 27; (first | (with_reducible refine (hf1.out _).mono ?_) | (with_reducible refine (hf2.out _).mono ?_) | (with_reducible refine (hf3.out _).mono ?_)); rintro e w' ⟨rfl, rfl⟩)
      | (refine st_put rfl TS _ _ rfl w.heap.size zC zA rfl rfl hS1.out (.inl rfl) ?_; intro W7 hS7 hB7 hG7 hz7; have hs7 := Lib.hid hS7; have hb7 := Lib.hid (hB1.out.trans (hB7 w.heap.size (Nat.le_refl _))); clear hS7 hB7 hG7 hz7) | fail)
    exact bodyPost_ret (v := .tuple #[.agg (cS zC zA), .int .i64 1]) (st_res2 rfl _ _ w.heap.size _ rfl rfl hs7.out (.inl rfl)) rfl ⟨zA, rfl, zGS _ _, hb7.out⟩
theorem bx_mode {T : TypeId} (hT : T = TS ∨ T = TR) {b base k : Nat} {s : Cf} {w0 w : World} (h : Bx T b base s w0 w) (hk : k < 21) (hb : base ≤ b) (x : Int) : Bx T b base { s with mo := upd s.mo k x } w0 (w.setCell ⟨b, 14 + k, none⟩ (.int .i64 x)) := by
  obtain ⟨a', h1, h2, h3⟩ := h
  exact ⟨a', h1.setMo hk x, (h2.box h1 (tne hT).1 (tne hT).2 _ _).ms fun _ _ => rfl, h3.setCell (p := ⟨b, 14 + k, none⟩) hb _⟩
theorem bx_md {T : TypeId} (hT : T = TS ∨ T = TR) {b base k : Nat} {p n : Int} {w0 w : World} (h : Bx T b base (mdS p n k) w0 w) (hk : k < 21) (hb : base ≤ b) : Bx T b base (mdS p n (k + 1)) w0 (w.setCell ⟨b, 14 + k, none⟩ (.int .i64 2)) := by
  have := bx_mode hT h hk hb 2
  unfold mdS at this ⊢
  rw [← b21_up]
  exact this
set_option maxHeartbeats 1000000 in
theorem start_good (p m n : Int) (w : World) (hb : stB p m n = true) : Calls Try.prog 9 #[.int .i64 p, .int .i64 m, .int .i64 n] w (TellsS 0 (stC p m n) w) := by
  have hbb := stB_iff.1 hb
  have heq := Lib.hid (fun a => stS_eq hb a)
  have hf1 := Lib.hid (fun (w : World) => isFrom_any 1 4 p w)
  have hf2 := Lib.hid (fun (w : World) => isFrom_any 1 p m w)
  have hf3 := Lib.hid (fun (w : World) => isFrom_any 1 4 n w)
  rw [decide_eq_true hbb.1.1, decide_eq_true hbb.1.2] at hf1
  rw [decide_eq_true hbb.2.1.1, decide_eq_true hbb.2.1.2] at hf2
  rw [decide_eq_true hbb.2.2.1, decide_eq_true hbb.2.2.2] at hf3
  have hB1 := al0 w (.cells #[.int .i64 0, .int .i64 0, .bool false, .bool false, .bool false, .bool false, .slice none 0 0, .slice none 0 0, .slice none 0 0, .slice none 0 0, .slice none 0 0, .slice none 0 0, .slice none 0 0, .slice none 0 0, .int .i64 0, .int .i64 0, .int .i64 0, .int .i64 0, .int .i64 0, .int .i64 0, .int .i64 0, .int .i64 0, .int .i64 0, .int .i64 0, .int .i64 0, .int .i64 0, .int .i64 0, .int .i64 0, .int .i64 0, .int .i64 0, .int .i64 0, .int .i64 0, .int .i64 0, .int .i64 0, .int .i64 0] TS)
  have hS1 : SB TS w.heap.size zC zA (w.alloc (.cells #[.int .i64 0, .int .i64 0, .bool false, .bool false, .bool false, .bool false, .slice none 0 0, .slice none 0 0, .slice none 0 0, .slice none 0 0, .slice none 0 0, .slice none 0 0, .slice none 0 0, .slice none 0 0, .int .i64 0, .int .i64 0, .int .i64 0, .int .i64 0, .int .i64 0, .int .i64 0, .int .i64 0, .int .i64 0, .int .i64 0, .int .i64 0, .int .i64 0, .int .i64 0, .int .i64 0, .int .i64 0, .int .i64 0, .int .i64 0, .int .i64 0, .int .i64 0, .int .i64 0, .int .i64 0, .int .i64 0] TS)) := SB.new TS zC zA w
  obtain ⟨W1, hW1⟩ : ∃ W1, w.alloc (.cells #[.int .i64 0, .int .i64 0, .bool false, .bool false, .bool false, .bool false, .slice none 0 0, .slice none 0 0, .slice none 0 0, .slice none 0 0, .slice none 0 0, .slice none 0 0, .slice none 0 0, .slice none 0 0, .int .i64 0, .int .i64 0, .int .i64 0, .int .i64 0, .int .i64 0, .int .i64 0, .int .i64 0, .int .i64 0, .int .i64 0, .int .i64 0, .int .i64 0, .int .i64 0, .int .i64 0, .int .i64 0, .int .i64 0, .int .i64 0, .int .i64 0, .int .i64 0, .int .i64 0, .int .i64 0, .int .i64 0] TS) = W1 := ⟨_, rfl⟩
  have hz1 : W1.heap.size = w.heap.size + 1 := by rw [← hW1]; simp
  rw [hW1] at hB1 hS1
  have hWf := Lib.hid hW1
  have hS2 := Lib.hid (show SB TS W1.heap.size zC zA (W1.alloc (.cells #[.int .i64 0, .int .i64 0, .bool false, .bool false, .bool false, .bool false, .slice none 0 0, .slice none 0 0, .slice none 0 0, .slice none 0 0, .slice none 0 0, .slice none 0 0, .slice none 0 0, .slice none 0 0, .int .i64 0, .int .i64 0, .int .i64 0, .int .i64 0, .int .i64 0, .int .i64 0, .int .i64 0, .int .i64 0, .int .i64 0, .int .i64 0, .int .i64 0, .int .i64 0, .int .i64 0, .int .i64 0, .int .i64 0, .int .i64 0, .int .i64 0, .int .i64 0, .int .i64 0, .int .i64 0, .int .i64 0] TS)) from SB.new TS zC zA W1)
  have hB2 := Lib.hid (al0 W1 (.cells #[.int .i64 0, .int .i64 0, .bool false, .bool false, .bool false, .bool false, .slice none 0 0, .slice none 0 0, .slice none 0 0, .slice none 0 0, .slice none 0 0, .slice none 0 0, .slice none 0 0, .slice none 0 0, .int .i64 0, .int .i64 0, .int .i64 0, .int .i64 0, .int .i64 0, .int .i64 0, .int .i64 0, .int .i64 0, .int .i64 0, .int .i64 0, .int .i64 0, .int .i64 0, .int .i64 0, .int .i64 0, .int .i64 0, .int .i64 0, .int .i64 0, .int .i64 0, .int .i64 0, .int .i64 0, .int .i64 0] TS))
  have hG2 := Lib.hid (show GS (W1.alloc (.cells #[.int .i64 0, .int .i64 0, .bool false, .bool false, .bool false, .bool false, .slice none 0 0, .slice none 0 0, .slice none 0 0, .slice none 0 0, .slice none 0 0, .slice none 0 0, .slice none 0 0, .slice none 0 0, .int .i64 0, .int .i64 0, .int .i64 0, .int .i64 0, .int .i64 0, .int .i64 0, .int .i64 0, .int .i64 0, .int .i64 0, .int .i64 0, .int .i64 0, .int .i64 0, .int .i64 0, .int .i64 0, .int .i64 0, .int .i64 0, .int .i64 0, .int .i64 0, .int .i64 0, .int .i64 0, .int .i64 0] TS)) W1.heap.size (mdS p n 0) zA from (zGS _ _).ms (fun _ _ => rfl))
  have e0 := Lib.hid (show cS (mdS p n 0) zA = cS (mdS p n 0) zA from rfl)
  replace hS1 := Lib.hid hS1
  replace hB1 := Lib.hid hB1
  clear hW1 hb
  obtain ⟨⟨p1, p2⟩, ⟨m1, m2⟩, n1, n2⟩ := hbb
  have hmT : ((m.toNat : Nat) : Int) = m := by omega
  have hnT : ((n.toNat : Nat) : Int) = n := by omega
  replace hmT := Lib.hid hmT
  replace hnT := Lib.hid hnT
  replace hz1 := Lib.hid hz1
  have p1' := Lib.hid (show (1 ≤ m ∧ m ≤ 4) ∧ 1 ≤ n ∧ n ≤ 4 from ⟨⟨m1, by omega⟩, n1, n2⟩)
  clear p1 p2 m1 m2 n1 n2
  go_enter Try.func9, Try.ntmps9
  go_upto_region 1 with (fail)
  rw [hWf.out]
  go_wp2_with (first
    | (go_at_call 27; (first | (with_reducible refine (hf1.out _).mono ?_) | (with_reducible refine (hf2.out _).mono ?_) | (with_reducible refine (hf3.out _).mono ?_)); rintro e w' ⟨rfl, rfl⟩)
    | (refine st_put rfl TS _ _ rfl W1.heap.size (mdS p n 0) zA rfl rfl hS2.out (.inl rfl) ?_; intro W7 hS7 hB7 hG7 hz7; have hx7 : Hid (Bx TS W1.heap.size W1.heap.size (mdS p n 0) W1 W7) := Lib.hid ⟨zA, hS7, hG7 _ _ _ hG2.out, hB2.out.trans (hB7 W1.heap.size (Nat.le_refl _))⟩; clear hS7 hB7 hG7 hz7) | fail)
  clear hf1 hf2 hf3 hWf hS2 hB2 hG2
  have hz7 := Lib.hid (show W1.heap.size ≤ W7.heap.size from (by obtain ⟨_, _, _, hh⟩ := hx7.out; exact hh.size))
  clear e0
  generalize (Value.agg _ : Value) = v28 at *
  go_loopw [29] (fun i wr => ∃ k : Nat, k ≤ 21 ∧ i = .int .i64 k ∧ Hid (Bx TS W1.heap.size W1.heap.size (mdS p n k) W1 wr)) (fun i _ => 21 - (intOf i).toNat)
  case atStart => exact ⟨0, by omega, rfl, hx7⟩
  case round =>
    clear hx7 hz7
    obtain ⟨k, hk, rfl, hX⟩ := hrel
    by_cases hlt : k < 21
    · have hu := Lib.hid (bx_md (.inl rfl) hX.out hlt (Nat.le_refl _))
      obtain ⟨a', hS, -, -⟩ := hX.out
      have hmo := hS.mo hlt
      have f := hS.fz
      have hj0 : (0 : Int) ≤ (k : Int) := by omega
      have hj1 : (k : Int) < 21 := by omega
      clear hX hS
      go_wp2
      go_roundw
      case rel => exact ⟨k + 1, by omega, by go_num, hu⟩
      case measure => simp [intOf]; omega
    · obtain rfl : k = 21 := by omega
      clear hk hlt
      generalize wr = w8 at *
      go_wp2
      rw [show ((21 : Nat) : Int) = (21 : Int) from rfl]
      go_loopw [37] (fun i wr => ∃ k : Nat, k ≤ m.toNat ∧ i = .int .i64 k ∧ Hid (Bx TS W1.heap.size W1.heap.size (stS p n k) W1 wr)) (fun i _ => m.toNat - (intOf i).toNat)
      case atStart => exact ⟨0, by omega, rfl, hX⟩
      case round =>
        clear hX
        obtain ⟨k, hk, rfl, hX⟩ := hrel
        by_cases hlt : k < m.toNat
        · have hlt' : (k : Int) < m := by have := hmT.out; omega
          have hk4 : k < 4 := by have := p1'.out; omega
          have hjn : Hid (Calls Try.prog 28 #[.pointer (some ⟨W1.heap.size, 0, none⟩), .int .i64 k] wr fun e w' => e = .returned (.tuple #[]) ∧ Bx TS W1.heap.size W1.heap.size (joinM (stS p n k) k) W1 w') := Lib.hid (by
            obtain ⟨a', h1, h2, h3⟩ := hX.out
            exact (join_any _ _ k _ a' wr hk4 h1 h2 (Nat.le_refl _) h3.size).mono fun e w' ⟨q1, q2⟩ => ⟨q1, Bx.trans q2 h3⟩)
          have hsp : Hid (∀ w2, Bx TS W1.heap.size W1.heap.size (joinM (stS p n k) k) W1 w2 → Calls Try.prog 29 #[.pointer (some ⟨W1.heap.size, 0, none⟩), .int .i64 k, .int .i64 n, .int .i64 1] w2 fun e w' => e = .returned (.tuple #[]) ∧ Bx TS W1.heap.size W1.heap.size (stS p n (k + 1)) W1 w') := Lib.hid (fun w2 h => by
            obtain ⟨a', h1, h2, h3⟩ := h
            have := speak_any W1.heap.size W1.heap.size k n.toNat 1 (joinM (stS p n k) k) a' w2 hk4 (by have := p1'.out; omega) h1 h2 (Nat.le_refl _)
            rw [hnT.out] at this
            exact this.mono fun e w' ⟨q1, q2⟩ => ⟨q1, Bx.trans q2 h3⟩)
          clear hX
          go_wp2_with (first
            | (go_at_call 28; ((with_reducible refine hjn.out.mono ?_); rintro e w2 ⟨rfl, hq⟩; have hsq := Lib.hid (hsp.out _ hq); clear hq))
            | (go_at_call 29; ((with_reducible refine hsq.out.mono ?_); rintro e w3 ⟨rfl, hq⟩; have hq3 := Lib.hid hq; clear hq)) | fail)
          go_roundw
          case rel => exact ⟨k + 1, by omega, by go_num, hq3⟩
          case measure => simp [intOf]; omega
        · obtain rfl : k = m.toNat := by omega
          have hlt' : ¬ (((m.toNat : Nat) : Int) < m) := by have := hmT.out; omega
          obtain ⟨a', hS, hG, hB⟩ := hX.out
          have hr6 := Lib.hid (hS1.out.below hB)
          have hG' := Lib.hid hG
          have hB' := Lib.hid hB
          have he := Lib.hid (heq.out a')
          clear hG hB hX
          go_wp2_with (first | (refine st_load rfl TS _ rfl W1.heap.size rfl hS (.inl rfl) ?_) | (refine st_put rfl TS _ _ rfl w.heap.size (stS p n m.toNat) a' rfl rfl hr6.out (.inl rfl) ?_; intro W9 hS9 hB9 hG9 hz9; have hs9 := Lib.hid hS9; have hb9 := Lib.hid (hB9 w.heap.size (Nat.le_refl _)); have hg9 := Lib.hid (hG9 _ _ _ hG'.out); clear hS9 hB9 hG9 hz9) | fail)
          refine bodyPost_ret (v := .tuple #[.agg (cS (stS p n m.toNat) a'), .int .i64 0]) (st_res2 rfl _ _ w.heap.size _ rfl rfl hs9.out (.inl rfl)) rfl ⟨a', by rw [he.out.1]; rfl, (hg9.out.ms he.out.2).more hB1.out.size, ?_⟩
          exact (trans0 hB1.out hB'.out).trans hb9.out
theorem start_any (p m n : Int) (w : World) : Calls Try.prog 9 #[.int .i64 p, .int .i64 m, .int .i64 n] w (TellsS (stE p m n) (stM p m n) w) := by
  unfold stE stM
  cases hb : stB p m n
  · exact start_bad p m n w hb
  · exact start_good p m n w hb
end Go.Proofs.Ytpijljbkdfjhcaa.cfJ
