/- Plain mathematics of rows of short numbers. No program. -/
import Derived.Test.YtihojeffdepddaaNumM
namespace Go.Proofs.Ytihojeffdepddaa.numR
open numM

/-- the short numbers that stand one behind the other from a place on: where each begins, and its value; at most so many -/
def rwk (l : List Nat) : Nat → Nat → List (Nat × Nat)
  | 0, _ => []
  | k + 1, p => if tke (l.drop p) = 0 then (p, tkv (l.drop p)) :: rwk l k (p + tkn (l.drop p)) else []
def rws (l : List Nat) (p : Nat) : List (Nat × Nat) := rwk l (l.length + 1 - p) p
theorem tke_nil : tke [] = 2 := rfl
theorem rwk_more {l : List Nat} (hl : ∀ c ∈ l, c < 256) (k : Nat) : ∀ (p j : Nat), l.length < p + k → rwk l (k + j) p = rwk l k p := by
  induction k with
  | zero =>
    intro p j hp
    rcases j with _ | j
    · rfl
    · have : l.drop p = [] := List.drop_of_length_le (by omega)
      rw [Nat.zero_add]
      unfold rwk
      rw [this, tke_nil, if_neg (by decide)]
  | succ k ih =>
    intro p j hp
    rw [show k + 1 + j = (k + j) + 1 by omega]
    unfold rwk
    by_cases h : tke (l.drop p) = 0
    · rw [if_pos h, if_pos h]
      have := (tk_yes (fun c hc => hl c (List.mem_of_mem_drop hc)) h).2.1
      rw [ih _ j (by omega)]
    · rw [if_neg h, if_neg h]
theorem rws_next {l : List Nat} (hl : ∀ c ∈ l, c < 256) {p : Nat} (h : tke (l.drop p) = 0) : rws l p = (p, tkv (l.drop p)) :: rws l (p + tkn (l.drop p)) := by
  have hy := tk_yes (fun c hc => hl c (List.mem_of_mem_drop hc)) h
  have hlen : tkn (l.drop p) ≤ l.length - p := by have := hy.2.2.1; rwa [List.length_drop] at this
  have hp : p < l.length := by have := hy.2.1; omega
  unfold rws
  rw [show l.length + 1 - p = (l.length - p) + 1 by omega]
  conv => lhs; unfold rwk
  rw [if_pos h]
  congr 1
  have := rwk_more hl (l.length + 1 - (p + tkn (l.drop p))) (p + tkn (l.drop p)) (tkn (l.drop p) - 1) (by omega)
  rw [← this]
  congr 1
  have := hy.2.1
  omega
theorem rws_end {l : List Nat} {p : Nat} (h : tke (l.drop p) ≠ 0) : rws l p = [] := by
  unfold rws
  rcases hk : l.length + 1 - p with _ | k
  · rfl
  · unfold rwk
    rw [if_neg h]
theorem rws_step {l : List Nat} (hl : ∀ c ∈ l, c < 256) {p : Nat} (hp : p ≤ l.length) (h : tke (l.drop p) = 0) : p + tkn (l.drop p) ≤ l.length := by
  have := (tk_yes (fun c hc => hl c (List.mem_of_mem_drop hc)) h).2.2.1
  rw [List.length_drop] at this
  omega

/-- numbers, written one behind the other -/
def uvs : List Nat → List Nat
  | [] => []
  | n :: r => uv n ++ uvs r
theorem uvs_lt (ns : List Nat) : ∀ c ∈ uvs ns, c < 256 := by
  induction ns with
  | nil => intro c hc; cases hc
  | cons n r ih => intro c hc; exact (List.mem_append.1 hc).elim (uv_lt n c) (ih c)
theorem uvs_len (ns : List Nat) (h : ∀ n ∈ ns, n < 18446744073709551616) : (uvs ns).length ≤ 10 * ns.length := by
  induction ns with
  | nil => simp [uvs]
  | cons n r ih =>
    have h1 := uv_len10 (h n (by simp))
    have h2 := ih (fun m hm => h m (by simp [hm]))
    show (uv n ++ uvs r).length ≤ _
    rw [List.length_append, List.length_cons]; omega
theorem uvs_snoc (ns : List Nat) (n : Nat) : uvs (ns ++ [n]) = uvs ns ++ uv n := by
  induction ns with
  | nil => simp [uvs]
  | cons m r ih => simp [uvs, ih, List.append_assoc]
/-- the numbers that were written one behind the other are told again -/
theorem rws_uvs (ns : List Nat) (h : ∀ n ∈ ns, n < 18446744073709551616) : ∀ (pre : List Nat), (∀ c ∈ pre, c < 256) → (rws (pre ++ uvs ns) pre.length).map (·.2) = ns := by
  induction ns with
  | nil =>
    intro pre hpre
    rw [rws_end (by rw [show uvs [] = [] from rfl, List.append_nil, List.drop_of_length_le (Nat.le_refl _)]; decide)]
    rfl
  | cons n r ih =>
    intro pre hpre
    have hn := h n (by simp)
    have e : (pre ++ uvs (n :: r)).drop pre.length = uv n ++ uvs r := by rw [List.drop_left]; rfl
    have hb := tk_back hn (uvs r)
    have hlt : ∀ c ∈ pre ++ uvs (n :: r), c < 256 := fun c hc => (List.mem_append.1 hc).elim (hpre c) (uvs_lt _ c)
    rw [rws_next hlt (by rw [e]; exact hb.2.2), e, hb.1, hb.2.1, List.map_cons]
    congr 1
    have := ih (fun m hm => h m (by simp [hm])) (pre ++ uv n) (fun c hc => (List.mem_append.1 hc).elim (hpre c) (uv_lt n c))
    rw [List.length_append] at this
    rw [show pre ++ uvs (n :: r) = pre ++ uv n ++ uvs r by rw [List.append_assoc]; rfl]
    exact this
end Go.Proofs.Ytihojeffdepddaa.numR
