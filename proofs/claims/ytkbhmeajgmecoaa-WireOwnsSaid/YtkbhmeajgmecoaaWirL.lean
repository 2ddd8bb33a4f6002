/- Plain mathematics of the wire layer: how long bodies are. No program. -/
import Derived.Test.YtkbhmeajgmecoaaWirM
namespace Go.Proofs.Ytkbhmeajgmecoaa.wirL
open numM numN numE wirM

theorem flatten_le (c : Nat) : ∀ (ls : List (List Nat)), (∀ l ∈ ls, l.length ≤ c) → ls.flatten.length ≤ c * ls.length
  | [], _ => by simp
  | l :: ls, h => by
    have h1 := h l (by simp)
    have h2 := flatten_le c ls (fun x hx => h x (by simp [hx]))
    rw [List.flatten_cons, List.length_append, List.length_cons, Nat.mul_add]; omega
theorem tx1_le (s : ByteArray) (h : s.size ≤ 64) : (tx1 s).length ≤ 65 := by unfold tx1; rw [List.length_append, fx_len, sl_len]; omega
theorem tx_le (s : ByteArray) (h : s.size ≤ 64) : (tx s).length ≤ 74 := by
  unfold tx; rw [List.length_append, sl_len]; have := uv_len10 (show s.size < 18446744073709551616 by omega); omega
theorem flat6l (a b c d e f : List Nat) : [a, b, c, d, e, f].flatten.length = a.length + b.length + c.length + d.length + e.length + f.length := by simp; omega
theorem ev_le (v : Vr) (h : v.ok) : (ev v).length ≤ 150 := by
  have := tx1_le v.key (by have := h.key; omega)
  have := tx1_le v.val h.val
  unfold ev evs; rw [flat6l, fx_len, fx_len, fx_len]; simp only [gb, List.length_singleton]; omega
theorem sub64_lt (x a : Nat) : sub64 x a < 18446744073709551616 := Nat.mod_lt _ (by decide)
theorem nv_le (a : Nat) (v : Vr) (h : v.ok) : (nv a v).length ≤ 300 := by
  have := tx_le v.key (by have := h.key; omega)
  have := tx_le v.val h.val
  have := uv_len10 (sub64_lt v.ts a)
  have := uv_len10 (show v.dc.toNat < 18446744073709551616 by have := h.dc; omega)
  have := uv_len10 (show v.tx.toNat < 18446744073709551616 by have := h.tx; omega)
  unfold nv nvs; rw [flat6l]; simp only [gb, List.length_singleton]; omega
theorem nvl_len (l : List Vr) : ∀ a, (nvl a l).length = l.length := by
  induction l with
  | nil => intro a; rfl
  | cons v r ih => intro a; simp [nvl, ih]
theorem nvl_le (l : List Vr) (h : ∀ v ∈ l, v.ok) : ∀ a, ∀ x ∈ nvl a l, x.length ≤ 300 := by
  induction l with
  | nil => intro a x hx; cases hx
  | cons v r ih =>
    intro a x hx
    rcases List.mem_cons.1 hx with rfl | hx
    · exact nv_le a v (h v (by simp))
    · exact ih (fun u hu => h u (by simp [hu])) _ x hx
theorem elder_le (m : Ms) (h : m.ok) : (elder m).length ≤ 1099511627776 := by
  have h1 := tx1_le m.lo (by have := h.lo; omega)
  have h2 := tx1_le m.hi (by have := h.hi; omega)
  have h3 := tx1_le m.cmd.key (by have := h.cmd.key; omega)
  have h4 := flatten_le 150 (m.vers.map ev) (by
    intro l hl
    obtain ⟨v, hv, rfl⟩ := List.mem_map.1 hl
    exact ev_le v (h.vers v hv))
  have h5 := flatten_le 8 (m.vec.map (fx 8)) (by
    intro l hl
    obtain ⟨v, hv, rfl⟩ := List.mem_map.1 hl
    rw [fx_len]; omega)
  have h6 := flatten_le 1 ((nums m.cmd).map fun x => fx 1 x.toNat) (by
    intro l hl
    obtain ⟨v, hv, rfl⟩ := List.mem_map.1 hl
    rw [fx_len]; omega)
  rw [List.length_map] at h4 h5 h6
  have := h.len
  have := h.vec
  have h7 : (nums m.cmd).length = 5 := rfl
  have h0 : [fx 1 m.kind.toNat, fx 8 m.id, fx 8 m.n, fx 8 m.ts, tx1 m.lo, tx1 m.hi, fx 2 m.vers.length].flatten.length = 27 + (tx1 m.lo).length + (tx1 m.hi).length := by
    simp [fx_len]; omega
  unfold elder
  rw [List.length_append, List.length_append, List.length_append, List.length_append, List.length_append, h0, fx_len]
  omega
theorem pNum_le (n : Nat) (h : n < 18446744073709551616) : (pNum n).length ≤ 10 := by
  unfold pNum; split
  · simp
  · exact uv_len10 h
theorem pTxt_le (s : ByteArray) (h : s.size ≤ 64) : (pTxt s).length ≤ 74 := by
  unfold pTxt; split
  · simp
  · exact tx_le s h
theorem pVers_le (l : List Vr) (h : ∀ v ∈ l, v.ok) (hl : l.length ≤ 4096) : (pVers l).length ≤ 2000000 := by
  unfold pVers; split
  · simp
  · have h1 := uv_len10 (show l.length < 18446744073709551616 by omega)
    have h2 := flatten_le 300 (nvl 0 l) (nvl_le l h 0)
    rw [nvl_len] at h2
    rw [List.length_append]; omega
theorem pVec_le (l : List Nat) (h : ∀ n ∈ l, n < 18446744073709551616) (hl : l.length ≤ 32) : (pVec l).length ≤ 400 := by
  unfold pVec; split
  · simp
  · have h1 := uv_len10 (show l.length < 18446744073709551616 by omega)
    have h2 := flatten_le 10 (l.map uv) (by
      intro x hx
      obtain ⟨v, hv, rfl⟩ := List.mem_map.1 hx
      exact uv_len10 (h v hv))
    rw [List.length_map] at h2
    rw [List.length_append]; omega
theorem nums_ok {c : Cm} (h : c.ok) : ∀ x ∈ nums c, 0 ≤ x ∧ x ≤ 255 := by
  intro x hx
  have := h.kind; have := h.dc; have := h.shard; have := h.node; have := h.mode
  simp only [nums, List.mem_cons, List.mem_nil_iff, or_false] at hx
  rcases hx with rfl | rfl | rfl | rfl | rfl <;> assumption
theorem pCmd_le (c : Cm) (h : c.ok) : (pCmd c).length ≤ 200 := by
  unfold pCmd; split
  · simp
  · have h1 := tx_le c.key (by have := h.key; omega)
    have h2 := flatten_le 10 ((nums c).map fun x => uv x.toNat) (by
      intro l hl
      obtain ⟨x, hx, rfl⟩ := List.mem_map.1 hl
      have := nums_ok h x hx
      exact uv_len10 (by omega))
    rw [List.length_map, show (nums c).length = 5 from rfl] at h2
    rw [List.length_append]; omega
theorem pts_le (m : Ms) (h : m.ok) (hf : m.fits) : (pts m).flatten.length ≤ 1099511627770 := by
  have h1 := pNum_le m.id hf.2.1
  have h2 := pNum_le m.n hf.2.2.1
  have h3 := pNum_le m.ts hf.2.2.2.1
  have h4 := pTxt_le m.lo (by have := h.lo; omega)
  have h5 := pTxt_le m.hi (by have := h.hi; omega)
  have h6 := pVers_le m.vers h.vers h.len
  have h7 := pVec_le m.vec hf.2.2.2.2.2.2.2.1 h.vec
  have h8 := pCmd_le m.cmd h.cmd
  have e : (pts m).flatten.length = (pNum m.id).length + (pNum m.n).length + (pNum m.ts).length + (pTxt m.lo).length + (pTxt m.hi).length + (pVers m.vers).length + (pVec m.vec).length + (pCmd m.cmd).length := by
    unfold pts; simp; omega
  rw [e]; omega
theorem take_map {α : Type} (f : α → List Nat) (l : List α) {k : Nat} (h : k < l.length) : (l.take (k + 1)).map f = (l.take k).map f ++ [f l[k]] := by
  rw [List.take_succ_eq_append_getElem h, List.map_append]; rfl
end Go.Proofs.Ytkbhmeajgmecoaa.wirL
