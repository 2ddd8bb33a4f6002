/- A side, plainly: its clock, what is prepared and what was proposed for it; what each call answers and leaves; what the laws ask. -/
import Derived.Test.YteelndiiennhkaaHlcA
import Derived.Test.YteelndiiennhkaaOpO
set_option linter.unusedVariables false
set_option linter.unusedSimpArgs false
namespace Go.Proofs.Yteelndiiennhkaa.ptM
open Go.ChangeShapes Go.WideShapes Go.ChangeAt Go.RowKit
open hlcA opO

abbrev OP := Int × Int
/-! ### What is prepared -/
def fnd : List OP → Int → Option Int
  | [], _ => none
  | x :: l, k => if x.1 = k then some x.2 else fnd l k
def pos : List OP → Int → Nat
  | [], _ => 0
  | x :: l, k => if x.1 = k then 0 else pos l k + 1
def rm : List OP → Int → List OP
  | [], _ => []
  | x :: l, k => if x.1 = k then l else x :: rm l k
theorem pos_le : ∀ (l : List OP) (k : Int), pos l k ≤ l.length
  | [], _ => Nat.le_refl _
  | x :: l, k => by unfold pos; split <;> simp only [List.length_cons]; · omega
                    · have := pos_le l k; omega
theorem pos_no : ∀ {l : List OP} {k : Int}, fnd l k = none → pos l k = l.length
  | [], _, _ => rfl
  | x :: l, k, h => by
    unfold fnd at h
    unfold pos
    split at h
    · cases h
    · rename_i hx
      rw [if_neg hx, pos_no h]; rfl
theorem pos_at : ∀ {l : List OP} {k t : Int}, fnd l k = some t → l[pos l k]? = some (k, t)
  | [], _, _, h => by cases h
  | x :: l, k, t, h => by
    unfold fnd at h
    unfold pos
    split at h
    · rename_i hx
      rw [if_pos hx]
      cases h
      rw [← hx]; rfl
    · rename_i hx
      rw [if_neg hx]
      simpa using pos_at h
theorem pos_lt {l : List OP} {k t : Int} (h : fnd l k = some t) : pos l k < l.length := (List.getElem?_eq_some_iff.1 (pos_at h)).1
theorem pos_first : ∀ {l : List OP} {k : Int} {i : Nat} {x : OP}, i < pos l k → l[i]? = some x → x.1 ≠ k
  | [], _, _, _, h, _ => by simp [pos] at h
  | y :: l, k, i, x, h, e => by
    unfold pos at h
    split at h
    · omega
    · rename_i hy
      cases i with
      | zero => simp at e; rw [← e]; exact hy
      | succ i => exact pos_first (l := l) (i := i) (by omega) (by simpa using e)
theorem rm_is : ∀ (l : List OP) (k : Int), rm l k = l.take (pos l k) ++ l.drop (pos l k + 1)
  | [], _ => rfl
  | x :: l, k => by
    unfold rm pos
    split
    · simp
    · rw [rm_is l k]; simp
theorem rm_len {l : List OP} {k t : Int} (h : fnd l k = some t) : (rm l k).length + 1 = l.length := by
  have := pos_lt h
  rw [rm_is]; simp; omega
theorem rm_mem {l : List OP} {k : Int} {x : OP} (h : x ∈ rm l k) : x ∈ l := by
  rw [rm_is] at h
  rcases List.mem_append.1 h with h | h
  · exact List.mem_of_mem_take h
  · exact List.mem_of_mem_drop h
theorem fnd_mem : ∀ {l : List OP} {k t : Int}, fnd l k = some t → (k, t) ∈ l := fun h => List.mem_of_getElem? (pos_at h)
theorem fnd_none : ∀ {l : List OP} {k : Int}, fnd l k = none → ∀ x ∈ l, x.1 ≠ k
  | [], _, _, x, hx => by cases hx
  | y :: l, k, h, x, hx => by
    unfold fnd at h
    split at h
    · cases h
    · rename_i hy
      rcases List.mem_cons.1 hx with rfl | hx
      · exact hy
      · exact fnd_none h x hx
theorem fnd_app {l : List OP} {k : Int} (h : fnd l k = none) (t x : Int) : fnd (l ++ [(k, t)]) x = if x = k then some t else fnd l x := by
  induction l with
  | nil =>
    show (if k = x then some t else none) = if x = k then some t else none
    by_cases e : x = k
    · rw [if_pos e, if_pos e.symm]
    · rw [if_neg e, if_neg (fun e2 => e e2.symm)]
  | cons y l ih =>
    unfold fnd at h
    split at h
    · cases h
    · rename_i hy
      rw [List.cons_append]
      unfold fnd
      rw [ih h]
      by_cases e : x = k
      · subst e; rw [if_neg hy, if_pos rfl, if_pos rfl]
      · rw [if_neg e, if_neg e]
def Dif (l : List OP) : Prop := (l.map Prod.fst).Nodup
theorem fnd_of_mem : ∀ {l : List OP}, Dif l → ∀ {k t : Int}, (k, t) ∈ l → fnd l k = some t
  | [], _, _, _, h => by cases h
  | x :: l, hd, k, t, h => by
    unfold Dif at hd
    rw [List.map_cons, List.nodup_cons] at hd
    unfold fnd
    rcases List.mem_cons.1 h with h | h
    · rw [← h, if_pos rfl]
    · have : x.1 ≠ k := fun e => hd.1 (List.mem_map.2 ⟨_, h, e.symm⟩)
      rw [if_neg this]
      exact fnd_of_mem hd.2 h
theorem dif_rm : ∀ {l : List OP}, Dif l → ∀ k, Dif (rm l k)
  | [], h, _ => h
  | x :: l, h, k => by
    unfold Dif at h
    rw [List.map_cons, List.nodup_cons] at h
    unfold rm
    split
    · exact h.2
    · unfold Dif
      rw [List.map_cons, List.nodup_cons]
      refine ⟨fun e => h.1 ?_, dif_rm h.2 k⟩
      obtain ⟨y, hy, e⟩ := List.mem_map.1 e
      exact List.mem_map.2 ⟨y, rm_mem hy, e⟩
theorem dif_app {l : List OP} (h : Dif l) {k : Int} (hk : fnd l k = none) (t : Int) : Dif (l ++ [(k, t)]) := by
  unfold Dif
  rw [List.map_append, List.nodup_append]
  refine ⟨h, by simp, ?_⟩
  intro a ha b hb
  obtain ⟨x, hx, rfl⟩ := List.mem_map.1 ha
  simp at hb
  subst hb
  exact fnd_none hk x hx
theorem fnd_rm : ∀ {l : List OP}, Dif l → ∀ (k x : Int), fnd (rm l k) x = if x = k then none else fnd l x
  | [], _, k, x => by unfold rm fnd; split <;> rfl
  | y :: l, h, k, x => by
    unfold Dif at h
    rw [List.map_cons, List.nodup_cons] at h
    have ih := fnd_rm h.2 k x
    unfold rm
    by_cases hy : y.1 = k
    · rw [if_pos hy]
      by_cases e : x = k
      · rw [if_pos e]
        cases hf : fnd l x with
        | none => rfl
        | some t => exact absurd (List.mem_map.2 ⟨_, fnd_mem hf, by rw [e, hy]⟩) h.1
      · rw [if_neg e]
        show _ = (if y.1 = x then some y.2 else fnd l x)
        rw [if_neg (fun e2 => e (by rw [← e2, hy]))]
    · rw [if_neg hy]
      show (if y.1 = x then some y.2 else fnd (rm l k) x) = _
      rw [ih]
      show _ = (if x = k then none else (if y.1 = x then some y.2 else fnd l x))
      by_cases e : x = k
      · rw [if_pos e, if_pos e, if_neg (fun e2 => hy (by rw [e2, e]))]
      · rw [if_neg e, if_neg e]
/-! ### The least -/
def stb (l : List OP) (c : Int) : Int := l.foldl (fun m x => if x.2 - 1 < m then x.2 - 1 else m) c
def isStb (l : List OP) (c s : Int) : Prop := s ≤ c ∧ (∀ x ∈ l, s ≤ x.2 - 1) ∧ (s = c ∨ ∃ x ∈ l, s = x.2 - 1)
theorem stb_is : ∀ (l : List OP) (c : Int), isStb l c (stb l c)
  | [], c => ⟨Int.le_refl _, fun x hx => (by cases hx), .inl rfl⟩
  | x :: l, c => by
    obtain ⟨h1, h2, h3⟩ := stb_is l (if x.2 - 1 < c then x.2 - 1 else c)
    have e : stb (x :: l) c = stb l (if x.2 - 1 < c then x.2 - 1 else c) := rfl
    rw [← e] at h1 h2 h3
    refine ⟨by split at h1 <;> omega, fun y hy => ?_, ?_⟩
    · rcases List.mem_cons.1 hy with rfl | hy
      · split at h1 <;> omega
      · exact h2 y hy
    · rcases h3 with h3 | ⟨y, hy, h3⟩
      · by_cases hx : x.2 - 1 < c
        · rw [if_pos hx] at h3; exact .inr ⟨x, by simp, h3⟩
        · rw [if_neg hx] at h3; exact .inl h3
      · exact .inr ⟨y, List.mem_cons_of_mem _ hy, h3⟩
theorem stb_eq {l : List OP} {c s : Int} (h : isStb l c s) : s = stb l c := by
  obtain ⟨a1, a2, a3⟩ := h
  obtain ⟨b1, b2, b3⟩ := stb_is l c
  refine Int.le_antisymm ?_ ?_
  · rcases b3 with e | ⟨x, hx, e⟩
    · rw [e]; exact a1
    · rw [e]; exact a2 x hx
  · rcases a3 with e | ⟨x, hx, e⟩
    · rw [e]; exact b1
    · rw [e]; exact b2 x hx
theorem stb_take {l : List OP} {i : Nat} {x : OP} (h : l[i]? = some x) (c : Int) : stb (l.take (i + 1)) c = if x.2 - 1 < stb (l.take i) c then x.2 - 1 else stb (l.take i) c := by
  obtain ⟨hi, e⟩ := List.getElem?_eq_some_iff.1 h
  unfold stb
  rw [List.take_succ_eq_append_getElem hi, List.foldl_append, e]; rfl
/-! ### A side -/
structure Pt where
  ck : Int
  os : List OP
structure Pt.ok (S : Pt) : Prop where
  c0 : 0 ≤ S.ck
  c1 : S.ck ≤ 18446744073709551615
  o0 : ∀ x ∈ S.os, 1 ≤ x.2
  o1 : ∀ x ∈ S.os, x.2 ≤ 18446744073709551615
  df : Dif S.os
def P0 : Pt := ⟨0, []⟩
theorem ok_P0 : P0.ok := ⟨by decide, by decide, fun x hx => (by cases hx), fun x hx => (by cases hx), List.nodup_nil⟩
section
variable {S : Pt} {tx t ms : Int}
def prE (S : Pt) (tx t ms : Int) : Int := if (fnd S.os tx).isSome = true then 8 else sdE (mx S.ck t) ms
def prT (S : Pt) (tx t ms : Int) : Int := if (fnd S.os tx).isSome = true then 0 else sdN (mx S.ck t) ms
def prS (S : Pt) (tx t ms : Int) : Pt := if prE S tx t ms = 0 then ⟨prT S tx t ms, S.os ++ [(tx, prT S tx t ms)]⟩ else S
def coE (S : Pt) (tx t ms : Int) : Int := if rdB ms = false then 1 else match fnd S.os tx with | none => 7 | some s => if t < s then 11 else 0
def coS (S : Pt) (tx t ms : Int) : Pt := if coE S tx t ms = 0 then ⟨rsN (mx S.ck t) ms, rm S.os tx⟩ else S
def sbE (ms : Int) : Int := rsE ms
def sbT (S : Pt) (ms : Int) : Int := if rdB ms = true then stb S.os (rsN S.ck ms) else 0
def sbS (S : Pt) (ms : Int) : Pt := if rdB ms = true then ⟨rsN S.ck ms, S.os⟩ else S
def seS (S : Pt) (t : Int) : Pt := ⟨mx S.ck t, S.os⟩
theorem mx_le (a b : Int) : a ≤ mx a b := by unfold mx; split <;> omega
theorem mx_ge (a b : Int) : b ≤ mx a b := by unfold mx; split <;> omega
theorem mx_max (a b : Int) : max a b = mx a b := by unfold mx; split <;> omega
theorem sd_up {a m : Int} (h : sdE a m = 0) : a + 1 ≤ sdN a m ∧ (0 ≤ a → a ≤ 18446744073709551615 → sdN a m ≤ 18446744073709551615) := by
  by_cases hr : rdB m = true
  · have h9 := (rd_iff m).1 hr
    by_cases h1 : a < m * 65536
    · rw [(sd_one a m hr h1).1]; omega
    · by_cases h2 : a = 18446744073709551615
      · rw [(sd_two a m hr h1 h2).2] at h; cases h
      · rw [(sd_three a m hr h1 h2).1]; omega
  · rw [(sd_zero a m (by simpa using hr)).2] at h; cases h
theorem sd_bd {a m : Int} (h0 : 0 ≤ a) (h1 : a ≤ 18446744073709551615) : 0 ≤ sdN a m ∧ sdN a m ≤ 18446744073709551615 := by
  by_cases hr : rdB m = true
  · have h9 := (rd_iff m).1 hr
    by_cases h1 : a < m * 65536
    · rw [(sd_one a m hr h1).1]; omega
    · by_cases h2 : a = 18446744073709551615
      · rw [(sd_two a m hr h1 h2).1]; omega
      · rw [(sd_three a m hr h1 h2).1]; omega
  · rw [(sd_zero a m (by simpa using hr)).1]; omega
theorem rs_up {a m : Int} (h : rdB m = true) : a ≤ rsN a m ∧ (a ≤ 18446744073709551615 → rsN a m ≤ 18446744073709551615) := by
  have h9 := (rd_iff m).1 h
  unfold rsN
  rw [if_pos h]
  unfold mx
  split <;> omega
theorem pr_none (h : prE S tx t ms = 0) : fnd S.os tx = none ∧ prT S tx t ms = sdN (mx S.ck t) ms ∧ sdE (mx S.ck t) ms = 0 := by
  unfold prE at h
  unfold prT
  split at h
  · cases h
  · rename_i h1
    rw [if_neg h1]
    exact ⟨by simpa using h1, rfl, h⟩
/-- what is proposed is above the clock and what came -/
theorem pr_up (h : prE S tx t ms = 0) : S.ck + 1 ≤ prT S tx t ms ∧ t + 1 ≤ prT S tx t ms ∧ (S.ok → t ≤ 18446744073709551615 → prT S tx t ms ≤ 18446744073709551615) := by
  obtain ⟨h1, h2, h3⟩ := pr_none h
  obtain ⟨h4, h5⟩ := sd_up h3
  rw [h2]
  have := mx_le S.ck t
  have := mx_ge S.ck t
  refine ⟨by omega, by omega, fun hok ht => h5 (by have := hok.c0; omega) ?_⟩
  have := hok.c1
  unfold mx; split <;> omega
theorem ok_pr (hok : S.ok) (ht : t ≤ 18446744073709551615) : (prS S tx t ms).ok := by
  unfold prS
  split
  · rename_i h
    obtain ⟨h1, h2, h3⟩ := pr_up h
    have h3 := h3 hok ht
    have h0 := hok.c0
    refine ⟨by show 0 ≤ prT S tx t ms; omega, h3, fun x hx => ?_, fun x hx => ?_, dif_app hok.df (pr_none h).1 _⟩
    · rcases List.mem_append.1 hx with hx | hx
      · exact hok.o0 x hx
      · rw [List.mem_singleton.1 hx]; show 1 ≤ prT S tx t ms; omega
    · rcases List.mem_append.1 hx with hx | hx
      · exact hok.o1 x hx
      · rw [List.mem_singleton.1 hx]; exact h3
  · exact hok
theorem co_none (h : coE S tx t ms = 0) : rdB ms = true ∧ ∃ s, fnd S.os tx = some s ∧ s ≤ t := by
  unfold coE at h
  split at h
  · cases h
  · rename_i h1
    refine ⟨by simpa using h1, ?_⟩
    split at h
    · cases h
    · rename_i s hs
      split at h
      · cases h
      · exact ⟨s, hs, by omega⟩
theorem ok_co (hok : S.ok) (ht : t ≤ 18446744073709551615) : (coS S tx t ms).ok := by
  unfold coS
  split
  · rename_i h
    obtain ⟨h1, s, h2, h3⟩ := co_none h
    have h4 := rs_up (a := mx S.ck t) h1
    have := mx_le S.ck t
    have := hok.c0
    have := hok.c1
    refine ⟨by show 0 ≤ rsN (mx S.ck t) ms; omega, h4.2 (by unfold mx; split <;> omega), fun x hx => hok.o0 x (rm_mem hx), fun x hx => hok.o1 x (rm_mem hx), dif_rm hok.df _⟩
  · exact hok
theorem ok_sb (hok : S.ok) : (sbS S ms).ok := by
  unfold sbS
  split
  · rename_i h
    have h4 := rs_up (a := S.ck) h
    have := hok.c0
    exact ⟨by show 0 ≤ rsN S.ck ms; omega, h4.2 hok.c1, hok.o0, hok.o1, hok.df⟩
  · exact hok
theorem ok_se (hok : S.ok) (ht : t ≤ 18446744073709551615) : (seS S t).ok := by
  have := mx_le S.ck t
  have := hok.c0
  have := hok.c1
  exact ⟨by show 0 ≤ mx S.ck t; omega, by show mx S.ck t ≤ _; unfold mx; split <;> omega, hok.o0, hok.o1, hok.df⟩
end
/-! ### A row of calls -/
def stS (S : Pt) (o : Oq) : Pt := if o.kind = 0 then prS S o.tx o.t o.ms else if o.kind = 1 then coS S o.tx o.t o.ms else if o.kind = 2 then sbS S o.ms else seS S o.t
theorem ok_st {S : Pt} (hok : S.ok) {o : Oq} (ho : o.t ≤ 18446744073709551615) : (stS S o).ok := by
  unfold stS
  split
  · exact ok_pr hok ho
  · split
    · exact ok_co hok ho
    · split
      · exact ok_sb hok
      · exact ok_se hok ho
theorem len_st (S : Pt) (o : Oq) : (stS S o).os.length ≤ S.os.length + 1 := by
  unfold stS
  split
  · unfold prS; split
    · simp
    · omega
  · split
    · unfold coS; split
      · rename_i h
        obtain ⟨_, s, h2, _⟩ := co_none h
        have := rm_len h2
        show (rm S.os o.tx).length ≤ _
        omega
      · omega
    · split
      · unfold sbS; split <;> exact Nat.le_succ _
      · exact Nat.le_succ _
theorem ck_st (S : Pt) (o : Oq) : S.ck ≤ (stS S o).ck := by
  unfold stS
  split
  · unfold prS; split
    · rename_i h
      have := (pr_up h).1
      show S.ck ≤ prT S o.tx o.t o.ms
      omega
    · exact Int.le_refl _
  · split
    · unfold coS; split
      · rename_i h
        have := (rs_up (a := mx S.ck o.t) (co_none h).1).1
        have := mx_le S.ck o.t
        show S.ck ≤ rsN (mx S.ck o.t) o.ms
        omega
      · exact Int.le_refl _
    · split
      · unfold sbS; split
        · rename_i h
          exact (rs_up (a := S.ck) h).1
        · exact Int.le_refl _
      · exact mx_le _ _
theorem st_0 {S : Pt} {o : Oq} (h : o.kind = 0) : stS S o = prS S o.tx o.t o.ms := if_pos h
theorem st_1 {S : Pt} {o : Oq} (h : o.kind = 1) : stS S o = coS S o.tx o.t o.ms := by unfold stS; rw [if_neg (by omega), if_pos h]
theorem st_2 {S : Pt} {o : Oq} (h : o.kind = 2) : stS S o = sbS S o.ms := by unfold stS; rw [if_neg (by omega), if_neg (by omega), if_pos h]
theorem st_3 {S : Pt} {o : Oq} (h0 : o.kind ≠ 0) (h1 : o.kind ≠ 1) (h2 : o.kind ≠ 2) : stS S o = seS S o.t := by unfold stS; rw [if_neg h0, if_neg h1, if_neg h2]
theorem four_ways (k : Int) : k = 0 ∨ k = 1 ∨ k = 2 ∨ (k ≠ 0 ∧ k ≠ 1 ∧ k ≠ 2) := by omega
def nt (l : List Oq) (i : Nat) : Oq := l.getD i default
def rn (l : List Oq) : Nat → Pt
  | 0 => P0
  | i + 1 => stS (rn l i) (nt l i)
theorem rn_ok {l : List Oq} {n : Nat} (h : ∀ i, i < n → (nt l i).t ≤ 18446744073709551615) : ∀ i, i ≤ n → (rn l i).ok
  | 0, _ => ok_P0
  | i + 1, hi => ok_st (rn_ok h i (by omega)) (h i (by omega))
theorem rn_len (l : List Oq) : ∀ i, (rn l i).os.length ≤ i
  | 0 => Nat.le_refl _
  | i + 1 => by have := rn_len l i; have := len_st (rn l i) (nt l i); show (stS _ _).os.length ≤ _; omega
/-! ### What was called stable -/
structure Blw (S : Pt) (s : Int) : Prop where
  a : s ≤ S.ck
  b : ∀ x ∈ S.os, s ≤ x.2 - 1
theorem blw_0 : Blw P0 0 := ⟨Int.le_refl _, fun x hx => (by cases hx)⟩
section
variable {S : Pt} {s tx t ms : Int}
theorem Blw.pr (h : Blw S s) : Blw (prS S tx t ms) s ∧ (prE S tx t ms = 0 → s < prT S tx t ms ∧ t < prT S tx t ms) := by
  refine ⟨?_, fun he => ?_⟩
  · unfold prS
    split
    · rename_i he
      have h1 := (pr_up he).1
      have h2 := h.a
      refine ⟨by show s ≤ prT S tx t ms; omega, fun x hx => ?_⟩
      rcases List.mem_append.1 hx with hx | hx
      · exact h.b x hx
      · rw [List.mem_singleton.1 hx]; show s ≤ prT S tx t ms - 1; omega
    · exact h
  · obtain ⟨h1, h2, _⟩ := pr_up he
    have := h.a
    omega
theorem Blw.co (h : Blw S s) : Blw (coS S tx t ms) s ∧ (coE S tx t ms = 0 → s < t) := by
  refine ⟨?_, fun he => ?_⟩
  · unfold coS
    split
    · rename_i he
      have h1 := (rs_up (a := mx S.ck t) (co_none he).1).1
      have := mx_le S.ck t
      have := h.a
      exact ⟨by show s ≤ rsN (mx S.ck t) ms; omega, fun x hx => h.b x (rm_mem hx)⟩
    · exact h
  · obtain ⟨_, u, h2, h3⟩ := co_none he
    have := h.b _ (fnd_mem h2)
    simp only at this
    omega
theorem Blw.sb (h : Blw S s) (hr : rdB ms = true) : Blw (sbS S ms) (sbT S ms) ∧ s ≤ sbT S ms := by
  have h4 := (rs_up (a := S.ck) hr).1
  have := h.a
  have e1 : sbT S ms = stb S.os (rsN S.ck ms) := if_pos hr
  have e2 : sbS S ms = ⟨rsN S.ck ms, S.os⟩ := if_pos hr
  obtain ⟨b1, b2, b3⟩ := stb_is S.os (rsN S.ck ms)
  rw [e1, e2]
  refine ⟨⟨b1, b2⟩, ?_⟩
  rcases b3 with e | ⟨x, hx, e⟩
  · rw [e]; omega
  · rw [e]; exact h.b x hx
theorem Blw.sb0 (h : Blw S s) (hr : rdB ms = false) : Blw (sbS S ms) s := by unfold sbS; rw [if_neg (by rw [hr]; simp)]; exact h
theorem Blw.se (h : Blw S s) : Blw (seS S t) s := ⟨Int.le_trans h.a (mx_le _ _), h.b⟩
end
end Go.Proofs.Yteelndiiennhkaa.ptM
