/- The table, plainly: transactions, their shares, votes and ends. -/
import Derived.Test.YtafocefbpkcoaaaChnM
set_option linter.unusedVariables false
namespace Go.Proofs.Ytafocefbpkcoaaa.coM
open opV chnM

structure Sh where
  node : Int
  vs : List Ver
instance : Inhabited Sh := ⟨⟨0, []⟩⟩
structure Vt where
  node : Int
  t : Int
  en : Bool
instance : Inhabited Vt := ⟨⟨0, 0, false⟩⟩
structure En where
  tx : Int
  low : Int
  sh : List Sh
  vt : List Vt
instance : Inhabited En := ⟨⟨0, 0, [], []⟩⟩
abbrev Ens : Type := List En
def fnE : Ens → Int → Option En
  | [], _ => none
  | x :: l, k => if x.tx = k then some x else fnE l k
def inS (sh : List Sh) (n : Int) : Bool := sh.any fun s => decide (s.node = n)
def fnV : List Vt → Int → Option Vt
  | [], _ => none
  | x :: l, k => if x.node = k then some x else fnV l k
def hasV (vt : List Vt) (n : Int) : Bool := (fnV vt n).isSome
def endV (vt : List Vt) (n : Int) : Bool := (fnV vt n).any (·.en)
def top (vt : List Vt) : Int := vt.foldl (fun a v => max a v.t) 0
def nds (sh : List Sh) : List Int := sh.map (·.node)
def upd (os : Ens) (tx : Int) (x' : En) : Ens := os.map fun x => if x.tx = tx then x' else x
def rmE (os : Ens) (tx : Int) : Ens := os.filter fun x => decide (x.tx ≠ tx)
def DifE (os : Ens) : Prop := (os.map (·.tx)).Nodup
/-! ### The calls -/
def stE (os : Ens) (tx : Int) (sh : List Sh) : Int := if sh = [] then 1 else if (fnE os tx).isSome then 8 else if (nds sh).Nodup then 0 else 3
def stS (os : Ens) (tx low : Int) (sh : List Sh) : Ens := if stE os tx sh = 0 then os ++ [⟨tx, low, sh, []⟩] else os
def voX (x : En) (n t : Int) : En := { x with vt := x.vt ++ [⟨n, t, false⟩] }
def dec (x : En) : Bool := decide (x.vt.length = x.sh.length)
def voE (os : Ens) (tx n t : Int) : Int := match fnE os tx with
  | none => 7
  | some x => if inS x.sh n = false then 18 else if hasV x.vt n = true then 8 else if t ≤ x.low then 11 else 0
def voS (os : Ens) (tx n t : Int) : Ens := match fnE os tx with
  | none => os
  | some x => if voE os tx n t = 0 then upd os tx (voX x n t) else os
def voB (os : Ens) (tx n t : Int) : Bool := match fnE os tx with
  | none => false
  | some x => decide (voE os tx n t = 0) && dec (voX x n t)
def voT (os : Ens) (tx n t : Int) : Int := match fnE os tx with
  | none => 0
  | some x => if voB os tx n t = true then top (voX x n t).vt else 0
def enX (x : En) (n : Int) : En := { x with vt := x.vt.map fun v => if v.node = n then { v with en := true } else v }
def alle (x : En) : Bool := x.vt.all (·.en)
def enE (os : Ens) (tx n : Int) : Int := match fnE os tx with
  | none => 7
  | some x => if inS x.sh n = false then 18 else if dec x = false then 19 else if endV x.vt n = true then 8 else 0
def enB (os : Ens) (tx n : Int) : Bool := match fnE os tx with
  | none => false
  | some x => decide (enE os tx n = 0) && alle (enX x n)
def enS (os : Ens) (tx n : Int) : Ens := match fnE os tx with
  | none => os
  | some x => if enE os tx n = 0 then if alle (enX x n) = true then rmE os tx else upd os tx (enX x n) else os
def wrs (os : Ens) (tx : Int) : List Ver := match fnE os tx with
  | none => []
  | some x => (x.sh.map (·.vs)).flatten
def nos (os : Ens) (tx : Int) : List Int := match fnE os tx with
  | none => []
  | some x => nds x.sh
/-! ### What holds -/
structure okX (x : En) : Prop where
  nd : (nds x.sh).Nodup
  ne : x.sh ≠ []
  vd : (x.vt.map (·.node)).Nodup
  vi : ∀ v ∈ x.vt, inS x.sh v.node = true
  vl : ∀ v ∈ x.vt, x.low < v.t
  l0 : 0 ≤ x.low
  vm : ∀ v ∈ x.vt, v.t < 18446744073709551616
  sz : x.sh.length ≤ 6
  sv : ∀ s ∈ x.sh, s.vs.length ≤ 8
structure ok (os : Ens) : Prop where
  df : DifE os
  ea : ∀ x ∈ os, okX x
  tx : ∀ x ∈ os, 0 ≤ x.tx ∧ x.tx < 18446744073709551616
section
variable {os : Ens} {tx n t low : Int} {x x' : En} {sh : List Sh} {vt : List Vt}
theorem inS_iff : inS sh n = true ↔ n ∈ nds sh := by unfold inS nds; simp
theorem fnE_mem (h : fnE os tx = some x) : x ∈ os ∧ x.tx = tx := by
  induction os with
  | nil => cases h
  | cons a l ih =>
    unfold fnE at h
    split at h
    · rename_i e
      cases h
      exact ⟨List.mem_cons_self .., e⟩
    · exact ⟨List.mem_cons_of_mem _ (ih h).1, (ih h).2⟩
theorem fnE_none : fnE os tx = none ↔ ∀ x ∈ os, x.tx ≠ tx := by
  induction os with
  | nil => simp [fnE]
  | cons a l ih =>
    unfold fnE
    by_cases e : a.tx = tx
    · rw [if_pos e]; simp [e]
    · rw [if_neg e, ih]; simp [e]
/-- where it stands -/
theorem fnE_at (h : fnE os tx = some x) : ∃ a b, os = a ++ x :: b ∧ x.tx = tx ∧ ∀ y ∈ a, y.tx ≠ tx := by
  induction os with
  | nil => cases h
  | cons c l ih =>
    unfold fnE at h
    split at h
    · rename_i e
      cases h
      exact ⟨[], l, rfl, e, fun y hy => by cases hy⟩
    · rename_i e
      obtain ⟨a, b, rfl, h1, h2⟩ := ih h
      refine ⟨c :: a, b, rfl, h1, fun y hy => ?_⟩
      rcases List.mem_cons.1 hy with rfl | hy
      · exact e
      · exact h2 y hy
theorem dif_at {a b : Ens} (hd : DifE (a ++ x :: b)) : (∀ y ∈ a, y.tx ≠ x.tx) ∧ (∀ y ∈ b, y.tx ≠ x.tx) := by
  unfold DifE at hd
  rw [List.map_append, List.map_cons] at hd
  have h1 := List.nodup_append.1 hd
  have h2 := List.nodup_cons.1 h1.2.1
  exact ⟨fun y hy e => h1.2.2 _ (List.mem_map.2 ⟨y, hy, rfl⟩) _ (List.mem_cons_self ..) e, fun y hy e => h2.1 (by rw [← e]; exact List.mem_map.2 ⟨y, hy, rfl⟩)⟩
theorem upd_at {a b : Ens} (hd : DifE (a ++ x :: b)) (x' : En) : upd (a ++ x :: b) x.tx x' = a ++ x' :: b := by
  obtain ⟨h1, h2⟩ := dif_at hd
  unfold upd
  rw [List.map_append, List.map_cons, if_pos rfl]
  congr 1
  · conv => rhs; rw [← List.map_id a]
    exact List.map_congr_left fun y hy => if_neg (h1 y hy)
  · congr 1
    conv => rhs; rw [← List.map_id b]
    exact List.map_congr_left fun y hy => if_neg (h2 y hy)
theorem rmE_at {a b : Ens} (hd : DifE (a ++ x :: b)) : rmE (a ++ x :: b) x.tx = a ++ b := by
  obtain ⟨h1, h2⟩ := dif_at hd
  unfold rmE
  rw [List.filter_append, List.filter_cons]
  have hdd : decide (x.tx ≠ x.tx) = false := by simp
  rw [hdd]
  simp only [Bool.false_eq_true, if_false]
  congr 1
  · rw [List.filter_eq_self]
    exact fun y hy => decide_eq_true (h1 y hy)
  · rw [List.filter_eq_self]
    exact fun y hy => decide_eq_true (h2 y hy)
theorem fnE_mid {a b : Ens} (h : ∀ y ∈ a, y.tx ≠ x.tx) : fnE (a ++ x :: b) x.tx = some x := by
  induction a with
  | nil => exact if_pos rfl
  | cons c l ih =>
    show (if c.tx = x.tx then some c else fnE (l ++ x :: b) x.tx) = some x
    rw [if_neg (h c (List.mem_cons_self ..))]
    exact ih fun y hy => h y (List.mem_cons_of_mem _ hy)
theorem fnV_mem {v : Vt} (h : fnV vt n = some v) : v ∈ vt ∧ v.node = n := by
  induction vt with
  | nil => cases h
  | cons a l ih =>
    unfold fnV at h
    split at h
    · rename_i e
      cases h
      exact ⟨List.mem_cons_self .., e⟩
    · exact ⟨List.mem_cons_of_mem _ (ih h).1, (ih h).2⟩
theorem hasV_iff : hasV vt n = true ↔ n ∈ vt.map (·.node) := by
  unfold hasV
  induction vt with
  | nil => simp [fnV]
  | cons a l ih =>
    unfold fnV
    by_cases e : a.node = n
    · rw [if_pos e]; simp [e]
    · rw [if_neg e, ih, List.map_cons, List.mem_cons]
      exact ⟨.inr, fun h => h.resolve_left fun e2 => e e2.symm⟩
theorem hasV_app (v : Vt) : hasV (vt ++ [v]) n = (hasV vt n || decide (v.node = n)) := by
  rw [Bool.eq_iff_iff, hasV_iff]
  simp only [List.map_append, List.mem_append, Bool.or_eq_true, hasV_iff, decide_eq_true_eq, List.map_cons, List.map_nil, List.mem_singleton]
  constructor
  · rintro (h | h)
    · exact .inl h
    · exact .inr h.symm
  · rintro (h | h)
    · exact .inl h
    · exact .inr h.symm
theorem fnV_app (v : Vt) : fnV (vt ++ [v]) n = (fnV vt n).or (if v.node = n then some v else none) := by
  induction vt with
  | nil => simp [fnV]
  | cons a l ih =>
    show (if a.node = n then some a else fnV (l ++ [v]) n) = (if a.node = n then some a else fnV l n).or _
    split
    · rfl
    · exact ih
theorem top_app (v : Vt) : top (vt ++ [v]) = max (top vt) v.t := by unfold top; rw [List.foldl_append]; rfl
theorem len_sub {a b : List Int} (ha : a.Nodup) (hs : ∀ x ∈ a, x ∈ b) : a.length ≤ b.length := by
  induction a generalizing b with
  | nil => simp
  | cons x l ih =>
    obtain ⟨h1, h2⟩ := List.nodup_cons.1 ha
    have hx := hs x (List.mem_cons_self ..)
    have := ih (b := b.erase x) h2 fun y hy => by
      have hne : y ≠ x := fun e => h1 (by rw [← e]; exact hy)
      exact (List.mem_erase_of_ne hne).2 (hs y (List.mem_cons_of_mem _ hy))
    rw [List.length_erase_of_mem hx] at this
    have h0 : 0 < b.length := List.length_pos_of_mem hx
    simp only [List.length_cons]
    omega
theorem mem_full {a b : List Int} (ha : a.Nodup) (hb : b.Nodup) (hs : ∀ x ∈ a, x ∈ b) (hl : b.length ≤ a.length) {y : Int} (hy : y ∈ b) : y ∈ a := by
  refine Classical.byContradiction fun h => ?_
  have := len_sub (a := a) (b := b.erase y) ha fun x hx => by
    have hne : x ≠ y := fun e => h (by rw [← e]; exact hx)
    exact (List.mem_erase_of_ne hne).2 (hs x hx)
  rw [List.length_erase_of_mem hy] at this
  have h0 : 0 < b.length := List.length_pos_of_mem hy
  omega
/-- Where all have voted, each has. -/
theorem okX.full (h : okX x) (hd : dec x = true) (hn : inS x.sh n = true) : hasV x.vt n = true := by
  rw [hasV_iff]
  refine mem_full h.vd h.nd (fun y hy => ?_) ?_ (inS_iff.1 hn)
  · obtain ⟨v, hv, rfl⟩ := List.mem_map.1 hy
    exact inS_iff.1 (h.vi v hv)
  · have := of_decide_eq_true hd
    simp [nds]; omega
theorem okX.less (h : okX x) (hn : inS x.sh n = true) (hv : hasV x.vt n = false) : x.vt.length < x.sh.length := by
  have h1 := len_sub (a := n :: x.vt.map (·.node)) (b := nds x.sh) (List.nodup_cons.2 ⟨fun e => (by rw [hasV_iff.2 e] at hv; cases hv), h.vd⟩) (fun y hy => by
    rcases List.mem_cons.1 hy with rfl | hy
    · exact inS_iff.1 hn
    · obtain ⟨v, hv, rfl⟩ := List.mem_map.1 hy
      exact inS_iff.1 (h.vi v hv))
  simp [nds] at h1
  omega
end
end Go.Proofs.Ytafocefbpkcoaaa.coM
