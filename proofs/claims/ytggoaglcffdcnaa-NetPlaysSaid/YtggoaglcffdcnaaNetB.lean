/- The contracts of net's small functions. -/
import Derived.Test.YtggoaglcffdcnaaNetA
namespace Go.Proofs.Ytggoaglcffdcnaa.netB
open Go.ChangeShapes Go.WideShapes Go.ChangeAt Go.RowKit Go.Deep
open numM rowA byt numA numB numC netA

set_option maxRecDepth 100000 in
theorem place_yes (x : Int) (w : World) (h1 : 0 ≤ x) (h2 : x ≤ 20) : Calls Try.prog 41 #[.int .i64 x] w fun e w' => e = .returned (.bool true) ∧ w = w' := by
  go_enter Try.func41, Try.ntmps41
  go_wp2
  go_ret
  exact ⟨rfl, rfl⟩
set_option maxRecDepth 100000 in
theorem place_no (x : Int) (w : World) (h : x < 0 ∨ 20 < x) : Calls Try.prog 41 #[.int .i64 x] w fun e w' => e = .returned (.bool false) ∧ w = w' := by
  by_cases h1 : 0 ≤ x
  · have h2 : ¬ x ≤ 20 := by omega
    clear h
    go_enter Try.func41, Try.ntmps41
    go_wp2
    go_ret
    exact ⟨rfl, rfl⟩
  · clear h
    go_enter Try.func41, Try.ntmps41
    go_wp2
    go_ret
    exact ⟨rfl, rfl⟩
/-- is there such a way? -/
def IsWay (f t : Int) : Prop := 0 ≤ f ∧ f ≤ 20 ∧ 0 ≤ t ∧ t ≤ 20 ∧ f ≠ t
instance (f t : Int) : Decidable (IsWay f t) := by unfold IsWay; infer_instance
def Bad (v : Value) (f t : Int) : Prop := v = .pointer none ∨ ((∃ p, v = .pointer (some ⟨p, 0, none⟩)) ∧ ¬ IsWay f t)
set_option maxRecDepth 100000 in
theorem way_bad (v : Value) (f t : Int) (w : World) (h : Bad v f t) : Calls Try.prog 33 #[v, .int .i64 f, .int .i64 t] w fun e w' => e = .returned (.pointer none) ∧ w = w' := by
  rcases h with rfl | ⟨⟨p, rfl⟩, h⟩
  · go_enter Try.func33, Try.ntmps33
    go_wp2
    go_ret
    exact ⟨rfl, rfl⟩
  · unfold IsWay at h
    by_cases hf : 0 ≤ f ∧ f ≤ 20
    · obtain ⟨f1, f2⟩ := hf
      by_cases ht : 0 ≤ t ∧ t ≤ 20
      · obtain ⟨t1, t2⟩ := ht
        obtain rfl : f = t := by omega
        clear h
        go_enter Try.func33, Try.ntmps33
        go_wp2_with (go_at_call 41; ((with_reducible refine (place_yes f _ f1 f2).mono ?_); rintro e w' ⟨rfl, rfl⟩))
        go_ret
        exact ⟨rfl, rfl⟩
      · have ht' : t < 0 ∨ 20 < t := by omega
        clear h ht
        go_enter Try.func33, Try.ntmps33
        go_wp2_with (go_at_call 41; (first | ((with_reducible refine (place_yes f _ f1 f2).mono ?_); rintro e w' ⟨rfl, rfl⟩) | ((with_reducible refine (place_no t _ ht').mono ?_); rintro e w' ⟨rfl, rfl⟩)))
        go_ret
        exact ⟨rfl, rfl⟩
    · have hf' : f < 0 ∨ 20 < f := by omega
      clear h hf
      go_enter Try.func33, Try.ntmps33
      go_wp2_with (go_at_call 41; ((with_reducible refine (place_no f _ hf').mono ?_); rintro e w' ⟨rfl, rfl⟩))
      go_ret
      exact ⟨rfl, rfl⟩
set_option maxRecDepth 100000 in
theorem way_ok (p a b : Nat) (w : World) (h1 : a ≤ 20) (h2 : b ≤ 20) (h3 : a ≠ b) : Calls Try.prog 33 #[.pointer (some ⟨p, 0, none⟩), .int .i64 a, .int .i64 b] w fun e w' => e = .returned (.pointer (some ⟨p, a * 21 + b, none⟩)) ∧ w = w' := by
  have f1 : (0 : Int) ≤ a := by omega
  have f2 : (a : Int) ≤ 20 := by omega
  have t1 : (0 : Int) ≤ b := by omega
  have t2 : (b : Int) ≤ 20 := by omega
  have g1 : (a : Int) < 21 := by omega
  have g2 : (b : Int) < 21 := by omega
  have h4 : ((a : Int) == (b : Int)) = false := by rw [beq_eq_false_iff_ne]; omega
  go_enter Try.func33, Try.ntmps33
  go_wp2_with (go_at_call 41; (first | ((with_reducible refine (place_yes a _ f1 f2).mono ?_); rintro e w' ⟨rfl, rfl⟩) | ((with_reducible refine (place_yes b _ t1 t2).mono ?_); rintro e w' ⟨rfl, rfl⟩)))
  go_ret
  exact ⟨rfl, rfl⟩
/-- wayWith refuses, whatever was made since w -/
def WErr (v : Value) (f t i : Int) (E : Nat) (w : World) : Prop := ∀ w', Below w.heap.size w w' → Calls Try.prog 35 #[v, .int .i64 f, .int .i64 t, .int .i64 i] w' fun e w'' => e = .returned (.tuple #[.pointer none, .int .i64 E]) ∧ w' = w''
theorem WErr.below {v : Value} {f t i : Int} {E : Nat} {w w1 : World} (h : WErr v f t i E w) (hB : Below w.heap.size w w1) : WErr v f t i E w1 := fun w' hw' => h w' (trans0 hB hw')
set_option maxRecDepth 100000 in
theorem werr_way (v : Value) (f t i : Int) (w : World) (h : Bad v f t) : WErr v f t i 1 w := by
  intro w' _
  go_enter Try.func35, Try.ntmps35
  go_wp2_with (go_at_call 33; ((with_reducible refine (way_bad v f t _ h).mono ?_); rintro e w' ⟨rfl, rfl⟩))
  go_ret2
  exact ⟨rfl, rfl⟩
section
variable {col : Nat → Nat} {c p : Nat} {w : World} {s : Ns}
/-- a way's number -/
def wn (f t : Int) : Nat := f.toNat * 21 + t.toNat
theorem wn_lt {f t : Int} (h : IsWay f t) : wn f t < 441 := by unfold IsWay at h; unfold wn; omega
theorem wn_inj {f t f' t' : Int} (h : IsWay f t) (h' : IsWay f' t') (e : wn f t = wn f' t') : f = f' ∧ t = t' := by unfold IsWay at h h'; unfold wn at e; omega
theorem IsWay.nat {f t : Int} (h : IsWay f t) : ∃ a b : Nat, f = a ∧ t = b ∧ a ≤ 20 ∧ b ≤ 20 ∧ a ≠ b ∧ wn f t = a * 21 + b := by
  unfold IsWay at h
  exact ⟨f.toNat, t.toNat, by omega, by omega, by omega, by omega, by omega, rfl⟩
theorem way_at (p : Nat) {f t : Int} (w : World) (h : IsWay f t) : Calls Try.prog 33 #[.pointer (some ⟨p, 0, none⟩), .int .i64 f, .int .i64 t] w fun e w' => e = .returned (.pointer (some ⟨p, wn f t, none⟩)) ∧ w = w' := by
  obtain ⟨a, b, rfl, rfl, h1, h2, h3, e⟩ := h.nat
  rw [e]
  exact way_ok p a b w h1 h2 h3
set_option maxRecDepth 100000 in
theorem werr_i {f t i : Int} (w : World) (h : NetAt col c w p s) (hw : IsWay f t) (hi : i < 0 ∨ ((s.row (wn f t)).length : Int) ≤ i) : WErr (.pointer (some ⟨p, 0, none⟩)) f t i 7 w := by
  intro w' hB
  obtain ⟨-, A, cp, hc, hl⟩ := (h.below hB).cell (wn_lt hw)
  have hwa := Lib.hid (way_at p w' hw)
  clear h hB hw
  generalize wn f t = k at *
  generalize (s.row k).length = n at *
  by_cases h0 : i < 0
  · clear hi
    go_enter Try.func35, Try.ntmps35
    go_wp2_with (go_at_call 33; ((with_reducible refine (hwa.out).mono ?_); rintro e w' ⟨rfl, rfl⟩))
    go_ret2
    exact ⟨rfl, rfl⟩
  · have h1 : (n : Int) ≤ i := by omega
    clear hi
    go_enter Try.func35, Try.ntmps35
    go_wp2_with (go_at_call 33; ((with_reducible refine (hwa.out).mono ?_); rintro e w' ⟨rfl, rfl⟩))
    go_ret2
    exact ⟨rfl, rfl⟩
set_option maxRecDepth 100000 in
theorem with_ok {f t : Int} (i : Nat) (w : World) (h : NetAt col c w p s) (hw : IsWay f t) (hi : i < (s.row (wn f t)).length) :
    Calls Try.prog 35 #[.pointer (some ⟨p, 0, none⟩), .int .i64 f, .int .i64 t, .int .i64 i] w fun e w'' => e = .returned (.tuple #[.pointer (some ⟨p, wn f t, none⟩), .int .i64 0]) ∧ w = w'' := by
  obtain ⟨-, A, cp, hc, hl⟩ := h.cell (wn_lt hw)
  have hwa := Lib.hid (way_at p w hw)
  clear h hw
  generalize wn f t = k at *
  generalize (s.row k).length = n at *
  have h0 : ¬ (i : Int) < 0 := by omega
  have h1 : ¬ (n : Int) ≤ i := by omega
  go_enter Try.func35, Try.ntmps35
  go_wp2_with (go_at_call 33; ((with_reducible refine (hwa.out).mono ?_); rintro e w' ⟨rfl, rfl⟩))
  go_ret2
  exact ⟨rfl, rfl⟩
set_option maxRecDepth 100000 in
theorem full_any {k : Nat} (w : World) (h : NetAt col c w p s) (hk : k < 441) : Calls Try.prog 37 #[.pointer (some ⟨p, k, none⟩)] w fun e w' => e = .returned (.bool (decide (48 ≤ (s.row k).length))) ∧ w = w' := by
  obtain ⟨-, A, cp, hc, hl⟩ := h.cell hk
  clear h
  generalize (s.row k).length = n at *
  by_cases h1 : 48 ≤ n
  · rw [decide_eq_true h1]
    have h2 : (48 : Int) ≤ n := by omega
    go_enter Try.func37, Try.ntmps37
    go_wp2
    go_ret
    exact ⟨rfl, rfl⟩
  · rw [decide_eq_false h1]
    have h2 : ¬ (48 : Int) ≤ n := by omega
    go_enter Try.func37, Try.ntmps37
    go_wp2
    go_ret
    exact ⟨rfl, rfl⟩
set_option maxRecDepth 100000 in
theorem len_ok {f t : Int} (w : World) (h : NetAt col c w p s) (hw : IsWay f t) : Calls Try.prog 12 #[.pointer (some ⟨p, 0, none⟩), .int .i64 f, .int .i64 t] w fun e w' => e = .returned (.int .i64 (s.row (wn f t)).length) ∧ w = w' := by
  obtain ⟨-, A, cp, hc, hl⟩ := h.cell (wn_lt hw)
  have hwa := Lib.hid (way_at p w hw)
  clear h hw
  generalize wn f t = k at *
  generalize (s.row k).length = n at *
  go_enter Try.func12, Try.ntmps12
  go_wp2_with (go_at_call 33; ((with_reducible refine (hwa.out).mono ?_); rintro e w' ⟨rfl, rfl⟩))
  go_ret
  exact ⟨rfl, rfl⟩
set_option maxRecDepth 100000 in
theorem len_bad (v : Value) (f t : Int) (w : World) (h : Bad v f t) : Calls Try.prog 12 #[v, .int .i64 f, .int .i64 t] w fun e w' => e = .returned (.int .i64 0) ∧ w = w' := by
  go_enter Try.func12, Try.ntmps12
  go_wp2_with (go_at_call 33; ((with_reducible refine (way_bad v f t _ h).mono ?_); rintro e w' ⟨rfl, rfl⟩))
  go_ret
  exact ⟨rfl, rfl⟩
set_option maxRecDepth 100000 in
theorem lost_any (w : World) (h : NetAt col c w p s) : Calls Try.prog 11 #[.pointer (some ⟨p, 0, none⟩)] w fun e w' => e = .returned (.int .i64 s.lost) ∧ w = w' := by
  obtain ⟨h1, -⟩ := h.cellL
  clear h
  go_enter Try.func11, Try.ntmps11
  go_wp2
  go_ret
  exact ⟨rfl, rfl⟩
set_option maxRecDepth 100000 in
theorem lost_nil (w : World) : Calls Try.prog 11 #[.pointer none] w fun e w' => e = .returned (.int .i64 0) ∧ w = w' := by
  go_enter Try.func11, Try.ntmps11
  go_wp2
  go_ret
  exact ⟨rfl, rfl⟩
end

/-! ### Copies -/
set_option maxRecDepth 100000 in
theorem clone_any (a : Option Addr) (n cap : Nat) (l : List Nat) (w : World) (hb : BL w a n l) (hnone : a = none → n = 0) (hn : n ≤ 140737488355328) :
    Calls Try.prog 38 #[.slice a n cap] w (Makes w l) := by
  obtain ⟨i0, hi, hz0, hz1, hz2⟩ := info_parts bytes8
  rcases a with _ | x
  · obtain rfl : n = 0 := hnone rfl
    have hl : l = [] := List.eq_nil_of_length_eq_zero hb.1
    subst hl
    have hq := fun w : World => Lib.run_eql_slice_nil (P := Try.prog) w 30 5 none 0 cap 0 0 Try.underlying30
    clear hb hnone hi
    go_enter Try.func38, Try.ntmps38
    go_wp2
    go_ret
    exact Makes.of rfl (Own.nil_ w _) (Below.refl _ _)
  · have hm := Own.made w w.heap.size (Nat.le_refl _) [] (by simp) (by simp) #[] rfl
    have hm' := Lib.hid hm
    have hb1 := Lib.hid (hb.below ((Below.refl w.heap.size w).alloc (Nat.le_refl _) (.cells #[] 5)))
    have hlen := Lib.hid hb.1
    have hq := fun w : World => Lib.run_eql_slice_nil (P := Try.prog) w 30 5 (some x) n cap 0 0 Try.underlying30
    clear hb hnone hm
    go_enter Try.func38, Try.ntmps38
    go_wp2_with (at_builtin; (refine wpList_app rfl _ _ 30 rfl w.heap.size i0 Try.underlying30 hi hz0 hz1 hz2 _ 0 [] rfl hm'.out (some x) n cap l rfl hb1.out ?c1 ?c2 ?_))
    case c1 => omega
    case c2 => simp
    intro v' w2 hown2 hgrow
    replace hown2 := Lib.hid hown2
    have hBn := Lib.hid (hm'.out.grown ((Below.refl w.heap.size w).alloc (Nat.le_refl _) _) hgrow (by simp))
    clear hgrow
    go_wp2
    go_ret
    exact Makes.of hlen.out hown2.out hBn.out

/-! ### A new net -/
def netZ : Array Value := (Array.replicate 441 (.slice none 0 0)).push (.int .i64 0)
theorem netZ_size : netZ.size = 442 := by simp [netZ]
theorem netZ_get (i : Nat) (hi : i < 442) : netZ[i]? = some (cN (fun _ => .slice none 0 0) 0 i) := by
  unfold netZ cN
  rw [Array.getElem?_push]
  by_cases h : i = 441
  · subst h; simp
  · rw [if_neg (by simpa using h), if_neg h, Array.getElem?_replicate, if_pos (by omega)]
theorem zero_net (w : World) : (zeroValue 64).run Try.prog w = .ok (.agg netZ) w := by kernel_rfl
def nsZ : Ns := ⟨fun _ => [], 0⟩
theorem new_is (w : World) (col : Nat → Nat) (c : Nat) (hc : col w.heap.size = c) : NetIs col c (w.alloc (.cells netZ 64)) w.heap.size (fun _ => .slice none 0 0) (fun _ => []) 0 where
  row := by
    have h := World.rowIs_alloc w netZ 64 (cN (fun _ => .slice none 0 0) 0) (fun i hi => netZ_get i (by rw [netZ_size] at hi; exact hi))
    rw [netZ_size] at h; exact h
  own := fun k _ => World.ownsRow_nil _ _ _ 2
  byt := fun k _ m hm => by cases hm
  cp := hc
  cv := fun k _ b e => by cases e
  cb := fun k _ m hm => by cases hm
  sv := fun k j _ _ _ b e => by cases e
  sb := fun k _ => List.nodup_nil
  sk := fun k j _ _ _ b hb => by cases hb
  le := fun k _ => Nat.zero_le _
  bl := fun k _ m hm => by cases hm
/-- What New answers. -/
def Newd (w : World) (e : Ending) (w' : World) : Prop := e = .returned (.pointer (some ⟨w.heap.size, 0, none⟩)) ∧ Below w.heap.size w w' ∧ w.heap.size < w'.heap.size ∧ ∀ col c, col w.heap.size = c → NetAt col c w' w.heap.size nsZ
set_option maxRecDepth 100000 in
theorem new_any (w : World) : Calls Try.prog 8 #[] w (Newd w) := by
  have hb := zero_net
  have hfin : Newd w (.returned (.pointer (some ⟨w.heap.size, 0, none⟩))) (w.alloc (.cells netZ 64)) := ⟨rfl, al0 _ _, by simp, fun col c hc => ⟨_, _, new_is w col c hc, fun _ _ => rfl⟩⟩
  replace hfin := Lib.hid hfin
  go_enter Try.func8, Try.ntmps8
  go_wp2
  go_ret
  exact hfin.out
end Go.Proofs.Ytggoaglcffdcnaa.netB
