/- The walks of the statements NumUvars and NumOne: each returns true, whatever it is given. -/
import Derived.Test.YtihojeffdepddaaNumB
import Derived.Deep.RegionHeld3
import Derived.Deep.DeepCutAuto
namespace Go.Proofs.Ytihojeffdepddaa.numC
open Go.ChangeShapes Go.WideShapes Go.ChangeAt Go.RowKit
open numM rowA byt numA numB

theorem trans0 {w w1 w2 : World} (h1 : Below w.heap.size w w1) (h2 : Below w1.heap.size w1 w2) : Below w.heap.size w w2 := h1.trans (h2.mono h1.size)

set_option maxRecDepth 100000 in
theorem uvars (n : Nat) (a : Option Addr) (m cap : Nat) (l : List Nat) (w : World) (hn : n < 18446744073709551616) (hb : BL w a m l) :
    Calls Try.prog 4 #[.int .u64 n, .slice a m cap] w fun e w' => e = .returned (.bool true) ∧ Below w.heap.size w w' := by
  have hn' := Lib.hid hn
  clear hn
  replace hb := Lib.hid hb
  go_enter Try.func4, Try.ntmps4
  go_wp2_with ((go_at_call 17; ((with_reducible refine (tuv_any _ _ _ l _ hb.out).mono ?_); rintro e w' ⟨rfl, rfl⟩)))
  go_wp2_with ((go_at_call 18; ((with_reducible refine (rtuv_any _ _ _ l _ hb.out).mono ?_); rintro e w' ⟨rfl, rfl⟩)))
  go_wp2_with ((go_at_call 15; ((with_reducible refine (awake_any _).mono ?_); rintro e w1 ⟨rfl, hB1⟩)))
  go_wp2_with ((go_at_call 19; ((with_reducible refine (uvar_any _ _ hn'.out).mono ?_); rintro e w2 ⟨A, c2, rfl, ho2, hB2⟩)))
  go_wp2_with ((go_at_call 20; ((with_reducible refine (ruvar_any _ _ hn'.out).mono ?_); rintro e w3 ⟨A', c3, rfl, ho3, hB3⟩)))
  obtain ⟨_, _, e0, _, _, _, _, hb3⟩ := ho3.form
  cases e0
  obtain ⟨_, _, e0, _, _, _, _, hb2⟩ := ho2.form
  cases e0
  have k2 := Lib.hid (hb2.below hB3)
  have k3 := Lib.hid hb3
  have hB := Lib.hid (trans0 (trans0 hB1 hB2) hB3)
  clear ho2 ho3 hb2 hb3 hB1 hB2 hB3
  go_wp2_with ((go_at_call 16; ((with_reducible refine (same_any _ _ _ (uv n) _ _ _ _ k2.out k3.out).mono ?_); rintro e w' ⟨rfl, rfl⟩)))
  go_ret
  exact ⟨rfl, hB.out⟩

set_option maxRecDepth 100000 in
theorem one_no (a : Option Addr) (m cap : Nat) (l : List Nat) (w : World) (hb : BL w a m l) (he : tke l ≠ 0) :
    Calls Try.prog 7 #[.slice a m cap] w fun e w' => e = .returned (.bool true) ∧ Below w.heap.size w w' := by
  obtain ⟨e1, e2, e3⟩ := tk_no he
  have htu : ∀ w : World, BL w a m l → Calls Try.prog 17 #[.slice a m cap] w fun e w' => e = .returned (.tuple #[.int .u64 0, .int .i64 0, .int .i64 (tke l)]) ∧ w = w' := by
    intro w hb
    have h := tuv_any a m cap l w hb
    rw [e1, e2] at h
    exact h
  have htu' := Lib.hid htu
  clear htu e1 e2 he
  replace hb := Lib.hid hb
  rcases e3 with e3 | e3
  all_goals
    rw [e3] at htu'
    clear e3
    go_enter Try.func7, Try.ntmps7
    go_wp2_with ((go_at_call 17; ((with_reducible refine (htu'.out _ hb.out).mono ?_); rintro e w' ⟨rfl, rfl⟩)))
    go_wp2_with ((go_at_call 15; ((with_reducible refine (awake_any _).mono ?_); rintro e w1 ⟨rfl, hB1⟩)))
    go_ret
    exact ⟨rfl, hB1⟩

/-- the bytes lie in w' too, and nothing that was there is touched -/
def S1 (w : World) (a : Option Addr) (k : Nat) (l : List Nat) (w' : World) : Prop := BL w' a k l ∧ Below w.heap.size w w'
theorem S1.start {w : World} {a : Option Addr} {k : Nat} {l : List Nat} (h : BL w a k l) : S1 w a k l w := ⟨h, Below.refl _ _⟩
theorem S1.step {w w1 w2 : World} {a : Option Addr} {k : Nat} {l : List Nat} (h : S1 w a k l w1) (hB : Below w1.heap.size w1 w2) : S1 w a k l w2 := ⟨h.1.below hB, trans0 h.2 hB⟩
theorem S1.drew {w w1 : World} {a : Option Addr} {k : Nat} {l : List Nat} (h : S1 w a k l w1) : S1 w a k l w1.drew := ⟨h.1, h.2.drew⟩
theorem S1.bl {w w1 : World} {a : Option Addr} {k : Nat} {l : List Nat} (h : S1 w a k l w1) : BL w1 a k l := h.1
theorem own_bl {w : World} {base n c m : Nat} {A : Option Addr} {l : List Nat} (h : Own w base (.slice A n c) m l) : BL w A m l := by
  obtain ⟨_, _, e0, _, _, _, _, hb⟩ := h.form
  cases e0
  exact hb
set_option maxRecDepth 100000 in
theorem one_yes (b off m cap : Nat) (l : List Nat) (w : World) (hb : BL w (some ⟨b, off, none⟩) m l) (hcap : m ≤ cap) (he : tke l = 0) :
    Calls Try.prog 7 #[.slice (some ⟨b, off, none⟩) m cap] w fun e w' => e = .returned (.bool true) ∧ Below w.heap.size w w' := by
  obtain ⟨hv, hk0, hkl, hu⟩ := tk_yes hb.lt he
  have htu := tuv_any (some ⟨b, off, none⟩) m cap l w hb
  rw [he] at htu
  have hn := hb.1
  rw [hn] at hkl
  have hm := hb.2.1
  have hs := hb.take (tkn l) hkl
  rw [← hu] at hs
  generalize tkn l = k at *
  generalize tkv l = v at *
  have htu' := Lib.hid htu
  have hv' := Lib.hid hv
  have hs' := Lib.hid (S1.start hs)
  clear hb htu hu hv he hn hs
  have k1 : (1 : Int) ≤ k := by omega
  have k2 : (k : Int) ≤ m := by omega
  have k3 : (k : Int) ≤ cap := by omega
  go_enter Try.func7, Try.ntmps7
  go_wp2_with ((go_at_call 17; ((with_reducible refine (htu'.out).mono ?_); rintro e w' ⟨rfl, rfl⟩)))
  go_region_held3 (fun w' => S1 w (some ⟨b, off, none⟩) k (uv v) w')
    (first | assumption | exact hs'.out.drew | exact S1.step (by assumption) (by assumption))
    (first | (go_at_call 15; refine (awake_any _).mono ?_; rintro e w2 ⟨rfl, hB⟩) | (go_at_call 19; ((with_reducible refine (uvar_any _ _ hv'.out).mono ?_); rintro e w3 ⟨A, c, rfl, ho, hB⟩)) | (go_at_call 16; ((with_reducible refine (same_any _ _ _ (uv v) _ _ _ _ (own_bl (by assumption)) (S1.bl (by assumption))).mono ?_); rintro e w' ⟨rfl, rfl⟩)))
  rename_i hHeld
  go_wp2
  go_ret
  exact ⟨rfl, hHeld.2⟩

/-! ### The same of the data that come in -/
theorem uvars_row (a0 : Int) (a1 : Option Addr) (len1 cap1 : Nat) (z1 : List Int) (w : World) (w0 : (Lit.int .u64 a0).wf = true) (w1 : IsRow .u8 w a1 len1 cap1 z1) :
    Calls Try.prog 4 #[.int .u64 a0, .slice a1 len1 cap1] w fun e w' => e = .returned (.bool true) ∧ Below w.heap.size w w' := by
  obtain ⟨h0, h1⟩ := bounds_u64 w0
  obtain ⟨n, rfl⟩ := Int.eq_ofNat_of_zero_le h0
  exact uvars n a1 len1 cap1 _ w (by omega) (row_bl w1)
theorem one_row (a1 : Option Addr) (len1 cap1 : Nat) (z1 : List Int) (w : World) (w1 : IsRow .u8 w a1 len1 cap1 z1) :
    Calls Try.prog 7 #[.slice a1 len1 cap1] w fun e w' => e = .returned (.bool true) ∧ Below w.heap.size w w' := by
  have hb := row_bl w1
  by_cases he : tke ((z1.take len1).map Int.toNat) = 0
  · have h := tk_yes hb.lt he
    obtain ⟨b, off, rfl, _⟩ := hb.at (show 0 < len1 by have := hb.1; omega)
    exact one_yes b off len1 cap1 _ w hb (row_len w1).1 he
  · exact one_no a1 len1 cap1 _ w hb he
end Go.Proofs.Ytihojeffdepddaa.numC
