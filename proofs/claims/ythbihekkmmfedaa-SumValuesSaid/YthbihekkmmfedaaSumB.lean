/- The walks of the statements SumValues and SumParts: each returns true, whatever bytes it is given. -/
import Derived.Test.YthbihekkmmfedaaSumA
import Derived.Test.YthbihekkmmfedaaRowA
import Derived.WalkSpells
import Derived.Lib.SlBytesConst
namespace Go.Proofs.Ythbihekkmmfedaa.sumB
open Go.ChangeShapes Go.WideShapes Go.ChangeAt Go.RowKit
open sumM sumA rowA

/-! ### The document's own answer at nine bytes -/
def dg (i : Nat) : Nat := [49, 50, 51, 52, 53, 54, 55, 56, 57].getD i 0
theorem dg_sum : mo 0 dg 9 = 3421780262 := by decide +kernel
theorem cells_new (w : World) (C : Array Value) (e : TypeId) (fr : Nat × Nat) (j : Nat) : (w.alloc (.cells C e fr)).cell? ⟨w.heap.size, j, none⟩ = C[j]? := cell_of_row _ _ j C e fr (heap_alloc_new w _)
theorem dg_bytes (w : World) : Bytes (w.alloc (.cells #[.int .u8 49, .int .u8 50, .int .u8 51, .int .u8 52, .int .u8 53, .int .u8 54, .int .u8 55, .int .u8 56, .int .u8 57] 5 (9, 10))) (some ⟨w.heap.size, 0, none⟩) 9 dg := by
  refine ⟨by omega, ?_, .inr ⟨w.heap.size, 0, rfl, by simp, ?_⟩⟩
  · intro i hi
    have : i = 0 ∨ i = 1 ∨ i = 2 ∨ i = 3 ∨ i = 4 ∨ i = 5 ∨ i = 6 ∨ i = 7 ∨ i = 8 := by omega
    rcases this with rfl | rfl | rfl | rfl | rfl | rfl | rfl | rfl | rfl <;> decide
  · intro i hi
    have : i = 0 ∨ i = 1 ∨ i = 2 ∨ i = 3 ∨ i = 4 ∨ i = 5 ∨ i = 6 ∨ i = 7 ∨ i = 8 := by omega
    rcases this with rfl | rfl | rfl | rfl | rfl | rfl | rfl | rfl | rfl <;> (rw [Nat.zero_add, cells_new]; rfl)
theorem of_dg (cap : Nat) (w : World) (a : Option Addr) (hb : Bytes w a 9 dg) :
    Calls Try.prog 8 #[.slice a 9 cap] w fun e w' => e = .returned (.int .u32 3421780262) ∧ w = w' := by
  have h := of_any a 9 cap dg w hb
  rw [dg_sum] at h
  exact h
theorem awake_any (w : World) :
    Calls Try.prog 7 #[] w fun e w' => e = .returned (.bool true) ∧ Below w.heap.size w w' := by
  have hb := Lib.hid (dg_bytes w)
  have kc := fun (w : World) (C : Array Value) (n c : Nat) => Lib.run_convert_bytes_const (P := Try.prog) w 23 5 C n c Try.underlying23 Try.underlying5
  go_enter Try.func7, Try.ntmps7
  go_wp2_with ((go_at_call 8; refine (of_dg _ _ _ hb.out).mono ?_; rintro e w' ⟨rfl, rfl⟩))
  go_ret
  exact ⟨rfl, (Below.refl _ _).alloc (Nat.le_refl _) _⟩

theorem Bytes.step {w w1 : World} {a : Option Addr} {len : Nat} {f : Nat → Nat} (hb : Below w.heap.size w w1) (h : Bytes w a len f) : Bytes w1 a len f := by
  refine ⟨h.1, h.2.1, h.2.2.imp id ?_⟩
  rintro ⟨b, off, rfl, hlt, hc⟩
  refine ⟨b, off, rfl, by have := hb.size; omega, fun i hi => ?_⟩
  rw [hb.cell (p := ⟨b, off + i, none⟩) hlt]
  exact hc i hi

theorem rmore_0 (a : Option Addr) (len cap : Nat) (f : Nat → Nat) (w : World) (hb : Bytes w a len f) :
    Calls Try.prog 9 #[.int .u32 0, .slice a len cap] w fun e w' => e = .returned (.int .u32 (mo 0 f len)) ∧ w = w' :=
  rmore_any 0 a len cap f w (by omega) hb
theorem values (s : Nat) (a : Option Addr) (len cap : Nat) (f : Nat → Nat) (w : World) (hs : s < 4294967296) (hb : Bytes w a len f) :
    Calls Try.prog 3 #[.int .u32 s, .slice a len cap] w fun e w' => e = .returned (.bool true) ∧ Below w.heap.size w w' := by
  go_enter Try.func3, Try.ntmps3
  go_wp2_with ((go_at_call 7; refine (awake_any _).mono ?_; rintro e w1 ⟨rfl, hB⟩))
  have hb1 := Lib.hid (Bytes.step hB hb)
  clear hb
  go_wp2_with ((go_at_call 8; refine (of_any _ _ _ f _ hb1.out).mono ?_; rintro e w' ⟨rfl, rfl⟩))
  go_wp2_with ((go_at_call 9; refine (rmore_0 _ _ _ f _ hb1.out).mono ?_; rintro e w' ⟨rfl, rfl⟩))
  go_wp2_with ((go_at_call 10; refine (more_any s _ _ _ f _ hs hb1.out).mono ?_; rintro e w' ⟨rfl, rfl⟩))
  go_wp2_with ((go_at_call 9; refine (rmore_any s _ _ _ f _ hs hb1.out).mono ?_; rintro e w' ⟨rfl, rfl⟩))
  go_ret
  exact ⟨rfl, hB⟩

theorem row_bytes {w : World} {a : Option Addr} {len cap : Nat} {zs : List Int} (h : IsRow .u8 w a len cap zs) : Bytes w a len (fun i => (zs.getD i 0).toNat) := by
  refine ⟨by have := row_len h; omega, ?_, ?_⟩
  · intro i hi
    rcases h with ⟨_, h, _, _⟩ | ⟨x, hx, h1, h2, h3, h4, h5⟩
    · omega
    · have hp : i < zs.length := by omega
      have := bounds_u8 (h5 (zs.getD i 0) (by simp [List.getD, hp]))
      show (zs.getD i 0).toNat < 256
      omega
  · by_cases h0 : len = 0
    · exact .inl h0
    · rcases h with ⟨_, h, _, _⟩ | ⟨x, hx, h1, h2, h3, h4, h5⟩
      · omega
      · obtain ⟨b, off, rfl, hc⟩ := ints_at h4 (by omega)
        have hc0 := hc 0 (by omega)
        refine .inr ⟨b, off, hx, World.block_lt_of_cell? _ _ hc0, fun i hi => ?_⟩
        have hp : i < zs.length := by omega
        have hb := bounds_u8 (h5 (zs.getD i 0) (by simp [List.getD, hp]))
        rw [hc i hp, Int.toNat_of_nonneg hb.1]

theorem Bytes.sub {w : World} {b off len : Nat} {f : Nat → Nat} (h : Bytes w (some ⟨b, off, none⟩) len f) (k n : Nat) (hk : k + n ≤ len) : Bytes w (some ⟨b, off + k, none⟩) n (fun i => f (k + i)) := by
  refine ⟨by have := h.1; omega, fun i hi => h.2.1 _ (by omega), ?_⟩
  rcases h.2.2 with h0 | ⟨b', off', h1, h2, h3⟩
  · exact .inl (by omega)
  · cases h1
    exact .inr ⟨b, off + k, rfl, h2, fun i hi => by rw [Nat.add_assoc]; exact h3 _ (by omega)⟩

theorem more_sub (a : Option Addr) (f : Nat → Nat) (k n m cap len : Nat) (w : World) (hm : k + n = m) (hf : ∀ i, i < len → f i < 256) (hl : m ≤ len) (hb : Bytes w a n (fun i => f (k + i))) :
    Calls Try.prog 10 #[.int .u32 (mo 0 f k), .slice a n cap] w fun e w' => e = .returned (.int .u32 (mo 0 f m)) ∧ w = w' := by
  have h := more_any (mo 0 f k) a n cap _ w (mo_lt (by omega) (fun i hi => hf i (by omega))) hb
  rw [mo_add, hm] at h
  exact h
theorem bytes_none (w : World) (a : Option Addr) (n : Nat) (f : Nat → Nat) (h : n = 0) : Bytes w a n f := ⟨by omega, fun i hi => by omega, .inl h⟩
theorem parts (a0 : Option Addr) (len0 cap0 : Nat) (f : Nat → Nat) (a1 : Option Addr) (len1 cap1 : Nat) (z1 : List Int) (w : World) (hcap : len0 ≤ cap0) (hnone : a0 = none → cap0 = 0) (hb : Bytes w a0 len0 f) (w1 : IsRow .i64 w a1 len1 cap1 z1) :
    Calls Try.prog 4 #[.slice a0 len0 cap0, .slice a1 len1 cap1] w fun e w' => e = .returned (.bool true) ∧ Below w.heap.size w w' := by
  obtain ⟨l1, l2⟩ := row_len w1
  go_enter Try.func4, Try.ntmps4
  go_wp2
  go_loop [5, 6, 11] (fun s t i => ∃ k j : Nat, k ≤ len0 ∧ j ≤ len1 ∧ s = .int .u32 (mo 0 f k) ∧ t = .int .i64 k ∧ i = .int .i64 j) (fun _ _ i => len1 - (intOf i).toNat)
  case atStart => exact ⟨0, 0, by omega, by omega, by rw [mo_zero]; rfl, rfl, rfl⟩
  case round =>
    obtain ⟨k, j, hk, hj, rfl, rfl, rfl⟩ := hrel
    have hmk : mo 0 f k < 4294967296 := mo_lt (by omega) (fun i hi => hb.2.1 i (by omega))
    by_cases hlt : j < len1
    · obtain ⟨b1, o1, n, rfl, c1, wn⟩ := row_at w1 j hlt
      clear wn
      by_cases hn : (k : Int) < n ∧ n ≤ len0
      · obtain ⟨m, rfl⟩ := Int.eq_ofNat_of_zero_le (show 0 ≤ n by omega)
        have h1 : k < m := by omega
        have h2 : m ≤ len0 := by omega
        obtain ⟨b, off, rfl, _⟩ := hb.at (show k < len0 by omega)
        have hs := Lib.hid (Bytes.sub hb k (m - k) (by omega))
        have hf := Lib.hid hb.2.1
        clear hn w1 hb hnone
        go_wp2_with ((go_at_call 10; refine (more_sub _ f k _ m _ len0 _ (by omega) hf.out (by omega) hs.out).mono ?_; rintro e w' ⟨rfl, rfl⟩))
        go_round
        case rel => exact ⟨m, j + 1, by omega, by omega, rfl, rfl, by go_num⟩
        case measure => simp [intOf]; omega
      · clear hb w1 hnone
        by_cases hg : (k : Int) < n
        · have hg2 : (len0 : Int) < n := by omega
          clear hn
          go_wp2
          go_round
          case rel => exact ⟨k, j + 1, by omega, by omega, rfl, rfl, by go_num⟩
          case measure => simp [intOf]; omega
        · clear hn
          go_wp2
          go_round
          case rel => exact ⟨k, j + 1, by omega, by omega, rfl, rfl, by go_num⟩
          case measure => simp [intOf]; omega
    · clear w1
      have hf := Lib.hid hb.2.1
      by_cases hkl : k < len0
      · obtain ⟨b, off, rfl, _⟩ := hb.at hkl
        replace hb := Lib.hid hb
        clear hnone
        go_wp2_with ((go_at_call 7; refine (awake_any _).mono ?_; rintro e w1 ⟨rfl, hB⟩))
        all_goals (try (exfalso; omega))
        have hb1 := Lib.hid (Bytes.step hB hb.out)
        have hs := Lib.hid (Bytes.sub hb1.out k (len0 - k) (by omega))
        go_wp2_with ((go_at_call 10; refine (more_sub _ f k _ len0 _ len0 _ (by omega) hf.out (by omega) hs.out).mono ?_; rintro e w' ⟨rfl, rfl⟩))
        go_wp2_with ((go_at_call 8; refine (of_any _ _ _ f _ hb1.out).mono ?_; rintro e w' ⟨rfl, rfl⟩))
        go_ret
        exact ⟨rfl, hB⟩
      · obtain rfl : k = len0 := by omega
        replace hb := Lib.hid hb
        rcases a0 with _ | x
        · obtain rfl : cap0 = k := by have := hnone rfl; omega
          clear hnone
          go_wp2_with ((go_at_call 7; refine (awake_any _).mono ?_; rintro e w1 ⟨rfl, hB⟩))
          all_goals (try (exfalso; omega))
          have hb1 := Lib.hid (Bytes.step hB hb.out)
          go_wp2_with ((go_at_call 10; refine (more_sub _ f _ _ cap0 _ cap0 _ (by omega) hf.out (by omega) (bytes_none _ _ _ _ (by omega))).mono ?_; rintro e w' ⟨rfl, rfl⟩))
          go_wp2_with ((go_at_call 8; refine (of_any _ _ _ f _ hb1.out).mono ?_; rintro e w' ⟨rfl, rfl⟩))
          go_ret
          exact ⟨rfl, hB⟩
        · clear hnone
          by_cases hkc : cap0 = k
          · subst hkc
            go_wp2_with ((go_at_call 7; refine (awake_any _).mono ?_; rintro e w1 ⟨rfl, hB⟩))
            all_goals (try (exfalso; omega))
            have hb1 := Lib.hid (Bytes.step hB hb.out)
            go_wp2_with ((go_at_call 10; refine (more_sub _ f _ _ cap0 _ cap0 _ (by omega) hf.out (by omega) (bytes_none _ _ _ _ (by omega))).mono ?_; rintro e w' ⟨rfl, rfl⟩))
            go_wp2_with ((go_at_call 8; refine (of_any _ _ _ f _ hb1.out).mono ?_; rintro e w' ⟨rfl, rfl⟩))
            go_ret
            exact ⟨rfl, hB⟩
          · go_wp2_with ((go_at_call 7; refine (awake_any _).mono ?_; rintro e w1 ⟨rfl, hB⟩))
            all_goals (try (exfalso; omega))
            have hb1 := Lib.hid (Bytes.step hB hb.out)
            go_wp2_with ((go_at_call 10; refine (more_sub _ f k _ k _ k _ (by omega) hf.out (by omega) (bytes_none _ _ _ _ (by omega))).mono ?_; rintro e w' ⟨rfl, rfl⟩))
            go_wp2_with ((go_at_call 8; refine (of_any _ _ _ f _ hb1.out).mono ?_; rintro e w' ⟨rfl, rfl⟩))
            go_ret
            exact ⟨rfl, hB⟩

/-! ### The same of the data that come in -/
theorem values_row (a0 : Int) (a1 : Option Addr) (len1 cap1 : Nat) (z1 : List Int) (w : World) (w0 : (Lit.int .u32 a0).wf = true) (w1 : IsRow .u8 w a1 len1 cap1 z1) :
    Calls Try.prog 3 #[.int .u32 a0, .slice a1 len1 cap1] w fun e w' => e = .returned (.bool true) ∧ Below w.heap.size w w' := by
  obtain ⟨h0, h1⟩ := bounds_u32 w0
  obtain ⟨s, rfl⟩ := Int.eq_ofNat_of_zero_le h0
  exact values s a1 len1 cap1 _ w (by omega) (row_bytes w1)
theorem parts_row (a0 : Option Addr) (len0 cap0 : Nat) (z0 : List Int) (a1 : Option Addr) (len1 cap1 : Nat) (z1 : List Int) (w : World) (w0 : IsRow .u8 w a0 len0 cap0 z0) (w1 : IsRow .i64 w a1 len1 cap1 z1) :
    Calls Try.prog 4 #[.slice a0 len0 cap0, .slice a1 len1 cap1] w fun e w' => e = .returned (.bool true) ∧ Below w.heap.size w w' := by
  refine parts a0 len0 cap0 _ a1 len1 cap1 z1 w (row_len w0).1 ?_ (row_bytes w0) w1
  intro h
  rcases w0 with ⟨_, _, h, _⟩ | ⟨x, hx, _⟩
  · exact h
  · rw [h] at hx; cases hx
end Go.Proofs.Ythbihekkmmfedaa.sumB
