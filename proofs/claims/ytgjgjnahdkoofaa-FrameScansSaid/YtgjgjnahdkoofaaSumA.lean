/- The contracts of the functions of the sum layer and of the document's own answer: what each answers, for all numbers and all bytes. -/
import Derived.Test.YtgjgjnahdkoofaaRows
import Derived.Test.YtgjgjnahdkoofaaSumM
import Derived.WalkKit
import Derived.ProofKit
import Derived.OpenShut
import Derived.LoopTactic
import Derived.Below
import Derived.WalkLawsBesides
import Derived.Lib.Hide
import Derived.Outline
namespace Go.Proofs.Ytgjgjnahdkoofaa.sumA
open Go.ChangeShapes Go.WideShapes Go.ChangeAt Go.RowKit
open sumM

theorem ret_eq {a b : Value} (h : a = b) : Ending.returned a = Ending.returned b := by rw [h]

/-! ### Bits -/
theorem xor32 (a b : Nat) (ha : a < 4294967296) (hb : b < 4294967296) : bits .xor .u32 (a : Int) (b : Int) = ((a ^^^ b : Nat) : Int) := by
  have hx : a ^^^ b < 2 ^ 32 := Nat.xor_lt_two_pow (by omega) (by omega)
  have h1 : (BitVec.ofInt 32 (a : Int)).toNat = a := by
    rw [BitVec.ofInt_natCast, BitVec.toNat_ofNat]; exact Nat.mod_eq_of_lt (by omega)
  have h2 : (BitVec.ofInt 32 (b : Int)).toNat = b := by
    rw [BitVec.ofInt_natCast, BitVec.toNat_ofNat]; exact Nat.mod_eq_of_lt (by omega)
  show IntKind.u32.wrap ((BitVec.ofInt 32 (a : Int) ^^^ BitVec.ofInt 32 (b : Int)).toNat : Int) = _
  rw [BitVec.toNat_xor, h1, h2, IntKind.wrap_u32]
  omega
theorem xor8 (a b : Nat) (ha : a < 256) (hb : b < 256) : bits .xor .u8 (a : Int) (b : Int) = ((a ^^^ b : Nat) : Int) := by
  have hx : a ^^^ b < 2 ^ 8 := Nat.xor_lt_two_pow (by omega) (by omega)
  have h1 : (BitVec.ofInt 8 (a : Int)).toNat = a := by
    rw [BitVec.ofInt_natCast, BitVec.toNat_ofNat]; exact Nat.mod_eq_of_lt (by omega)
  have h2 : (BitVec.ofInt 8 (b : Int)).toNat = b := by
    rw [BitVec.ofInt_natCast, BitVec.toNat_ofNat]; exact Nat.mod_eq_of_lt (by omega)
  show IntKind.u8.wrap ((BitVec.ofInt 8 (a : Int) ^^^ BitVec.ofInt 8 (b : Int)).toNat : Int) = _
  rw [BitVec.toNat_xor, h1, h2, IntKind.wrap_u8]
  omega
theorem not32 (a : Nat) (ha : a < 4294967296) : bits .xor .u32 IntKind.u32.max (a : Int) = ((a ^^^ full : Nat) : Int) := by
  have hm : IntKind.u32.max = ((4294967295 : Nat) : Int) := by decide
  rw [hm, xor32 4294967295 a (by omega) ha, Nat.xor_comm]; rfl
theorem wraps_u32 (n : Int) (h₀ : 0 ≤ n) (h₁ : n < 2 ^ 32) : IntKind.u32.wrap n = n := by rw [IntKind.wrap_u32]; omega
theorem and_low (x : Int) (h0 : 0 ≤ x) (h1 : x < 4294967296) : bits .and .u32 x 1 = x % 2 := bits_mask .u32 32 (by decide) wraps_u32 1 (by decide) x h0 (by omega)

/-! ### A step -/
theorem ret_u32 {a b : Int} (h : a = b) : Ending.returned (.int .u32 a) = .returned (.int .u32 b) := by rw [h]
theorem div2 (x : Nat) : (x : Int) / 2 = ((x / 2 : Nat) : Int) := (Int.natCast_ediv x 2).symm
theorem mod2 (x : Nat) : (x : Int) % 2 = ((x % 2 : Nat) : Int) := (Int.natCast_emod x 2).symm
theorem and_all : bits .and .u32 3988292384 4294967295 = 3988292384 := by decide +kernel
theorem and_none : bits .and .u32 3988292384 0 = 0 := by decide +kernel
theorem half_odd (x : Nat) (hx : x < 4294967296) (h : x % 2 = 1) : bits .xor .u32 ((x : Int) / 2) 3988292384 = ((stp x : Nat) : Int) := by
  have e1 : stp x = x / 2 ^^^ poly := by unfold stp; rw [if_pos h]
  rw [e1, div2]
  exact xor32 (x / 2) 3988292384 (by omega) (by omega)
theorem half_even (x : Nat) (h : x % 2 = 0) : (x : Int) / 2 = ((stp x : Nat) : Int) := by
  have e1 : stp x = x / 2 := by unfold stp; rw [if_neg (by omega)]
  rw [e1, div2]
theorem step_fin (x : Nat) (hx : x < 4294967296) : bits .xor .u32 ((x : Int) / 2) (bits .and .u32 3988292384 (-((x : Int) % 2) % 4294967296)) = ((stp x : Nat) : Int) := by
  rcases Nat.mod_two_eq_zero_or_one x with h | h
  · rw [mod2, h, show (-((0 : Nat) : Int) % 4294967296) = 0 from rfl, and_none, ← half_even x h, div2]
    rw [show (0 : Int) = ((0 : Nat) : Int) from rfl, xor32 (x / 2) 0 (by omega) (by omega), Nat.xor_zero]
  · rw [mod2, h, show (-((1 : Nat) : Int) % 4294967296) = 4294967295 from rfl, and_all, half_odd x hx h]
theorem step_any (x : Nat) (w : World) (hx : x < 4294967296) :
    Calls Try.prog 30 #[.int .u32 x] w fun e w' => e = .returned (.int .u32 (stp x)) ∧ w = w' := by
  have ha := and_low x (by omega) (by omega)
  go_enter Try.func30, Try.ntmps30
  go_wp2
  go_ret
  exact ⟨ret_u32 (step_fin x hx), rfl⟩
theorem rstep_any (x : Nat) (w : World) (hx : x < 4294967296) :
    Calls Try.prog 21 #[.int .u32 x] w fun e w' => e = .returned (.int .u32 (stp x)) ∧ w = w' := by
  rcases Nat.mod_two_eq_zero_or_one x with h | h
  · have e1 := half_even x h
    have e2 : ((x : Int) % 2 == 1) = false := by rw [mod2, h]; rfl
    rw [← e1]; clear e1 h
    go_enter Try.func21, Try.ntmps21
    go_wp2
    go_ret
    exact ⟨rfl, rfl⟩
  · have e1 := half_odd x hx h
    have e2 : ((x : Int) % 2 == 1) = true := by rw [mod2, h]; rfl
    rw [← e1]; clear e1 h
    go_enter Try.func21, Try.ntmps21
    go_wp2
    go_ret
    exact ⟨rfl, rfl⟩

/-! ### A byte taken in -/
theorem take_any (x c : Nat) (w : World) (hx : x < 4294967296) (hc : c < 256) :
    Calls Try.prog 29 #[.int .u32 x, .int .u8 c] w fun e w' => e = .returned (.int .u32 (tk x c)) ∧ w = w' := by
  have hp := xor32 x c hx (by omega)
  have hx1 : x ^^^ c < 4294967296 := xor_lt32 hx (by omega)
  go_enter Try.func29, Try.ntmps29
  go_wp2
  go_loop [0, 9] (fun t i => ∃ j : Nat, j ≤ 8 ∧ t = .int .u32 (rep j (x ^^^ c)) ∧ i = .int .i64 j) (fun _ i => 8 - (intOf i).toNat)
  case atStart => exact ⟨0, by omega, rfl, rfl⟩
  case round =>
    obtain ⟨j, hj, rfl, rfl⟩ := hrel
    have hr := rep_lt j hx1
    by_cases hlt : j < 8
    · go_wp2_with ((go_at_call 30; refine (step_any _ _ hr).mono ?_; rintro e w' ⟨rfl, rfl⟩))
      go_round
      case rel => exact ⟨j + 1, by omega, rfl, by go_num⟩
      case measure => simp [intOf]; omega
    · obtain rfl : j = 8 := by omega
      go_wp2
      go_ret
      exact ⟨rfl, rfl⟩

/-! ### Bytes -/
/-- What a walk is told of a slice of bytes. -/
def Bytes (w : World) (a : Option Addr) (len : Nat) (f : Nat → Nat) : Prop :=
  len ≤ 9223372036854775807 ∧ (∀ i, i < len → f i < 256) ∧ (len = 0 ∨ ∃ b off, a = some ⟨b, off, none⟩ ∧ b < w.heap.size ∧ ∀ i, i < len → w.cell? ⟨b, off + i, none⟩ = some (.int .u8 (f i)))
theorem Bytes.at {w : World} {a : Option Addr} {len : Nat} {f : Nat → Nat} (h : Bytes w a len f) {i : Nat} (hi : i < len) :
    ∃ b off, a = some ⟨b, off, none⟩ ∧ w.cell? ⟨b, off + i, none⟩ = some (.int .u8 (f i)) := by
  rcases h.2.2 with h | ⟨b, off, h1, _, h2⟩
  · omega
  · exact ⟨b, off, h1, h2 i hi⟩

theorem more_any (s : Nat) (a : Option Addr) (len cap : Nat) (f : Nat → Nat) (w : World) (hs : s < 4294967296) (hb : Bytes w a len f) :
    Calls Try.prog 27 #[.int .u32 s, .slice a len cap] w fun e w' => e = .returned (.int .u32 (mo s f len)) ∧ w = w' := by
  have hl := hb.1
  have hf := hb.2.1
  have hs1 : s ^^^ full < 4294967296 := xor_lt32 hs (by decide)
  have hp := not32 s hs
  have hrl : rn f (s ^^^ full) len < 4294967296 := rn_lt len hs1 hf
  have hq : bits .xor .u32 IntKind.u32.max ((rn f (s ^^^ full) len : Nat) : Int) = ((mo s f len : Nat) : Int) := not32 _ hrl
  go_enter Try.func27, Try.ntmps27
  go_wp2
  go_loop [5, 12] (fun t i => ∃ j : Nat, j ≤ len ∧ t = .int .u32 (rn f (s ^^^ full) j) ∧ i = .int .i64 j) (fun _ i => len - (intOf i).toNat)
  case atStart => exact ⟨0, by omega, rfl, rfl⟩
  case round =>
    obtain ⟨j, hj, rfl, rfl⟩ := hrel
    have hr : rn f (s ^^^ full) j < 4294967296 := rn_lt j hs1 (fun i hi => hf i (by omega))
    by_cases hlt : j < len
    · obtain ⟨b, off, rfl, hc⟩ := hb.at hlt
      have hfj := hf j hlt
      clear hb hf hq hrl
      go_wp2_with ((go_at_call 29; refine (take_any _ _ _ hr hfj).mono ?_; rintro e w' ⟨rfl, rfl⟩))
      go_round
      case rel => exact ⟨j + 1, by omega, rfl, by go_num⟩
      case measure => simp [intOf]; omega
    · obtain rfl : j = len := by omega
      clear hf
      go_wp2
      go_ret
      exact ⟨rfl, rfl⟩

theorem of_any (a : Option Addr) (len cap : Nat) (f : Nat → Nat) (w : World) (hb : Bytes w a len f) :
    Calls Try.prog 20 #[.slice a len cap] w fun e w' => e = .returned (.int .u32 (mo 0 f len)) ∧ w = w' := by
  go_enter Try.func20, Try.ntmps20
  go_wp2_with ((go_at_call 27; refine (more_any 0 _ _ _ f _ (by omega) hb).mono ?_; rintro e w' ⟨rfl, rfl⟩))
  go_ret
  exact ⟨rfl, rfl⟩

theorem rmore_any (s : Nat) (a : Option Addr) (len cap : Nat) (f : Nat → Nat) (w : World) (hs : s < 4294967296) (hb : Bytes w a len f) :
    Calls Try.prog 11 #[.int .u32 s, .slice a len cap] w fun e w' => e = .returned (.int .u32 (mo s f len)) ∧ w = w' := by
  have hl := hb.1
  have hf := hb.2.1
  have hs1 : s ^^^ full < 4294967296 := xor_lt32 hs (by decide)
  have hp : bits .xor .u32 (s : Int) 4294967295 = ((s ^^^ full : Nat) : Int) := xor32 s 4294967295 hs (by omega)
  have hrl : rn f (s ^^^ full) len < 4294967296 := rn_lt len hs1 hf
  have hq : bits .xor .u32 ((rn f (s ^^^ full) len : Nat) : Int) 4294967295 = ((mo s f len : Nat) : Int) := xor32 _ 4294967295 hrl (by omega)
  go_enter Try.func11, Try.ntmps11
  go_wp2
  go_loop [0, 5] (fun t i => ∃ j : Nat, j ≤ len ∧ t = .int .u32 (rn f (s ^^^ full) j) ∧ i = .int .i64 j) (fun _ i => len - (intOf i).toNat)
  case atStart => exact ⟨0, by omega, rfl, rfl⟩
  case round =>
    obtain ⟨j, hj, rfl, rfl⟩ := hrel
    have hr : rn f (s ^^^ full) j < 4294967296 := rn_lt j hs1 (fun i hi => hf i (by omega))
    by_cases hlt : j < len
    · obtain ⟨b, off, rfl, hc⟩ := hb.at hlt
      have hfj := hf j hlt
      have hx := xor32 (rn f (s ^^^ full) j) (f j) hr (by omega)
      have hx1 : rn f (s ^^^ full) j ^^^ f j < 4294967296 := xor_lt32 hr (by omega)
      clear hb hf hq hrl
      go_wp2
      go_loop [0, 6] (fun t i => ∃ k : Nat, k ≤ 8 ∧ t = .int .u32 (rep k (rn f (s ^^^ full) j ^^^ f j)) ∧ i = .int .i64 k) (fun _ i => 8 - (intOf i).toNat)
      case atStart => exact ⟨0, by omega, rfl, rfl⟩
      case round =>
        obtain ⟨k, hk, rfl, rfl⟩ := hrel
        have hr2 := rep_lt k hx1
        by_cases hlt2 : k < 8
        · go_wp2_with ((go_at_call 21; refine (rstep_any _ _ hr2).mono ?_; rintro e w' ⟨rfl, rfl⟩))
          go_round
          case rel => exact ⟨k + 1, by omega, rfl, by go_num⟩
          case measure => simp [intOf]; omega
        · obtain rfl : k = 8 := by omega
          go_wp2
          go_round
          case rel => exact ⟨j + 1, by omega, rfl, by go_num⟩
          case measure => simp [intOf]; omega
    · obtain rfl : j = len := by omega
      clear hf
      go_wp2
      go_ret
      exact ⟨rfl, rfl⟩
end Go.Proofs.Ytgjgjnahdkoofaa.sumA
