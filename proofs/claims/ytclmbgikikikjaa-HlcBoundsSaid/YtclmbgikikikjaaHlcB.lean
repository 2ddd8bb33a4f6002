/- The walks of the statements HlcPacks, HlcSends, HlcRises and HlcBounds: each returns true, whatever numbers it is given. -/
import Derived.Test.YtclmbgikikikjaaHlcA
import Derived.LoopTactic
import Derived.Below
import Derived.WalkLawsBesides
namespace Go.Proofs.Ytclmbgikikikjaa.hlcB
open Go.ChangeShapes Go.WideShapes Go.ChangeAt Go.RowKit
open hlcA

/-- What the walk is told of a slice of integers that came in. -/
def IsRow (k : IntKind) (w : World) (a : Option Addr) (len cap : Nat) (zs : List Int) : Prop :=
  (a = none ∧ len = 0 ∧ cap = 0 ∧ zs = []) ∨
  ∃ x, a = some x ∧ len ≤ cap ∧ cap ≤ maxLen ∧ zs.length = cap ∧ (∀ i, i < zs.length → w.cell? (x.add i) = some (.int k (zs.getD i 0))) ∧ ∀ n ∈ zs, (Lit.int k n).wf = true

theorem row_len {k : IntKind} {w : World} {a : Option Addr} {len cap : Nat} {zs : List Int} (h : IsRow k w a len cap zs) : len ≤ 9223372036854775807 := by
  rcases h with ⟨_, h, _, _⟩ | ⟨x, _, h1, h2, _⟩
  · omega
  · unfold maxLen at h2; omega

theorem row_at {k : IntKind} {w : World} {a : Option Addr} {len cap : Nat} {zs : List Int} (h : IsRow k w a len cap zs) (j : Nat) (hj : j < len) :
    ∃ b off r, a = some ⟨b, off, none⟩ ∧ w.cell? ⟨b, off + j, none⟩ = some (.int k r) ∧ (Lit.int k r).wf = true := by
  rcases h with ⟨_, h, _, _⟩ | ⟨x, hx, h1, h2, h3, h4, h5⟩
  · omega
  · have hp : j < zs.length := by omega
    obtain ⟨b, off, rfl, hc⟩ := ints_at h4 (by omega)
    refine ⟨b, off, zs.getD j 0, hx, hc j hp, h5 _ ?_⟩
    simp [List.getD, hp]

theorem packs (m l t : Int) (w2 : (Lit.int .u64 t).wf = true) (w : World) :
    Calls Try.prog 3 #[.int .i64 m, .int .i64 l, .int .u64 t] w fun e w' => e = .returned (.bool true) ∧ w = w' := by
  obtain ⟨t0, t1⟩ := bounds_u64 w2
  have hp : pkB (t / 65536) (t % 65536) = true := (pk_iff _ _).2 ⟨⟨by omega, by omega⟩, by omega, by omega⟩
  have e1 : pkN (t / 65536) (t % 65536) = t := by unfold pkN; rw [if_pos hp]; omega
  have e2 : pkE (t / 65536) (t % 65536) = 0 := by unfold pkE; rw [if_pos hp]
  clear hp w2
  go_enter Try.func3, Try.ntmps3
  go_wp2_with (first | (go_at_call 9; refine (pack_any _ _ _).mono ?_; rintro e w' ⟨rfl, rfl⟩) | (go_at_call 10; refine (rpack_any _ _ _).mono ?_; rintro e w' ⟨rfl, rfl⟩) | (go_at_call 11; refine (split_in _ _ t0 t1).mono ?_; rintro e w' ⟨rfl, rfl⟩) | (go_at_call 12; refine (awake_any _).mono ?_; rintro e w' ⟨rfl, rfl⟩))
  go_ret
  exact ⟨rfl, rfl⟩

theorem sends (t g m : Int) (w0 : (Lit.int .u64 t).wf = true) (w1 : (Lit.int .u64 g).wf = true) (w : World) :
    Calls Try.prog 4 #[.int .u64 t, .int .u64 g, .int .i64 m] w fun e w' => e = .returned (.bool true) ∧ w = w' := by
  obtain ⟨t0, t1⟩ := bounds_u64 w0
  obtain ⟨g0, g1⟩ := bounds_u64 w1
  clear w0 w1
  go_enter Try.func4, Try.ntmps4
  go_wp2_with (first | (go_at_call 13; refine (send_any _ _ _ t0 t1).mono ?_; rintro e w' ⟨rfl, rfl⟩) | (go_at_call 14; refine (rsend_any _ _ _ t0 t1).mono ?_; rintro e w' ⟨rfl, rfl⟩) | (go_at_call 15; refine (recv_any _ _ _ _ t0 t1 g0 g1).mono ?_; rintro e w' ⟨rfl, rfl⟩) | (go_at_call 16; refine (rrecv_any _ _ _ _ t0 t1 g0 g1).mono ?_; rintro e w' ⟨rfl, rfl⟩) | (go_at_call 17; refine (raise_any _ _ _).mono ?_; rintro e w' ⟨rfl, rfl⟩) | (go_at_call 18; refine (rraise_any _ _ _).mono ?_; rintro e w' ⟨rfl, rfl⟩) | (go_at_call 12; refine (awake_any _).mono ?_; rintro e w' ⟨rfl, rfl⟩))
  go_ret
  exact ⟨rfl, rfl⟩

/-- The four answers of Send, of the clock's own stamp or of the greater one. -/
theorem sd_cases (t m : Int) :
    (rdB m = false ∧ sdN t m = 0 ∧ sdE t m = 1) ∨
    (rdB m = true ∧ (0 ≤ m ∧ m ≤ 281474976710655) ∧ t < m * 65536 ∧ sdN t m = m * 65536 ∧ sdE t m = 0) ∨
    (rdB m = true ∧ (0 ≤ m ∧ m ≤ 281474976710655) ∧ m * 65536 ≤ t ∧ t = 18446744073709551615 ∧ sdN t m = 0 ∧ sdE t m = 10) ∨
    (rdB m = true ∧ (0 ≤ m ∧ m ≤ 281474976710655) ∧ m * 65536 ≤ t ∧ t ≠ 18446744073709551615 ∧ sdN t m = t + 1 ∧ sdE t m = 0) := by
  by_cases hr : rdB m = true
  · have h := (rd_iff m).1 hr
    by_cases hg : t < m * 65536
    · exact .inr (.inl ⟨hr, h, hg, sd_one t m hr hg⟩)
    · by_cases he : t = 18446744073709551615
      · exact .inr (.inr (.inl ⟨hr, h, by omega, he, sd_two t m hr hg he⟩))
      · exact .inr (.inr (.inr ⟨hr, h, by omega, he, sd_three t m hr hg he⟩))
  · replace hr : rdB m = false := by simpa using hr
    exact .inl ⟨hr, sd_zero t m hr⟩

theorem recv_lo (t g m : Int) (w : World) (t0 : 0 ≤ t) (t1 : t ≤ 18446744073709551615) (g0 : 0 ≤ g) (g1 : g ≤ 18446744073709551615) (h : g ≤ t) :
    Calls Try.prog 15 #[.int .u64 t, .int .u64 g, .int .i64 m] w fun e w' => e = .returned (.tuple #[.int .u64 (sdN t m), .int .i64 (sdE t m)]) ∧ w = w' := by
  have := recv_any t g m w t0 t1 g0 g1
  rwa [show mx t g = t by unfold mx; rw [if_neg (by omega)]] at this
theorem recv_hi (t g m : Int) (w : World) (t0 : 0 ≤ t) (t1 : t ≤ 18446744073709551615) (g0 : 0 ≤ g) (g1 : g ≤ 18446744073709551615) (h : t < g) :
    Calls Try.prog 15 #[.int .u64 t, .int .u64 g, .int .i64 m] w fun e w' => e = .returned (.tuple #[.int .u64 (sdN g m), .int .i64 (sdE g m)]) ∧ w = w' := by
  have := recv_any t g m w t0 t1 g0 g1
  rwa [show mx t g = g by unfold mx; rw [if_pos h]] at this
end Go.Proofs.Ytclmbgikikikjaa.hlcB
