/- The contract of the document's own answer for Last, and the walk of the statement HlcLast: it returns true for any list of marks. -/
import Derived.Test.YtclmbgikikikjaaHlcH
namespace Go.Proofs.Ytclmbgikikikjaa.hlcI
open Go.ChangeShapes Go.WideShapes Go.ChangeAt Go.RowKit
open hlcA hlcE hlcH
attribute [local go_sem ↓] Go.wp_at_zero Go.wp_at_succ

def NoGreat (f : Nat → Mk) (n i : Nat) : Prop := ∀ i', i' < i → great f i' n = false
theorem lastI_of (f : Nat → Mk) (n i : Nat) (hi : i < n) (hn : NoGreat f n i) (hg : great f i n = true) : lastI f n = (i : Nat) := by
  unfold lastI
  rw [if_neg (by omega)]
  rcases (by omega : gl f n < i ∨ gl f n = i ∨ i < gl f n) with h | h | h
  · have h1 := hn _ h
    rw [gl_great] at h1
    cases h1
  · rw [h]
  · rw [gl_first f n i h] at hg
    cases hg
theorem lastI_none (f : Nat → Mk) (n : Nat) (hn : NoGreat f n n) : lastI f n = -1 := by
  unfold lastI
  split
  · rfl
  · have h1 := hn _ (gl_lt f n (by omega))
    rw [gl_great] at h1
    cases h1
theorem noGreat_up (f : Nat → Mk) (n i : Nat) (hn : NoGreat f n i) (hg : great f i n = false) : NoGreat f n (i + 1) := by
  intro i' h
  by_cases e : i' = i
  · rw [e]; exact hg
  · exact hn i' (by omega)

/-- Two marks lie at o1 and o2 of block b; the world w' is wr with more memory. -/
def Both (wr : World) (m1 m2 : Mk) (b o1 o2 : Nat) (w' : World) : Prop :=
  Below wr.heap.size wr w' ∧ wr.heap.size ≤ w'.heap.size ∧ b < wr.heap.size ∧
  w'.cell? ⟨b, o1, none⟩ = some (.int .u64 m1.1) ∧ w'.cell? ⟨b, o1 + 1, none⟩ = some (.int .i64 m1.2.1) ∧ w'.cell? ⟨b, o1 + 2, none⟩ = some (.int .i64 m1.2.2) ∧
  w'.cell? ⟨b, o2, none⟩ = some (.int .u64 m2.1) ∧ w'.cell? ⟨b, o2 + 1, none⟩ = some (.int .i64 m2.2.1) ∧ w'.cell? ⟨b, o2 + 2, none⟩ = some (.int .i64 m2.2.2)
theorem Both.step {wr W w1 : World} {m1 m2 : Mk} {b o1 o2 : Nat} (hb : Below W.heap.size W w1) (h : Both wr m1 m2 b o1 o2 W) : Both wr m1 m2 b o1 o2 w1 := by
  obtain ⟨h1, h2, h3, c1, c2, c3, c4, c5, c6⟩ := h
  obtain ⟨hk, _⟩ := bcell hb
  have hz := hb.size
  refine ⟨h1.trans (hb.mono (by omega)), by omega, h3, ?_, ?_, ?_, ?_, ?_, ?_⟩
  all_goals (rw [hk _ _ (by omega)]; assumption)
theorem Both.start {wr : World} {m1 m2 : Mk} {b o1 o2 : Nat} (hb : b < wr.heap.size) (h1 : wr.cell? ⟨b, o1, none⟩ = some (.int .u64 m1.1) ∧ wr.cell? ⟨b, o1 + 1, none⟩ = some (.int .i64 m1.2.1) ∧ wr.cell? ⟨b, o1 + 2, none⟩ = some (.int .i64 m1.2.2))
    (h2 : wr.cell? ⟨b, o2, none⟩ = some (.int .u64 m2.1) ∧ wr.cell? ⟨b, o2 + 1, none⟩ = some (.int .i64 m2.2.1) ∧ wr.cell? ⟨b, o2 + 2, none⟩ = some (.int .i64 m2.2.2)) :
    Both wr m1 m2 b o1 o2 wr.drew := by
  have hB : Below wr.heap.size wr wr.drew := (Below.refl _ _).drew
  obtain ⟨hk, _⟩ := bcell hB
  refine ⟨hB, by simp, hb, ?_, ?_, ?_, ?_, ?_, ?_⟩
  · rw [hk _ _ hb]; exact h1.1
  · rw [hk _ _ hb]; exact h1.2.1
  · rw [hk _ _ hb]; exact h1.2.2
  · rw [hk _ _ hb]; exact h2.1
  · rw [hk _ _ hb]; exact h2.2.1
  · rw [hk _ _ hb]; exact h2.2.2

theorem rlast_any (a : Option Addr) (len cap : Nat) (f : Nat → Mk) (w : World) (hm : Marks w a len f) :
    Calls Try.prog 22 #[.slice a len cap] w fun e w' => e = .returned (.int .i64 (lastI f len)) ∧ Below w.heap.size w w' := by
  have hl := hm.1
  go_enter Try.func22, Try.ntmps22
  go_wp2
  go_loopw [3] (fun s wr => ∃ i : Nat, i ≤ len ∧ s = .int .i64 i ∧ NoGreat f len i ∧ Below w.heap.size w wr) (fun s _ => len - (intOf s).toNat)
  case atStart => exact ⟨0, Nat.zero_le _, rfl, fun _ h => by omega, Below.refl _ _⟩
  case round =>
    obtain ⟨i, hi, rfl, hn, hB⟩ := hrel
    by_cases hlt : i < len
    · obtain ⟨b, off, rfl, hbl⟩ := hm.at hlt
      obtain ⟨wo, rfl⟩ : ∃ wo : World, wo = wr := ⟨_, rfl⟩
      go_wp2
      go_loopw [4, 5] (fun g s wr => ∃ k : Nat, k ≤ len ∧ s = .int .i64 k ∧ g = .bool (great f i k) ∧ Below w.heap.size w wr) (fun _ s _ => len - (intOf s).toNat)
      case atStart => exact ⟨0, Nat.zero_le _, rfl, by rw [great_zero], hB⟩
      case round =>
        obtain ⟨k, hk, rfl, rfl, hB2⟩ := hrel
        by_cases hlk : k < len
        · have hmr := hm.step hB2
          have ki := hmr.cells hlt
          have kk := hmr.cells hlk
          have hz := hB2.size
          have T0 := Both.start (by omega) ki kk
          clear ki kk
          have hi0 : (0 : Int) ≤ (i : Int) := by omega
          have hi1 : (i : Int) < (len : Int) := by omega
          have hk0 : (0 : Int) ≤ (k : Int) := by omega
          have hk1 : (k : Int) < (len : Int) := by omega
          have e2 := Lib.hid (great_succ f i k)
          cases hg : great f i k
          · rw [hg] at e2
            go_wp2
            go_quiet (fail)
            go_wp2
            go_roundw
            case rel => exact ⟨k + 1, by omega, by go_num, by rw [e2.out]; rfl, below_drewN hB2 _⟩
            case measure => simp [intOf]; omega
          · rw [hg] at e2
            go_wp2
            go_region_held3 (fun w' => Below wr.heap.size wr w' ∧ wr.heap.size ≤ w'.heap.size ∧ b < wr.heap.size ∧
                w'.cell? ⟨b, off + i * 3, none⟩ = some (.int .u64 (f i).1) ∧ w'.cell? ⟨b, off + i * 3 + 1, none⟩ = some (.int .i64 (f i).2.1) ∧ w'.cell? ⟨b, off + i * 3 + 2, none⟩ = some (.int .i64 (f i).2.2) ∧
                w'.cell? ⟨b, off + k * 3, none⟩ = some (.int .u64 (f k).1) ∧ w'.cell? ⟨b, off + k * 3 + 1, none⟩ = some (.int .i64 (f k).2.1) ∧ w'.cell? ⟨b, off + k * 3 + 2, none⟩ = some (.int .i64 (f k).2.2))
              (first | exact T0 | exact Both.step (by assumption) (by assumption))
              (first | (go_at_call 20; refine (less_any _ _ _).mono ?_; rintro e w' ⟨rfl, hb⟩))
            rename_i hHeld
            have hT := hHeld.1
            clear hHeld hb
            go_wp2
            go_roundw
            case rel => exact ⟨k + 1, by omega, by go_num, by rw [e2.out]; rfl, hB2.trans (hT.mono (by omega))⟩
            case measure => simp [intOf]; omega
        · obtain rfl : k = len := by omega
          cases hg : great f i k
          · have hn2 := noGreat_up f k i hn hg
            go_wp2
            go_roundw
            case rel => exact ⟨i + 1, by omega, by go_num, hn2, hB2⟩
            case measure => simp [intOf]; omega
          · have e1 := Lib.hid (lastI_of f k i hlt hn hg)
            go_wp2
            go_ret
            exact ⟨ret_eq (by rw [e1.out]; rfl), hB2⟩
    · obtain rfl : i = len := by omega
      have e1 := Lib.hid (lastI_none f i hn)
      go_wp2
      go_ret
      exact ⟨ret_eq (by rw [e1.out]; rfl), hB⟩

theorem of_any (s1 s2 : ByteArray) (g : Bool) (ts dc tx : Int) (w : World) :
    Calls Try.prog 23 #[.agg #[.string s1, .string s2, .bool g, .int .u64 ts, .int .i64 dc, .int .i64 tx]] w fun e w' => e = .returned (mk (ts, dc, tx)) ∧ Below w.heap.size w w' := by
  go_enter Try.func23, Try.ntmps23
  go_wp2
  exact bodyPost_ret (v := mk (ts, dc, tx)) (by simp [results, Try.results23, go_sem]) rfl ⟨rfl, ((Below.refl _ _).alloc (Nat.le_refl _) _).alloc (by simp) _⟩

theorem le_of_great (f : Nat → Mk) (n j : Nat) (h : j < n) : ¬ cm (f (gl f n)) (f j) < 0 := by
  have h1 := gl_great f n
  unfold great at h1
  simp only [decide_eq_true_eq] at h1
  exact h1 j h

set_option maxHeartbeats 1000000 in
theorem lasts (a : Option Addr) (len cap : Nat) (f : Nat → Mk) (w : World) (hm : Marks w a len f) :
    Calls Try.prog 8 #[.slice a len cap] w fun e w' => e = .returned (.bool true) ∧ Below w.heap.size w w' := by
  have hl := hm.1
  have ez : cm (7, 1, 2) (7, 1, 2) = 0 := by decide
  by_cases h0 : len = 0
  · subst h0
    have e1 : lastI f 0 = -1 := rfl
    go_enter Try.func8, Try.ntmps8
    go_wp2_with (first | (go_at_call 21; refine (last_any _ _ _ _ _ hm).mono ?_; rintro e w1 ⟨rfl, hb1⟩; have hm1 := hm.step hb1) | (go_at_call 22; refine (rlast_any _ _ _ _ _ (by assumption)).mono ?_; rintro e w2 ⟨rfl, hb2⟩))
    have hB : Below w.heap.size w w2 := hb1.trans (hb2.mono (by have := hb1.size; omega))
    clear hb1 hb2 hm1
    go_loopw [22] (fun s wr => s = .int .i64 0 ∧ Below w.heap.size w wr) (fun _ _ => 0)
    case atStart => exact ⟨rfl, hB⟩
    case round =>
      obtain ⟨rfl, hB2⟩ := hrel
      clear hB
      go_wp2_with (first | (go_at_call 12; refine (awake_any _).mono ?_; rintro e w' ⟨rfl, rfl⟩) | (go_at_call 23; refine (of_any _ _ _ _ _ _ _).mono ?_; rintro e w3 ⟨rfl, hb3⟩) | (go_at_call 19; refine (cmp_any (7, 1, 2) (7, 1, 2) _).mono ?_; rintro e w4 ⟨rfl, hb4⟩))
      go_ret
      have z3 := hb3.size
      have z4 := hB2.size
      exact ⟨rfl, (hB2.trans (hb3.mono (by omega))).trans (hb4.mono (by omega))⟩
  · have hg := gl_lt f len (by omega)
    have e1 : lastI f len = (gl f len : Nat) := by unfold lastI; rw [if_neg h0]
    have hi0 : (0 : Int) ≤ (gl f len : Int) := by omega
    have hi1 : (gl f len : Int) < (len : Int) := by omega
    have hl0 : ((len : Int) == 0) = false := by simpa using h0
    obtain ⟨b, off, rfl, hbl⟩ := hm.at hg
    go_enter Try.func8, Try.ntmps8
    go_wp2_with (first | (go_at_call 21; refine (last_any _ _ _ _ _ hm).mono ?_; rintro e w1 ⟨rfl, hb1⟩; have hm1 := hm.step hb1) | (go_at_call 22; refine (rlast_any _ _ _ _ _ (by assumption)).mono ?_; rintro e w2 ⟨rfl, hb2⟩))
    have hB : Below w.heap.size w w2 := hb1.trans (hb2.mono (by have := hb1.size; omega))
    clear hb1 hb2 hm1
    go_loopw [22] (fun s wr => ∃ j : Nat, j ≤ len ∧ s = .int .i64 j ∧ Below w.heap.size w wr) (fun s _ => len - (intOf s).toNat)
    case atStart => exact ⟨0, Nat.zero_le _, rfl, hB⟩
    case round =>
      obtain ⟨j, hj, rfl, hB2⟩ := hrel
      clear hB
      by_cases hlt : j < len
      · have hmr := hm.step hB2
        obtain ⟨k1, k2, k3⟩ := hmr.cells hlt
        obtain ⟨g1, g2, g3⟩ := hmr.cells hg
        have hz := hB2.size
        have hc := le_of_great f len j hlt
        replace hc : 0 ≤ cm (f (gl f len)) (f j) := by omega
        have T0 := Two.start (m1 := f j) (by omega) g1 g2 g3
        go_wp2
        go_region_held3 (fun w' => Below wr.heap.size wr w' ∧ wr.heap.size + 1 ≤ w'.heap.size ∧ b < wr.heap.size ∧
              w'.cell? ⟨wr.heap.size, 0, none⟩ = some (.int .u64 (f j).1) ∧ w'.cell? ⟨wr.heap.size, 1, none⟩ = some (.int .i64 (f j).2.1) ∧ w'.cell? ⟨wr.heap.size, 2, none⟩ = some (.int .i64 (f j).2.2) ∧
              w'.cell? ⟨b, off + gl f len * 3, none⟩ = some (.int .u64 (f (gl f len)).1) ∧ w'.cell? ⟨b, off + gl f len * 3 + 1, none⟩ = some (.int .i64 (f (gl f len)).2.1) ∧ w'.cell? ⟨b, off + gl f len * 3 + 2, none⟩ = some (.int .i64 (f (gl f len)).2.2))
            (first | exact T0 | exact Two.step (by assumption) (by assumption))
            (first | (go_at_call 19; refine (cmp_any _ _ _).mono ?_; rintro e w' ⟨rfl, hb⟩))
        rename_i hHeld
        have hT := hHeld.1
        clear hHeld hb
        go_wp2
        go_roundw
        case rel => exact ⟨j + 1, by omega, by go_num, hB2.trans (hT.mono (by omega))⟩
        case measure => simp [intOf]; omega
      · obtain rfl : j = len := by omega
        go_wp2_with (first | (go_at_call 12; refine (awake_any _).mono ?_; rintro e w' ⟨rfl, rfl⟩) | (go_at_call 23; refine (of_any _ _ _ _ _ _ _).mono ?_; rintro e w3 ⟨rfl, hb3⟩) | (go_at_call 19; refine (cmp_any (7, 1, 2) (7, 1, 2) _).mono ?_; rintro e w4 ⟨rfl, hb4⟩))
        go_ret
        have z3 := hb3.size
        have z4 := hB2.size
        exact ⟨rfl, (hB2.trans (hb3.mono (by omega))).trans (hb4.mono (by omega))⟩
end Go.Proofs.Ytclmbgikikikjaa.hlcI
