/- The contracts of Last: the place of the greatest mark, by the program and by the document's own answer. -/
import Derived.Test.YtclmbgikikikjaaHlcE
import Derived.Deep.QuietTactic
import Derived.BigQuiet
import Derived.Lib.Hide
import Derived.WalkSmall
namespace Go.Proofs.Ytclmbgikikikjaa.hlcH
open Go.ChangeShapes Go.WideShapes Go.ChangeAt Go.RowKit
open hlcA hlcE
attribute [local go_sem ↓] Go.wp_at_zero Go.wp_at_succ

abbrev Mk := Int × Int × Int
/-- What the walk is told of a slice of marks that came in. -/
def Marks (w : World) (a : Option Addr) (len : Nat) (f : Nat → Mk) : Prop :=
  len ≤ 9223372036854775807 ∧ (len = 0 ∨ ∃ b off, a = some ⟨b, off, none⟩ ∧ b < w.heap.size ∧
    ∀ i, i < len → w.cell? ⟨b, off + i * 3, none⟩ = some (.int .u64 (f i).1) ∧ w.cell? ⟨b, off + i * 3 + 1, none⟩ = some (.int .i64 (f i).2.1) ∧ w.cell? ⟨b, off + i * 3 + 2, none⟩ = some (.int .i64 (f i).2.2))
theorem Marks.step {w w1 : World} {a : Option Addr} {len : Nat} {f : Nat → Mk} (hb : Below w.heap.size w w1) (h : Marks w a len f) : Marks w1 a len f := by
  refine ⟨h.1, h.2.imp id ?_⟩
  rintro ⟨b, off, rfl, hlt, hc⟩
  obtain ⟨hk, _⟩ := bcell hb
  refine ⟨b, off, rfl, by have := hb.size; omega, fun i hi => ?_⟩
  rw [hk _ _ hlt, hk _ _ hlt, hk _ _ hlt]
  exact hc i hi
theorem Marks.at {w : World} {a : Option Addr} {len : Nat} {f : Nat → Mk} (h : Marks w a len f) {i : Nat} (hi : i < len) :
    ∃ b off, a = some ⟨b, off, none⟩ ∧ b < w.heap.size := by
  rcases h.2 with h | ⟨b, off, h1, h2, _⟩
  · omega
  · exact ⟨b, off, h1, h2⟩
theorem Marks.cells {w : World} {b off : Nat} {len : Nat} {f : Nat → Mk} (h : Marks w (some ⟨b, off, none⟩) len f) {i : Nat} (hi : i < len) :
    w.cell? ⟨b, off + i * 3, none⟩ = some (.int .u64 (f i).1) ∧ w.cell? ⟨b, off + i * 3 + 1, none⟩ = some (.int .i64 (f i).2.1) ∧ w.cell? ⟨b, off + i * 3 + 2, none⟩ = some (.int .i64 (f i).2.2) := by
  rcases h.2 with h | ⟨b', off', h1, _, h2⟩
  · omega
  · cases h1; exact h2 i hi

/-- the place of the first greatest mark of the first n -/
def gl (f : Nat → Mk) : Nat → Nat
  | 0 => 0
  | n + 1 => if n = 0 then 0 else if 0 < cm (f n) (f (gl f n)) then n else gl f n
def lastI (f : Nat → Mk) (n : Nat) : Int := if n = 0 then -1 else (gl f n : Nat)
theorem gl_lt (f : Nat → Mk) (n : Nat) (h : 0 < n) : gl f n < n := by
  induction n with
  | zero => omega
  | succ n ih =>
    unfold gl
    split
    · omega
    · split
      · omega
      · have := ih (by omega); omega

theorem lastI_up (f : Nat → Mk) (j : Nat) (h0 : ¬ j = 0) (hc : 0 < cm (f j) (f (gl f j))) : lastI f (j + 1) = (j : Nat) := by
  unfold lastI gl; rw [if_neg (by omega), if_neg h0, if_pos hc]
theorem lastI_same (f : Nat → Mk) (j : Nat) (h0 : ¬ j = 0) (hc : ¬ 0 < cm (f j) (f (gl f j))) : lastI f (j + 1) = lastI f j := by
  unfold lastI; rw [if_neg (by omega), if_neg h0]; conv => lhs; unfold gl
  rw [if_neg h0, if_neg hc]

/-- A mark lies in the world's first new block, another one at o of block b; the world w' is wr with more memory. -/
def Two (wr : World) (m1 m2 : Mk) (b o : Nat) (w' : World) : Prop :=
  Below wr.heap.size wr w' ∧ wr.heap.size + 1 ≤ w'.heap.size ∧ b < wr.heap.size ∧
  w'.cell? ⟨wr.heap.size, 0, none⟩ = some (.int .u64 m1.1) ∧ w'.cell? ⟨wr.heap.size, 1, none⟩ = some (.int .i64 m1.2.1) ∧ w'.cell? ⟨wr.heap.size, 2, none⟩ = some (.int .i64 m1.2.2) ∧
  w'.cell? ⟨b, o, none⟩ = some (.int .u64 m2.1) ∧ w'.cell? ⟨b, o + 1, none⟩ = some (.int .i64 m2.2.1) ∧ w'.cell? ⟨b, o + 2, none⟩ = some (.int .i64 m2.2.2)
theorem Two.step {wr W w1 : World} {m1 m2 : Mk} {b o : Nat} (hb : Below W.heap.size W w1) (h : Two wr m1 m2 b o W) : Two wr m1 m2 b o w1 := by
  obtain ⟨h1, h2, h3, c1, c2, c3, c4, c5, c6⟩ := h
  obtain ⟨hk, _⟩ := bcell hb
  have hz := hb.size
  refine ⟨h1.trans (hb.mono (by omega)), by omega, h3, ?_, ?_, ?_, ?_, ?_, ?_⟩
  all_goals (rw [hk _ _ (by omega)]; assumption)
theorem Two.start {wr : World} {m1 m2 : Mk} {b o : Nat} (hb : b < wr.heap.size) (c1 : wr.cell? ⟨b, o, none⟩ = some (.int .u64 m2.1)) (c2 : wr.cell? ⟨b, o + 1, none⟩ = some (.int .i64 m2.2.1)) (c3 : wr.cell? ⟨b, o + 2, none⟩ = some (.int .i64 m2.2.2)) :
    Two wr m1 m2 b o ((wr.alloc (.cells #[.int .u64 m1.1, .int .i64 m1.2.1, .int .i64 m1.2.2] 38)).drew) := by
  have hB : Below wr.heap.size wr ((wr.alloc (.cells #[.int .u64 m1.1, .int .i64 m1.2.1, .int .i64 m1.2.2] 38)).drew) := ((Below.refl _ _).alloc (Nat.le_refl _) _).drew
  obtain ⟨hk, _⟩ := bcell hB
  refine ⟨hB, by simp, hb, ?_, ?_, ?_, ?_, ?_, ?_⟩
  · go_simp
  · go_simp
  · go_simp
  · rw [hk _ _ hb]; exact c1
  · rw [hk _ _ hb]; exact c2
  · rw [hk _ _ hb]; exact c3
theorem Two.below {wr w' : World} {m1 m2 : Mk} {b o : Nat} (h : Two wr m1 m2 b o w') : Below wr.heap.size wr w' := h.1

theorem last_any (a : Option Addr) (len cap : Nat) (f : Nat → Mk) (w : World) (hm : Marks w a len f) :
    Calls Try.prog 21 #[.slice a len cap] w fun e w' => e = .returned (.int .i64 (lastI f len)) ∧ Below w.heap.size w w' := by
  have hl := hm.1
  go_enter Try.func21, Try.ntmps21
  go_wp2
  go_loopw [3, 8] (fun s i wr => ∃ j : Nat, j ≤ len ∧ s = .int .i64 (lastI f j) ∧ i = .int .i64 j ∧ Below w.heap.size w wr) (fun _ i _ => len - (intOf i).toNat)
  case atStart => exact ⟨0, Nat.zero_le _, rfl, rfl, Below.refl _ _⟩
  case round =>
    obtain ⟨j, hj, rfl, rfl, hB⟩ := hrel
    by_cases hlt : j < len
    · obtain ⟨b, off, rfl, hbl⟩ := hm.at hlt
      have hmr := hm.step hB
      obtain ⟨k1, k2, k3⟩ := hmr.cells hlt
      by_cases h0 : j = 0
      · have e1 : lastI f j = -1 := by unfold lastI; rw [if_pos h0]
        have e2 : lastI f (j + 1) = j := by unfold lastI gl; rw [if_neg (by omega), if_pos h0]; omega
        clear h0
        go_wp2
        go_quiet (fail)
        go_wp2
        go_roundw
        case rel => exact ⟨j + 1, by omega, by rw [e2], by go_num, below_drewN (hB.alloc (by have := hB.size; omega) _) _⟩
        case measure => simp [intOf]; omega
      · have hg := gl_lt f j (by omega)
        have e1 : lastI f j = (gl f j : Nat) := by unfold lastI; rw [if_neg h0]
        obtain ⟨g1, g2, g3⟩ := hmr.cells (show gl f j < len by omega)
        have hi0 : (0 : Int) ≤ (gl f j : Int) := by omega
        have hi1 : (gl f j : Int) < (len : Int) := by omega
        have hz := hB.size
        have T0 := Two.start (m1 := f j) (by omega) g1 g2 g3
        by_cases hc : 0 < cm (f j) (f (gl f j))
        · have e2 := Lib.hid (lastI_up f j h0 hc)
          clear h0
          go_wp2
          go_region_held3 (fun w' => Below wr.heap.size wr w' ∧ wr.heap.size + 1 ≤ w'.heap.size ∧ b < wr.heap.size ∧
              w'.cell? ⟨wr.heap.size, 0, none⟩ = some (.int .u64 (f j).1) ∧ w'.cell? ⟨wr.heap.size, 1, none⟩ = some (.int .i64 (f j).2.1) ∧ w'.cell? ⟨wr.heap.size, 2, none⟩ = some (.int .i64 (f j).2.2) ∧
              w'.cell? ⟨b, off + gl f j * 3, none⟩ = some (.int .u64 (f (gl f j)).1) ∧ w'.cell? ⟨b, off + gl f j * 3 + 1, none⟩ = some (.int .i64 (f (gl f j)).2.1) ∧ w'.cell? ⟨b, off + gl f j * 3 + 2, none⟩ = some (.int .i64 (f (gl f j)).2.2))
            (first | exact T0 | exact Two.step (by assumption) (by assumption))
            (first | (go_at_call 19; refine (cmp_any _ _ _).mono ?_; rintro e w' ⟨rfl, hb⟩))
          rename_i hHeld
          have hT := hHeld.1
          clear hHeld hb
          go_wp2
          go_roundw
          case rel => exact ⟨j + 1, by omega, by rw [e2.out], by go_num, hB.trans (hT.mono (by omega))⟩
          case measure => simp [intOf]; omega
        · have e2 := Lib.hid (lastI_same f j h0 hc)
          replace hc : cm (f j) (f (gl f j)) ≤ 0 := by omega
          clear h0
          go_wp2
          go_region_held3 (fun w' => Below wr.heap.size wr w' ∧ wr.heap.size + 1 ≤ w'.heap.size ∧ b < wr.heap.size ∧
              w'.cell? ⟨wr.heap.size, 0, none⟩ = some (.int .u64 (f j).1) ∧ w'.cell? ⟨wr.heap.size, 1, none⟩ = some (.int .i64 (f j).2.1) ∧ w'.cell? ⟨wr.heap.size, 2, none⟩ = some (.int .i64 (f j).2.2) ∧
              w'.cell? ⟨b, off + gl f j * 3, none⟩ = some (.int .u64 (f (gl f j)).1) ∧ w'.cell? ⟨b, off + gl f j * 3 + 1, none⟩ = some (.int .i64 (f (gl f j)).2.1) ∧ w'.cell? ⟨b, off + gl f j * 3 + 2, none⟩ = some (.int .i64 (f (gl f j)).2.2))
            (first | exact T0 | exact Two.step (by assumption) (by assumption))
            (first | (go_at_call 19; refine (cmp_any _ _ _).mono ?_; rintro e w' ⟨rfl, hb⟩))
          rename_i hHeld
          have hT := hHeld.1
          clear hHeld hb
          go_wp2
          go_roundw
          case rel => exact ⟨j + 1, by omega, by rw [e2.out, e1], by go_num, hB.trans (hT.mono (by omega))⟩
          case measure => simp [intOf]; omega
    · obtain rfl : j = len := by omega
      go_wp2
      go_ret
      exact ⟨rfl, hB⟩

/-! ### The document's own answer -/
/-- is mark i behind or like all of the first k? -/
def great (f : Nat → Mk) (i k : Nat) : Bool := decide (∀ k', k' < k → ¬ cm (f i) (f k') < 0)
theorem great_zero (f : Nat → Mk) (i : Nat) : great f i 0 = true := by simp [great]
theorem great_succ (f : Nat → Mk) (i k : Nat) : great f i (k + 1) = (great f i k && !isAhead (f i) (f k)) := by
  unfold great isAhead
  rw [Bool.eq_iff_iff]
  simp only [decide_eq_true_eq, Bool.and_eq_true, Bool.not_eq_true', decide_eq_false_iff_not]
  constructor
  · intro h; exact ⟨fun k' hk => h k' (by omega), h k (by omega)⟩
  · rintro ⟨h1, h2⟩ k' hk
    by_cases e : k' = k
    · rw [e]; exact h2
    · exact h1 k' (by omega)
theorem gl_great (f : Nat → Mk) (n : Nat) : great f (gl f n) n = true := by
  unfold great
  simp only [decide_eq_true_eq]
  induction n with
  | zero => intro k' h; omega
  | succ n ih =>
    intro k' hk
    unfold gl
    split
    · rename_i h0
      have : k' = 0 := by omega
      rw [this, cm_self]; omega
    · split
      · rename_i hc
        by_cases e : k' = n
        · rw [e, cm_self]; omega
        · have h1 := ih k' (by omega)
          have h2 := cm_anti (f (gl f n)) (f n)
          have h3 := cm_anti (f (gl f n)) (f k')
          intro h4
          have h5 := cm_lt (f (gl f n)) (f n) (f k') (by omega) (by omega)
          exact h1 h5
      · rename_i hc
        by_cases e : k' = n
        · rw [e]
          have h2 := cm_anti (f (gl f n)) (f n)
          omega
        · exact ih k' (by omega)
theorem gl_first (f : Nat → Mk) (n i : Nat) (h : i < gl f n) : great f i n = false := by
  induction n with
  | zero => simp [gl] at h
  | succ n ih =>
    rw [great_succ]
    unfold gl at h
    split at h
    · omega
    · split at h
      · rename_i hc
        by_cases e : great f i n = true
        · have h1 : ¬ cm (f i) (f (gl f n)) < 0 := by
            unfold great at e
            simp only [decide_eq_true_eq] at e
            exact e _ (gl_lt f n (by omega))
          have h2 := cm_anti (f n) (f (gl f n))
          have h3 := cm_anti (f i) (f (gl f n))
          have h4 : cm (f i) (f n) < 0 := by
            by_cases h5 : cm (f i) (f n) < 0
            · exact h5
            · have h6 := cm_anti (f i) (f n)
              have := cm_lt (f (gl f n)) (f n) (f i) (by omega) (by omega)
              have gg := gl_great f n
              unfold great at gg
              simp only [decide_eq_true_eq] at gg
              exact absurd this (gg i (by omega))
          simp [isAhead, h4]
        · simp [Bool.eq_false_iff.2 e]
      · simp [ih h]
end Go.Proofs.Ytclmbgikikikjaa.hlcH
