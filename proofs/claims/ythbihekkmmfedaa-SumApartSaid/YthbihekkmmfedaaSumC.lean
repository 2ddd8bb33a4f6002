/- The walk of the statement SumApart: bytes of which some within four in a row are turned have another sum; it returns true, whatever it is given. -/
import Derived.Test.YthbihekkmmfedaaSumB
import Derived.RegionTactic
import Derived.ChangeAlike
import Derived.OwnWalk
import Derived.Lib.SmallJoins
namespace Go.Proofs.Ythbihekkmmfedaa.sumC
open Go.ChangeShapes Go.WideShapes Go.ChangeAt Go.RowKit
open sumM sumA rowA sumB

/-- byte j of a number -/
def by4 (q : Nat) (j : Nat) : Nat := q / 2 ^ (8 * j) % 256
theorem by4_lt (q j : Nat) : by4 q j < 256 := Nat.mod_lt _ (by decide)
/-- has one of the first k bytes a bit -/
def tn (q : Nat) : Nat → Bool
  | 0 => false
  | k + 1 => tn q k || (by4 q k != 0)
theorem tn_iff (q k : Nat) : tn q k = false ↔ ∀ i, i < k → by4 q i = 0 := by
  induction k with
  | zero => simp [tn]
  | succ k ih =>
    unfold tn
    rw [Bool.or_eq_false_iff, ih]
    constructor
    · rintro ⟨h1, h2⟩ i hi
      by_cases h : i = k
      · subst h; simpa using h2
      · exact h1 i (by omega)
    · intro h
      exact ⟨fun i hi => h i (by omega), by simpa using h k (by omega)⟩
theorem turn_none (f : Nat → Nat) (k : Nat) (e : Nat → Nat) : turn f k 0 e = f := by funext i; unfold turn; rw [if_neg (by omega)]
theorem bytes8 : (Try.prog.info? 5).map (fun i => (i.zero, i.size, i.bytes)) = some (some (.int .u8 0), 1, 1) := by kernel_rfl
/-- The bytes of f, as cells. -/
def row (f : Nat → Nat) (n : Nat) : List Value := (List.range n).map fun i => .int .u8 (f i)
theorem row_len' (f : Nat → Nat) (n : Nat) : (row f n).length = n := by simp [row]
theorem row_get (f : Nat → Nat) (n i : Nat) (h : i < n) : (row f n)[i]? = some (.int .u8 (f i)) := by simp [row, h]

theorem by4_int (q j : Nat) : (q : Int) / 2 ^ (8 * j) % 256 = ((by4 q j : Nat) : Int) := by
  unfold by4
  rw [Int.natCast_emod, Int.natCast_ediv, Int.natCast_pow]
  rfl
theorem tn_no {q j : Nat} (h : tn q j = false) : ((q : Int) / 2 ^ (8 * j) % 256 != 0) = tn q (j + 1) := by
  rw [by4_int]
  unfold tn
  rw [h, Bool.false_or, Bool.eq_iff_iff, bne_iff_ne, bne_iff_ne]
  omega
theorem tn_yes {q j : Nat} (h : tn q j = true) : true = tn q (j + 1) := by
  unfold tn; rw [h, Bool.true_or]
theorem turn_set (f e : Nat → Nat) (k j len : Nat) (_ : k + j < len) : (row (turn f k j e) len).set (k + j) (.int .u8 ((f (k + j) ^^^ e j : Nat))) = row (turn f k (j + 1) e) len := by
  apply List.ext_getElem?
  intro i
  rw [List.getElem?_set]
  by_cases hi : i < len
  · rw [row_get _ _ _ hi, row_get _ _ _ hi, row_len']
    by_cases he : k + j = i
    · subst he
      rw [if_pos rfl, if_pos hi]
      congr 3
      unfold turn
      rw [if_pos (by omega), show k + j - k = j by omega]
    · rw [if_neg he]
      congr 3
      unfold turn
      by_cases h2 : k ≤ i ∧ i < k + j
      · rw [if_pos h2, if_pos (by omega)]
      · rw [if_neg h2, if_neg (by omega)]
  · have h1 : (row (turn f k j e) len)[i]? = none := List.getElem?_eq_none (by rw [row_len']; omega)
    have h2 : (row (turn f k (j + 1) e) len)[i]? = none := List.getElem?_eq_none (by rw [row_len']; omega)
    rw [h1, h2, row_len', if_neg (by omega)]
theorem turn_store {w wr : World} {g cap len k j q : Nat} {f : Nat → Nat} (h : wr.ownsRow w.heap.size 5 1 (.slice (some ⟨g, 0, none⟩) len cap) len (row (turn f k j (by4 q)) len)) (hB : Below w.heap.size w wr) (hk : k + j < len) (hf : f (k + j) < 256) :
    (wr.setCell ⟨g, k + j, none⟩ (.int .u8 (bits .xor .u8 (f (k + j) : Nat) ((q : Int) / 2 ^ (8 * j) % 256)))).drew.ownsRow w.heap.size 5 1 (.slice (some ⟨g, 0, none⟩) len cap) len (row (turn f k (j + 1) (by4 q)) len) ∧
    Below w.heap.size w (wr.setCell ⟨g, k + j, none⟩ (.int .u8 (bits .xor .u8 (f (k + j) : Nat) ((q : Int) / 2 ^ (8 * j) % 256)))).drew := by
  rw [by4_int, xor8 _ _ hf (by4_lt q j)]
  refine ⟨?_, (hB.setCell (p := ⟨g, k + j, none⟩) (h.lt g rfl).1 _).drew⟩
  have := (h.stored (k + j) (.int .u8 ((f (k + j) ^^^ by4 q j : Nat)))).1
  rw [turn_set f (by4 q) k j len hk] at this
  exact this
theorem owned_bytes {w : World} {B g len cap : Nat} {f : Nat → Nat} (h : w.ownsRow B 5 1 (.slice (some ⟨g, 0, none⟩) len cap) len (row f len)) (hl : len ≤ 9223372036854775807) (hf : ∀ i, i < len → f i < 256) : Bytes w (some ⟨g, 0, none⟩) len f := by
  refine ⟨hl, hf, .inr ⟨g, 0, rfl, (h.lt g rfl).2, fun i hi => ?_⟩⟩
  rw [Nat.zero_add, h.cellAt i (by omega), row_get _ _ _ hi]

theorem apart_no (a0 : Option Addr) (len cap : Nat) (k q : Int) (w : World) (h : k < 0 ∨ (len : Int) ≤ k ∨ q = 0) :
    Calls Try.prog 5 #[.slice a0 len cap, .int .i64 k, .int .u32 q] w fun e w' => e = .returned (.bool true) ∧ Below w.heap.size w w' := by
  by_cases h0 : k < 0
  · clear h
    go_enter Try.func5, Try.ntmps5
    go_wp2_with ((go_at_call 7; refine (awake_any _).mono ?_; rintro e w1 ⟨rfl, hB⟩))
    go_ret
    exact ⟨rfl, hB⟩
  · by_cases h1 : (len : Int) ≤ k
    · clear h
      go_enter Try.func5, Try.ntmps5
      go_wp2_with ((go_at_call 7; refine (awake_any _).mono ?_; rintro e w1 ⟨rfl, hB⟩))
      go_ret
      exact ⟨rfl, hB⟩
    · obtain rfl : q = 0 := by omega
      clear h
      go_enter Try.func5, Try.ntmps5
      go_wp2_with ((go_at_call 7; refine (awake_any _).mono ?_; rintro e w1 ⟨rfl, hB⟩))
      go_ret
      exact ⟨rfl, hB⟩

set_option maxHeartbeats 1000000 in
theorem apart_yes (b off len cap : Nat) (f : Nat → Nat) (k q : Nat) (w : World) (hb : Bytes w (some ⟨b, off, none⟩) len f) (hk : k < len) (hcap : len ≤ cap) (hreach : cap ≤ 140737488351232) (hq0 : q ≠ 0) :
    Calls Try.prog 5 #[.slice (some ⟨b, off, none⟩) len cap, .int .i64 k, .int .u32 q] w fun e w' => e = .returned (.bool true) ∧ Below w.heap.size w w' := by
  have hown : (w.alloc (.cells #[] 5)).ownsRow w.heap.size 5 1 (.slice (some ⟨w.heap.size, 0, none⟩) 0 0) 0 [] := World.ownsRow_made w #[] 0 (Nat.le_refl _) (by decide) rfl
  obtain ⟨i0, hi, hz0, hz1, hz2⟩ := info_parts bytes8
  have hqne : ((q : Int) == 0) = false := by simp; omega
  have hk0 : decide ((k : Int) < 0) = false := by simp
  have hlt : b < w.heap.size := by
    rcases hb.2.2 with h | ⟨b', off', h, hl, _⟩
    · omega
    · cases h; exact hl
  have hcell : ∀ i, i < len → w.cell? ⟨b, off + i, none⟩ = some (.int .u8 (f i)) := by
    rcases hb.2.2 with h | ⟨b', off', h, _, hc⟩
    · intro i hi; omega
    · cases h; exact hc
  have hc : ∀ j u, (row f len)[j]? = some u → (w.alloc (.cells #[] 5)).cell? ((⟨b, off, none⟩ : Addr).add j) = some u := by
    intro j u hu
    have hj : j < len := by
      have := (List.getElem?_eq_some_iff.1 hu).1
      rwa [row_len'] at this
    rw [row_get f len j hj] at hu
    cases hu
    rw [add_plain, (Below.cell (((Below.refl w.heap.size w).alloc (Nat.le_refl _) _)) (p := ⟨b, off + j, none⟩) hlt)]
    exact hcell j hj
  have hc1 : ∀ u ∈ row f len, u.oneCell' = true := by
    intro u hu
    obtain ⟨i, _, rfl⟩ := List.mem_map.1 hu
    rfl
  have hle := Lib.hid (show w.heap.size ≤ (w.alloc (.cells #[] 5)).heap.size by simp)
  have Hc := Lib.hid hc
  have Hcell := Lib.hid hcell
  clear hc hcell
  go_enter Try.func5, Try.ntmps5
  go_wp2_with (at_builtin; refine wpList_append_own _ rfl _ _ 23 rfl w.heap.size 5 i0 (.int .u8 0) 1 1 Try.underlying23 hi hz0 hz1 hz2 rfl (by decide) _ 0 [] rfl hown ⟨b, off, none⟩ len cap (row f len) rfl ?c1 ?c2 ?c3 ?c4 ?c5 ?c6 ?_)
  case c1 => rw [row_len']; omega
  case c2 => exact Hc.out
  case c3 => exact hc1
  case c4 => unfold maxLen; omega
  case c5 => omega
  case c6 => exact hle.out
  intro v' w1 hown1 hgrow _
  obtain ⟨g, cap', rfl⟩ := Joins.ownsRow_form hown1 (by omega)
  have hB1 := Lib.hid (((Below.refl w.heap.size w).alloc (Nat.le_refl _) (.cells #[] 5)).grown hgrow (by have := hle.out; exact this) (fun k hk => by cases hk; exact Nat.le_refl _))
  have hrow1 := Lib.hid hown1
  clear hown hown1 hgrow hc1 hi hz0 hz1 hz2
  go_wp2
  go_loopw [8, 9] (fun t i wr => ∃ j : Nat, j ≤ 4 ∧ k + j ≤ len ∧ t = .bool (tn q j) ∧ i = .int .i64 j ∧ wr.ownsRow w.heap.size 5 1 (.slice (some ⟨g, 0, none⟩) len cap') len (row (turn f k j (by4 q)) len) ∧ Below w.heap.size w wr) (fun _ i _ => 4 - (intOf i).toNat)
  case atStart => exact ⟨0, by omega, by omega, rfl, rfl, by rw [turn_none]; exact hrow1.out, hB1.out⟩
  case round =>
    obtain ⟨j, hj, hkj, rfl, rfl, hrw, hBw⟩ := hrel
    by_cases hlt4 : j < 4 ∧ k + j < len
    · obtain ⟨h4, hkl⟩ := hlt4
      have cw : wr.cell? ⟨g, k + j, none⟩ = some (.int .u8 (f (k + j))) := by
        rw [hrw.cellAt (k + j) (by omega), row_get _ _ _ hkl]
        unfold turn; rw [if_neg (by omega)]
      have fw := hrw.frozenAt (k + j)
      have hfb := hb.2.1 (k + j) hkl
      have hst := Lib.hid (turn_store hrw hBw hkl hfb)
      clear hrw
      by_cases ht : tn q j = true
      · have hn := Lib.hid (tn_yes ht)
        go_wp2
        go_region
        go_wp2
        go_roundw
        case rel => exact ⟨j + 1, by omega, by omega, by rw [← hn.out], by go_num, hst.out.1, hst.out.2⟩
        case measure => simp [intOf]; omega
      · replace ht : tn q j = false := by simpa using ht
        have hn := Lib.hid (tn_no ht)
        go_wp2
        go_region
        go_wp2
        go_roundw
        case rel => exact ⟨j + 1, by omega, by omega, by rw [hn.out], by go_num, hst.out.1, hst.out.2⟩
        case measure => simp [intOf]; omega
    · have hfb : ∀ i, i < len → turn f k j (by4 q) i < 256 := fun i hi => turn_lt (n := len) hb.2.1 (fun i _ => by4_lt q i) hi
      have hc0 := Lib.hid (owned_bytes hrw hb.1 hfb)
      have hap := turn_apart f (by4 q) k j len hj hkj hb.2.1 (fun i _ => by4_lt q i)
      rw [← tn_iff] at hap
      have hb0 := Lib.hid (Bytes.step hBw hb)
      clear hrw hfb
      by_cases ht : tn q j = true
      · have hne : (((mo 0 (turn f k j (by4 q)) len : Nat) : Int) != ((mo 0 f len : Nat) : Int)) = true := by
          rw [bne_iff_ne]
          intro h
          have := hap.1 (by omega)
          rw [ht] at this; cases this
        clear hap
        by_cases h4 : j < 4
        · have hge : ¬ ((k : Int) + j < len) := by omega
          clear hlt4
          go_wp2_with ((go_at_call 7; refine (awake_any _).mono ?_; rintro e w2 ⟨rfl, hB⟩))
          have hc2 := Lib.hid (Bytes.step hB hc0.out)
          have hb2 := Lib.hid (Bytes.step hB hb0.out)
          go_wp2_with ((go_at_call 8; ((with_reducible refine (of_any _ _ _ (turn f k j (by4 q)) _ hc2.out).mono ?_); rintro e w' ⟨rfl, rfl⟩)))
          go_wp2_with ((go_at_call 8; ((with_reducible refine (of_any _ _ _ f _ hb2.out).mono ?_); rintro e w' ⟨rfl, rfl⟩)))
          go_ret
          exact ⟨rfl, hBw.trans (hB.mono hBw.size)⟩
        · obtain rfl : j = 4 := by omega
          clear hlt4
          go_wp2_with ((go_at_call 7; refine (awake_any _).mono ?_; rintro e w2 ⟨rfl, hB⟩))
          have hc2 := Lib.hid (Bytes.step hB hc0.out)
          have hb2 := Lib.hid (Bytes.step hB hb0.out)
          go_wp2_with ((go_at_call 8; ((with_reducible refine (of_any _ _ _ (turn f k 4 (by4 q)) _ hc2.out).mono ?_); rintro e w' ⟨rfl, rfl⟩)))
          go_wp2_with ((go_at_call 8; ((with_reducible refine (of_any _ _ _ f _ hb2.out).mono ?_); rintro e w' ⟨rfl, rfl⟩)))
          go_ret
          exact ⟨rfl, hBw.trans (hB.mono hBw.size)⟩
      · replace ht : tn q j = false := by simpa using ht
        have hne : (((mo 0 (turn f k j (by4 q)) len : Nat) : Int) != ((mo 0 f len : Nat) : Int)) = false := by
          rw [bne_eq_false_iff_eq, hap.2 ht]
        clear hap
        by_cases h4 : j < 4
        · have hge : ¬ ((k : Int) + j < len) := by omega
          clear hlt4
          go_wp2_with ((go_at_call 7; refine (awake_any _).mono ?_; rintro e w2 ⟨rfl, hB⟩))
          have hc2 := Lib.hid (Bytes.step hB hc0.out)
          have hb2 := Lib.hid (Bytes.step hB hb0.out)
          go_wp2_with ((go_at_call 8; ((with_reducible refine (of_any _ _ _ (turn f k j (by4 q)) _ hc2.out).mono ?_); rintro e w' ⟨rfl, rfl⟩)))
          go_wp2_with ((go_at_call 8; ((with_reducible refine (of_any _ _ _ f _ hb2.out).mono ?_); rintro e w' ⟨rfl, rfl⟩)))
          go_ret
          exact ⟨rfl, hBw.trans (hB.mono hBw.size)⟩
        · obtain rfl : j = 4 := by omega
          clear hlt4
          go_wp2_with ((go_at_call 7; refine (awake_any _).mono ?_; rintro e w2 ⟨rfl, hB⟩))
          have hc2 := Lib.hid (Bytes.step hB hc0.out)
          have hb2 := Lib.hid (Bytes.step hB hb0.out)
          go_wp2_with ((go_at_call 8; ((with_reducible refine (of_any _ _ _ (turn f k 4 (by4 q)) _ hc2.out).mono ?_); rintro e w' ⟨rfl, rfl⟩)))
          go_wp2_with ((go_at_call 8; ((with_reducible refine (of_any _ _ _ f _ hb2.out).mono ?_); rintro e w' ⟨rfl, rfl⟩)))
          go_ret
          exact ⟨rfl, hBw.trans (hB.mono hBw.size)⟩
theorem apart_row (a0 : Option Addr) (len cap : Nat) (z0 : List Int) (k q : Int) (w : World) (w0 : IsRow .u8 w a0 len cap z0) (w2 : (Lit.int .u32 q).wf = true) (m0 : cap * 1 ≤ 140737488351232) :
    Calls Try.prog 5 #[.slice a0 len cap, .int .i64 k, .int .u32 q] w fun e w' => e = .returned (.bool true) ∧ Below w.heap.size w w' := by
  by_cases h : k < 0 ∨ (len : Int) ≤ k ∨ q = 0
  · exact apart_no a0 len cap k q w h
  · obtain ⟨q0, _⟩ := bounds_u32 w2
    obtain ⟨k, rfl⟩ := Int.eq_ofNat_of_zero_le (show 0 ≤ k by omega)
    obtain ⟨q, rfl⟩ := Int.eq_ofNat_of_zero_le q0
    have hb := row_bytes w0
    obtain ⟨b, off, rfl, _⟩ := hb.at (show k < len by omega)
    exact apart_yes b off len cap _ k q w hb (by omega) (row_len w0).1 (by omega) (by omega)
end Go.Proofs.Ythbihekkmmfedaa.sumC
