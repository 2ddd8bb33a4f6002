/- few; StoreTwice. -/
import Derived.Test.YtlojmojmijklmaaStoX
import Derived.Test.YtlojmojmijklmaaStoLo
import Derived.Test.YtlojmojmijklmaaStoU
import Derived.Test.YtlojmojmijklmaaStoW
import Derived.Test.YtlojmojmijklmaaStoJ
set_option linter.unusedVariables false
set_option maxRecDepth 100000
namespace Go.Proofs.Ytlojmojmijklmaa.stoTw
open Go.ChangeShapes Go.WideShapes Go.ChangeAt Go.RowKit Go.Deep
open opV chnM gen chnA chnB chnR chnE chnF chnJ chnT stoM stoA stoL stoB stoC stoP stoPr stoG stoW stoJ stoLo stoU stoX

theorem few_any (A : Option Addr) (c : Nat) (l : List Ver) (n : Nat) (w : World) (h : HV w A c l) (hn : n ≤ 1000) :
    Calls Try.prog 10 #[.slice A l.length c, .int .i64 (n : Int)] w fun e w' => e = .returned (.slice A (l.take n).length c) ∧ w = w' := by
  have hl9 : l.length ≤ 9223372036854775807 := Nat.le_trans h.le h.top
  have hle := h.le
  have hm : min (l.length : Int) (n : Int) = ((l.take n).length : Nat) := by rw [List.length_take]; omega
  have hsl := fun w => slice_to A l.length c (l.take n).length (by rw [List.length_take]; omega) w
  rw [← hm] at hsl
  replace hm := Lib.hid hm
  clear h
  go_enter Try.func10, Try.ntmps10
  go_wp2
  go_ret
  exact ⟨by rw [List.length_take]; rfl, rfl⟩
/-- a store of the call's own, whatever else there is -/
theorem own_not {w : World} {S b : Nat} {A : Option Addr} {c : Nat} {l : List Ver} (h : HV w A c l) (hS : w.heap.size ≤ S) (hb : w.heap.size ≤ b) : l = [] ∨ ∀ y, A = some y → ¬ own2 S b y.block := by
  by_cases h0 : l = []
  · exact .inl h0
  · refine .inr fun y e k => ?_
    obtain ⟨b2, off, e2, hlt, _⟩ := h.at (i := 0) (List.length_pos_iff.2 h0)
    rw [e] at e2; cases e2
    rcases k with k | k
    · have : b2 = S := k
      omega
    · have : b2 = b := k
      omega
theorem chg_below {w w1 w2 : World} {S b : Nat} (h1 : Below w.heap.size w w1) (h2 : Chg (own2 S b) w1 w2) (hS : w.heap.size ≤ S) (hb : w.heap.size ≤ b) : Below w.heap.size w w2 :=
  h1.trans (h2.below h1.size fun k hk e => by rcases e with rfl | rfl <;> omega)
/-- a row that was made behind a store is not the store's -/
theorem hv_own {w w1 : World} {S b base : Nat} {A : Option Addr} {c : Nat} {l : List Ver} (h : GV w base A c l) (hs : l.length * 64 ≤ 140737488355328) (hS : S < base) (hb : b < base) (hC : Chg (own2 S b) w w1) : HV w1 A c l := by
  refine hv_chg (h.hv hs) hC ?_
  by_cases h0 : l = []
  · exact .inl h0
  · refine .inr fun y e k => ?_
    rcases h.2 with ⟨e1, h2⟩ | ⟨g, cap, cur, e1, h2, _⟩
    · simp only [Value.slice.injEq] at e1; rw [e] at e1; cases e1.1
    · simp only [Value.slice.injEq] at e1; rw [e] at e1
      obtain ⟨e3, _, _⟩ := e1
      cases e3
      rcases k with k | k
      · have : g = S := k
        omega
      · have : g = b := k
        omega
theorem al_le {B : Nat → Prop} {w : World} {S b : Nat} {s : St} (h : SAt B w S b s) (lo hi : ByteArray) : (al s.ch lo hi).length ≤ 60000 := by
  obtain ⟨D, hI⟩ := h
  have h1 := ln_filter (fun c => wth c.key lo hi) s.ch
  have h2 := hI.ln
  unfold al sp
  rw [cc_len]; omega
theorem hv_take {w : World} {A : Option Addr} {c : Nat} {l : List Ver} (h : HV w A c l) (n : Nat) : HV w A c (l.take n) := by
  by_cases hn : n ≤ l.length
  · exact hv_to h hn
  · rw [List.take_of_length_le (by omega)]; exact h
theorem few40 (A : Option Addr) (c : Nat) (l : List Ver) (w : World) (h : HV w A c l) :
    Calls Try.prog 10 #[.slice A l.length c, .int .i64 40] w fun e w' => e = .returned (.slice A (l.take 40).length c) ∧ w = w' := few_any A c l 40 w h (by omega)
set_option maxHeartbeats 2000000 in
theorem twice_any (A : Option Addr) (c : Nat) (l : List Ver) (f : Int) (w : World) (hv : HV w A c l) :
    Calls Try.prog 6 #[.slice A l.length c, .int .u64 f] w fun e w' => e = .returned (.bool true) ∧ Below w.heap.size w w' := by
  have hn := new_any w
  have hfew := Lib.hid (few40 A c l)
  have hk40 : (l.take 40).length ≤ 40 := by rw [List.length_take]; omega
  have hvt := hv_take hv 40
  obtain ⟨L, hL⟩ : ∃ L, l.take 40 = L := ⟨_, rfl⟩
  rw [hL] at hfew hk40 hvt
  replace hL := Lib.hid hL
  replace hv := Lib.hid hv
  replace hvt := Lib.hid hvt
  go_enter Try.func6, Try.ntmps6
  go_wp2_with (fail)
  with_reducible refine hn.mono ?_
  rintro e w1 ⟨S, b, rfl, hB1, hS1, hS2, hb1, hb2, hmk⟩
  have hA1 := hmk (own2 S b) (.inl rfl) (.inr rfl) (fun k e => by rcases e with rfl | rfl <;> assumption)
  clear hmk hn
  have htr := Lib.hid (trim_store f w1 hA1)
  go_wp2_with (fail)
  with_reducible refine htr.out.mono ?_
  rintro e w2 ⟨rfl, hC2, hA2⟩
  have hB2 := Lib.hid (chg_below hB1 hC2 hS1 hb1)
  have hsz2 := hC2.size
  have hl1 : ln (tmC St.new.ch (tmF St.new.fl f)) = 0 := rfl
  obtain ⟨s1, hs1⟩ : ∃ s1, (⟨tmC St.new.ch (tmF St.new.fl f), tmF St.new.fl f⟩ : St) = s1 := ⟨_, rfl⟩
  have hln1 : ln s1.ch = 0 := by rw [← hs1]; exact hl1
  rw [hs1] at hA2
  have hi1 : Inv s1 := by obtain ⟨D, h⟩ := hA2; exact h.inv
  obtain ⟨hi2, hln2, -⟩ := Inv.load hi1 L L.length
  obtain ⟨hag1, hag2⟩ := load_twice hi1 L
  have hld := Lib.hid (load_any (S := S) (b := b) A c L w2 hA2 (hvt.out.below hB2.out) (own_not hvt.out hS1 hb1) (by omega))
  replace hA2 := Lib.hid hA2
  replace hag1 := Lib.hid hag1
  replace hag2 := Lib.hid hag2
  replace hi1 := Lib.hid hi1
  replace hi2 := Lib.hid hi2
  clear htr hA1 hB1 hC2 hl1 hs1
  go_wp2_with (go_at_call 10; (with_reducible refine (hfew.out w2 (hv.out.below hB2.out)).mono ?_); rintro e w' ⟨rfl, rfl⟩)
  with_reducible refine hld.out.mono ?_
  rintro e w3 ⟨rfl, hC3, hA3⟩
  obtain ⟨s2, hs2⟩ : ∃ s2, loS s1 L L.length = s2 := ⟨_, rfl⟩
  rw [hs2] at hA3 hag1 hag2 hln2
  replace hs2 := Lib.hid hs2
  have hB3 := Lib.hid (hB2.out.trans (hC3.below hB2.out.size fun k hk e => by rcases e with rfl | rfl <;> omega))
  have hsz3 := hC3.size
  have hal := Lib.hid (all_any { data := #[] } { data := #[] } w3 hA3)
  have hle := al_le hA3 { data := #[] } { data := #[] }
  obtain ⟨R, hR⟩ : ∃ R, al s2.ch { data := #[] } { data := #[] } = R := ⟨_, rfl⟩
  rw [hR] at hal hle
  replace hR := Lib.hid hR
  clear hld hA2 hC3
  go_wp2_with (fail)
  with_reducible refine hal.out.mono ?_
  rintro e w4 ⟨A4, c4, rfl, hG4, hB4⟩
  have hBw4 := Lib.hid (trans0 hB3.out hB4)
  have hsz4 := hB4.size
  have hld2 := Lib.hid (load_any (S := S) (b := b) A c L w4 (hA3.below hB4) (hvt.out.below hBw4.out) (own_not hvt.out hS1 hb1) (by omega))
  clear hal hB4
  go_wp2_with (go_at_call 10; (with_reducible refine (hfew.out w4 (hv.out.below hBw4.out)).mono ?_); rintro e w' ⟨rfl, rfl⟩)
  with_reducible refine hld2.out.mono ?_
  rintro e w5 ⟨rfl, hC5, hA5⟩
  rw [hag1.out] at hA5
  rw [hag2.out]
  have hv5 := Lib.hid (hv_own hG4 (by omega) (by omega) (by omega) hC5)
  have hB5 := Lib.hid (hBw4.out.trans (hC5.below hBw4.out.size fun k hk e => by rcases e with rfl | rfl <;> omega))
  clear hld2 hG4 hC5 hA3 hfew
  go_wp2_with (fail)
  with_reducible refine (awake_any w5).mono ?_
  rintro e w6 ⟨rfl, hB6⟩
  have hv6 := Lib.hid (hv5.out.below hB6)
  have hBw6 := Lib.hid (trans0 hB5.out hB6)
  have hal6 := Lib.hid (all_any { data := #[] } { data := #[] } w6 (hA5.below hB6))
  rw [hR.out] at hal6
  clear hv5 hB5 hB6 hA5
  go_wp2_with (fail)
  with_reducible refine hal6.out.mono ?_
  rintro e w7 ⟨A7, c7, rfl, hG7, hB7⟩
  have hsv := samevers A7 c7 R A4 c4 R w7 (hG7.hv (by omega)) (hv6.out.below hB7)
  rw [decide_eq_true rfl] at hsv
  replace hsv := Lib.hid hsv
  have hBw7 := Lib.hid (trans0 hBw6.out hB7)
  clear hal6 hG7 hB7 hv6 hBw6
  go_wp2_with (fail)
  with_reducible refine hsv.out.mono ?_
  rintro e w8 ⟨rfl, hB8⟩
  have hfin := Lib.hid (trans0 hBw7.out hB8)
  clear hsv hB8
  go_wp2
  go_ret
  exact ⟨rfl, hfin.out⟩
end Go.Proofs.Ytlojmojmijklmaa.stoTw
