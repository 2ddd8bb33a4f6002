/- The walk of the statement FrameBursts. -/
import Derived.Test.YtganbpocpppabaaFraK
import Derived.RegionTactic
import Derived.ChangeAlike
namespace Go.Proofs.Ytganbpocpppabaa.fraL
open Go.ChangeShapes Go.WideShapes Go.ChangeAt Go.RowKit Go.Deep
open numM numN rowA byt numA numB numC numD fraM fraB fraC fraD fraE fraG fraH fraI fraJ
open sumM (turn xor_lt8 turn_lt)
open sumA (xor8)

/-- byte j of a number -/
def by4 (q : Nat) (j : Nat) : Nat := q / 2 ^ (8 * j) % 256
theorem by4_lt (q j : Nat) : by4 q j < 256 := Nat.mod_lt _ (by decide)
/-- has one of the first k bytes a bit -/
def tn (q : Nat) : Nat → Bool
  | 0 => false
  | k + 1 => tn q k || (by4 q k != 0)
theorem tn_iff (q k : Nat) : tn q k = false ↔ ∀ i, i < k → by4 q i = 0 := by
  induction k with
  | zero => simp [tn]
  | succ k ih =>
    unfold tn
    rw [Bool.or_eq_false_iff, ih]
    constructor
    · rintro ⟨h1, h2⟩ i hi
      by_cases h : i = k
      · subst h; simpa using h2
      · exact h1 i (by omega)
    · intro h
      exact ⟨fun i hi => h i (by omega), by simpa using h k (by omega)⟩
theorem turn_none (f : Nat → Nat) (k : Nat) (e : Nat → Nat) : turn f k 0 e = f := by funext i; unfold turn; rw [if_neg (by omega)]
/-- The bytes of f, as cells. -/
def row (f : Nat → Nat) (n : Nat) : List Value := (List.range n).map fun i => .int .u8 (f i)
theorem row_len' (f : Nat → Nat) (n : Nat) : (row f n).length = n := by simp [row]
theorem row_get (f : Nat → Nat) (n i : Nat) (h : i < n) : (row f n)[i]? = some (.int .u8 (f i)) := by simp [row, h]

theorem by4_int (q j : Nat) : (q : Int) / 2 ^ (8 * j) % 256 = ((by4 q j : Nat) : Int) := by
  unfold by4
  rw [Int.natCast_emod, Int.natCast_ediv, Int.natCast_pow]
  rfl
theorem tn_no {q j : Nat} (h : tn q j = false) : ((q : Int) / 2 ^ (8 * j) % 256 != 0) = tn q (j + 1) := by
  rw [by4_int]
  unfold tn
  rw [h, Bool.false_or, Bool.eq_iff_iff, bne_iff_ne, bne_iff_ne]
  omega
theorem tn_yes {q j : Nat} (h : tn q j = true) : true = tn q (j + 1) := by
  unfold tn; rw [h, Bool.true_or]
theorem turn_set (f e : Nat → Nat) (k j len : Nat) (_ : k + j < len) : (row (turn f k j e) len).set (k + j) (.int .u8 ((f (k + j) ^^^ e j : Nat))) = row (turn f k (j + 1) e) len := by
  apply List.ext_getElem?
  intro i
  rw [List.getElem?_set]
  by_cases hi : i < len
  · rw [row_get _ _ _ hi, row_get _ _ _ hi, row_len']
    by_cases he : k + j = i
    · subst he
      rw [if_pos rfl, if_pos hi]
      congr 3
      unfold turn
      rw [if_pos (by omega), show k + j - k = j by omega]
    · rw [if_neg he]
      congr 3
      unfold turn
      by_cases h2 : k ≤ i ∧ i < k + j
      · rw [if_pos h2, if_pos (by omega)]
      · rw [if_neg h2, if_neg (by omega)]
  · have h1 : (row (turn f k j e) len)[i]? = none := List.getElem?_eq_none (by rw [row_len']; omega)
    have h2 : (row (turn f k (j + 1) e) len)[i]? = none := List.getElem?_eq_none (by rw [row_len']; omega)
    rw [h1, h2, row_len', if_neg (by omega)]
theorem turn_store {w wr : World} {g cap len k j q : Nat} {f : Nat → Nat} (h : wr.ownsRow w.heap.size 5 1 (.slice (some ⟨g, 0, none⟩) len cap) len (row (turn f k j (by4 q)) len)) (hB : Below w.heap.size w wr) (hk : k + j < len) (hf : f (k + j) < 256) :
    (wr.setCell ⟨g, k + j, none⟩ (.int .u8 (bits .xor .u8 (f (k + j) : Nat) ((q : Int) / 2 ^ (8 * j) % 256)))).drew.ownsRow w.heap.size 5 1 (.slice (some ⟨g, 0, none⟩) len cap) len (row (turn f k (j + 1) (by4 q)) len) ∧
    Below w.heap.size w (wr.setCell ⟨g, k + j, none⟩ (.int .u8 (bits .xor .u8 (f (k + j) : Nat) ((q : Int) / 2 ^ (8 * j) % 256)))).drew := by
  rw [by4_int, xor8 _ _ hf (by4_lt q j)]
  refine ⟨?_, (hB.setCell (p := ⟨g, k + j, none⟩) (h.lt g rfl).1 _).drew⟩
  have := (h.stored (k + j) (.int .u8 ((f (k + j) ^^^ by4 q j : Nat)))).1
  rw [turn_set f (by4 q) k j len hk] at this
  exact this

theorem backs_i (f : Fm) (A : Option Addr) (c : Nat) (m : Int) (w : World) (hb : BL w A f.body.length f.body) (hm : 0 ≤ m ∧ m ≤ 255) :
    Calls Try.prog 5 #[.agg (cf f A c), .int .u8 m] w fun e w' => e = .returned (.bool true) ∧ Below w.heap.size w w' := by
  obtain ⟨m, rfl⟩ := Int.eq_ofNat_of_zero_le hm.1
  exact fraK.backs f A c m w hb (by omega)

/-- bytes as a list -/
def tl (f : Nat → Nat) (n : Nat) : List Nat := (List.range n).map f
theorem tl_len (f : Nat → Nat) (n : Nat) : (tl f n).length = n := by simp [tl]
theorem tl_nth (f : Nat → Nat) {n i : Nat} (h : i < n) : nth (tl f n) i = f i := by simp [tl, nth, h]
theorem ub_tl (f : Nat → Nat) (n : Nat) : ub (tl f n) = row f n := by simp [ub, tl, row]
theorem tl_self (l : List Nat) : tl (nth l) l.length = l := by
  apply List.ext_getElem?
  intro i
  by_cases hi : i < l.length
  · simp [tl, hi, nth]
  · rw [List.getElem?_eq_none (by rw [tl_len]; omega), List.getElem?_eq_none (by omega)]

set_option maxRecDepth 100000 in
theorem bursts_no (f : Fm) (A : Option Addr) (c : Nat) (x q : Int) (w : World) (hb : BL w A f.body.length f.body) (h : pkE f ≠ 0 ∨ x < 0 ∨ ((pkL f).length : Int) ≤ x) :
    Calls Try.prog 6 #[.agg (cf f A c), .int .i64 x, .int .u32 q] w fun e w' => e = .returned (.bool true) ∧ Below w.heap.size w w' := by
  have hW := Lib.hid (al0 w (.cells (cf f A c) 24))
  have hb0 := Lib.hid (hb.below hW.out)
  clear hb
  have hs : pkE f ≠ 0 ∨ (pkE f = 0 ∧ x < 0) ∨ (pkE f = 0 ∧ 0 ≤ x ∧ ((pkL f).length : Int) ≤ x) := by omega
  clear h
  rcases hs with h1 | ⟨h1, h2⟩ | ⟨h1, h2, h3⟩
  · have hne : ((pkE f : Int) != 0) = true := by rw [bne_iff_ne]; omega
    clear h1
    go_enter Try.func6, Try.ntmps6
    go_wp2_with (fail)
    generalize w.alloc (.cells (cf f A c) 24) = W at *
    refine (pack_any f A c W hb0.out).mono ?_
    rintro e w1 ⟨A1, c1, rfl, ho1, hB1⟩
    have hW1 := Lib.hid (trans0 hW.out hB1)
    clear ho1 hB1 hW hb0
    go_wp2_with (fail)
    refine (awake_any w1).mono ?_
    rintro e w3 ⟨rfl, hB3⟩
    have hW3 := Lib.hid (trans0 hW1.out hB3)
    clear hB3
    go_wp2
    go_ret
    exact ⟨rfl, hW3.out⟩
  · have hne : ((pkE f : Int) != 0) = false := by rw [bne_eq_false_iff_eq]; omega
    clear h1
    go_enter Try.func6, Try.ntmps6
    go_wp2_with (fail)
    generalize w.alloc (.cells (cf f A c) 24) = W at *
    refine (pack_any f A c W hb0.out).mono ?_
    rintro e w1 ⟨A1, c1, rfl, ho1, hB1⟩
    have hW1 := Lib.hid (trans0 hW.out hB1)
    clear ho1 hB1 hW hb0
    go_wp2_with (fail)
    refine (awake_any w1).mono ?_
    rintro e w3 ⟨rfl, hB3⟩
    have hW3 := Lib.hid (trans0 hW1.out hB3)
    clear hB3
    go_wp2
    go_ret
    exact ⟨rfl, hW3.out⟩
  · have hne : ((pkE f : Int) != 0) = false := by rw [bne_eq_false_iff_eq]; omega
    clear h1
    generalize hL : (pkL f).length = N at *
    replace hL := Lib.hid hL
    go_enter Try.func6, Try.ntmps6
    go_wp2_with (fail)
    generalize w.alloc (.cells (cf f A c) 24) = W at *
    refine (pack_any f A c W hb0.out).mono ?_
    rintro e w1 ⟨A1, c1, rfl, ho1, hB1⟩
    have hW1 := Lib.hid (trans0 hW.out hB1)
    rw [hL.out]
    clear ho1 hB1 hW hb0
    go_wp2_with (fail)
    refine (awake_any w1).mono ?_
    rintro e w3 ⟨rfl, hB3⟩
    have hW3 := Lib.hid (trans0 hW1.out hB3)
    clear hB3
    go_wp2
    go_ret
    exact ⟨rfl, hW3.out⟩

set_option maxRecDepth 100000 in
set_option maxHeartbeats 1000000 in
theorem bursts_yes (f : Fm) (A : Option Addr) (c k q : Nat) (w : World) (hb : BL w A f.body.length f.body) (hE : pkE f = 0) (hk : k < (pkL f).length) :
    Calls Try.prog 6 #[.agg (cf f A c), .int .i64 k, .int .u32 q] w fun e w' => e = .returned (.bool true) ∧ Below w.heap.size w w' := by
  obtain ⟨i0, hi, hz0, hz1, hz2⟩ := info_parts bytes8
  have hW := Lib.hid (al0 w (.cells (cf f A c) 24))
  have hb0 := Lib.hid (hb.below hW.out)
  have hne : ((pkE f : Int) != 0) = false := by rw [bne_eq_false_iff_eq]; omega
  have hok := pkE_ok hE
  have hbk := Lib.hid (un_back hok.1 hok.2.1 hb.2.2.1)
  have hln := pk_len f
  have hll : (pk f).length ≤ 1048597 := by omega
  have hlt := Lib.hid (pk_lt hok.1 hb.2.2.1)
  have hpL : Hid (pkL f = pk f) := Lib.hid hok.2.2
  rw [hpL.out] at hk
  clear hb hln hok hE
  go_enter Try.func6, Try.ntmps6
  go_wp2_with (fail)
  generalize w.alloc (.cells (cf f A c) 24) = W at *
  refine (pack_any f A c W hb0.out).mono ?_
  rintro e w1 ⟨A1, c1, rfl, ho1, hB1⟩
  rw [hpL.out]
  rw [hpL.out] at ho1
  have hl1 := Lib.hid (own_bl ho1)
  have hW1 := Lib.hid (trans0 hW.out hB1)
  clear ho1 hB1 hW hb0 hpL
  generalize pk f = L at *
  have hmd := Lib.hid (Own.made w1 w1.heap.size (Nat.le_refl _) [] (by simp) (by simp) #[] rfl)
  have hal1 := Lib.hid (al0 w1 (.cells #[] 5))
  have hl2 := Lib.hid (hl1.out.below hal1.out)
  go_wp2_with (at_builtin; (refine wpList_app rfl _ _ 22 rfl w1.heap.size i0 Try.underlying22 hi hz0 hz1 hz2 _ 0 [] rfl hmd.out A1 L.length c1 L rfl hl2.out ?d1 ?d2 ?_))
  case d1 => omega
  case d2 => simp
  intro v6 w6 hown6 hgrow6
  have hB6 := Lib.hid (Own.grown hmd.out hal1.out hgrow6 (by simp))
  obtain ⟨A6, c6, rfl, hc61, hc62, _, hg6, hb6⟩ := hown6.form
  have hLp : 0 < L.length := by omega
  obtain ⟨g, off', rfl, _⟩ := hb6.at hLp
  obtain ⟨g', e0⟩ := hg6 _ rfl
  cases e0
  have hrow6 : w6.ownsRow w1.heap.size 5 1 (.slice (some ⟨g, 0, none⟩) L.length c6) L.length (row (nth L) L.length) := by
    have := hown6.2.2.2
    rw [← ub_tl, tl_self]
    exact this
  replace hrow6 := Lib.hid hrow6
  clear hown6 hgrow6 hmd hal1 hl2 hl1 hb6 hg6
  have hrow6' : Hid (w6.ownsRow w1.heap.size 5 1 (.slice (some ⟨g, 0, none⟩) L.length c6) L.length (row (turn (nth L) k 0 (by4 q)) L.length)) := Lib.hid (by rw [turn_none]; exact hrow6.out)
  clear hrow6
  have hltn := Lib.hid (fun i (h : i < L.length) => nth_lt hlt.out h)
  go_wp2
  go_loopw [10, 11] (fun t i wr => ∃ j : Nat, j ≤ 4 ∧ k + j ≤ L.length ∧ t = .bool (tn q j) ∧ i = .int .i64 j ∧ Hid (wr.ownsRow w1.heap.size 5 1 (.slice (some ⟨g, 0, none⟩) L.length c6) L.length (row (turn (nth L) k j (by4 q)) L.length)) ∧ Hid (Below w1.heap.size w1 wr)) (fun _ i _ => 4 - (intOf i).toNat)
  case atStart => exact ⟨0, by omega, by omega, rfl, rfl, hrow6', hB6⟩
  case round =>
    clear hrow6' hB6
    obtain ⟨j, hj, hkj, rfl, rfl, hrw, hBw⟩ := hrel
    by_cases hlt4 : j < 4 ∧ k + j < L.length
    · obtain ⟨h4, hkl⟩ := hlt4
      have cw : wr.cell? ⟨g, k + j, none⟩ = some (.int .u8 (nth L (k + j))) := by
        rw [hrw.out.cellAt (k + j) (by omega), row_get _ _ _ hkl]
        unfold turn; rw [if_neg (by omega)]
      have fw := hrw.out.frozenAt (k + j)
      have hfb := hltn.out (k + j) hkl
      have hst := Lib.hid (turn_store hrw.out hBw.out hkl hfb)
      clear hrw
      by_cases ht : tn q j = true
      · have hn := Lib.hid (tn_yes ht)
        go_wp2
        go_region
        go_wp2
        go_roundw
        case rel => exact ⟨j + 1, by omega, by omega, by rw [← hn.out], by go_num, Lib.hid hst.out.1, Lib.hid hst.out.2⟩
        case measure => simp [intOf]; omega
      · replace ht : tn q j = false := by simpa using ht
        have hn := Lib.hid (tn_no ht)
        go_wp2
        go_region
        go_wp2
        go_roundw
        case rel => exact ⟨j + 1, by omega, by omega, by rw [hn.out], by go_num, Lib.hid hst.out.1, Lib.hid hst.out.2⟩
        case measure => simp [intOf]; omega
    · have hW2 := Lib.hid (trans0 hW1.out hBw.out)
      have htf : ∀ i, i < L.length → turn (nth L) k j (by4 q) i < 256 := fun i hi => turn_lt (n := L.length) hltn.out (fun i _ => by4_lt q i) hi
      have hown : Own wr w1.heap.size (.slice (some ⟨g, 0, none⟩) L.length c6) L.length (tl (turn (nth L) k j (by4 q)) L.length) := by
        refine ⟨tl_len _ _, ?_, by omega, by rw [ub_tl]; exact hrw.out⟩
        intro c hc
        obtain ⟨i, hi, rfl⟩ := List.mem_map.1 hc
        exact htf i (List.mem_range.1 hi)
      have hbl := Lib.hid (own_bl hown)
      have hbu := Lib.hid (un_burst (l' := tl (turn (nth L) k j (by4 q)) L.length) hlt.out hbk.out.1 hj hkj (fun i _ => by4_lt q i) (tl_len _ _) (fun i hi => tl_nth _ hi))
      have hsame : tn q j = false → tl (turn (nth L) k j (by4 q)) L.length = L := by
        intro h
        have h0 := (tn_iff q j).1 h
        have e : ∀ i, i < L.length → turn (nth L) k j (by4 q) i = nth L i := by
          intro i _
          unfold turn
          split
          · rw [h0 _ (by omega), Nat.xor_zero]
          · rfl
        have e2 : tl (turn (nth L) k j (by4 q)) L.length = tl (nth L) L.length := by
          unfold tl
          exact List.map_congr_left (fun i hi => e i (List.mem_range.1 hi))
        rw [e2, tl_self]
      replace hsame := Lib.hid hsame
      have htn := Lib.hid (tn_iff q j)
      clear hown htf hrw hBw
      generalize tl (turn (nth L) k j (by4 q)) L.length = M at *
      by_cases h4 : j < 4
      · have hge : ¬ ((k : Int) + j < L.length) := by omega
        clear hlt4
        cases ht : tn q j
        · have hM := hsame.out ht
          subst hM
          clear hbu hsame htn
          go_wp2_with (fail)
          refine (unpack_any (some ⟨g, 0, none⟩) M.length c6 M wr hbl.out hc61 hc62).mono ?_
          rintro e w7 ⟨A7, c7, rfl, ho7, hB7⟩
          rw [hbk.out.1]
          have hB8 := Lib.hid (trans0 hB7 (al0 w7 (.cells (cf (unF M) A7 c7) 24)))
          have hW8 := Lib.hid (trans0 hW2.out hB8.out)
          clear ho7 hB7 hB8
          go_wp2_with (fail)
          generalize w7.alloc (.cells (cf (unF M) A7 c7) 24) = w8 at *
          refine (awake_any w8).mono ?_
          rintro e w9 ⟨rfl, hB9⟩
          have hW9 := Lib.hid (trans0 hW8.out hB9)
          clear hB9
          go_wp2
          go_ret
          exact ⟨rfl, hW9.out⟩
        · have hnu : unE M ≠ 0 := fun h => by
            have h1 := htn.out.2 (hbu.out h)
            rw [ht] at h1; cases h1
          have hne2 : ((unE M : Int) != 0) = true := by rw [bne_iff_ne]; omega
          have hz := un_no hnu
          clear hbu hsame htn hnu
          go_wp2_with (fail)
          refine (unpack_any (some ⟨g, 0, none⟩) L.length c6 M wr hbl.out hc61 hc62).mono ?_
          rintro e w7 ⟨A7, c7, rfl, ho7, hB7⟩
          rw [hz]
          rw [hz] at ho7
          have hb7 := Lib.hid (own_bl ho7)
          have hF7 := Lib.hid (FB.new w7 Fm.zero A7 c7)
          have hal := Lib.hid (al0 w7 (.cells (cf Fm.zero A7 c7) 24))
          have hb8 := Lib.hid (hb7.out.below hal.out)
          have hW8 := Lib.hid (trans0 hW2.out (trans0 hB7 hal.out))
          clear ho7 hB7 hal hb7 hz
          generalize unE M = E at *
          go_wp2_with (fail)
          generalize w7.alloc (.cells (cf Fm.zero A7 c7) 24) = w8 at *
          refine (awake_any w8).mono ?_
          rintro e w9 ⟨rfl, hB9⟩
          have hF9 := hF7.out.below hB9
          obtain ⟨q0, q1, q2, q3, q4⟩ := hF9.cells
          have hb9 := Lib.hid (hb8.out.below hB9)
          have hW9 := Lib.hid (trans0 hW8.out hB9)
          clear hB9 hF9 hF7 hb8 hW8
          go_wp2_with (fail)
          refine (same5 Fm.zero A7 c7 none 0 w9 hb9.out (BL.none_ _ _)).mono ?_
          rintro e w10 ⟨rfl, hB10⟩
          have hW10 := Lib.hid (trans0 hW9.out hB10)
          clear hB10 q0 q1 q2 q3 q4
          go_wp2
          go_ret
          exact ⟨rfl, hW10.out⟩
      · obtain rfl : j = 4 := by omega
        clear hlt4
        cases ht : tn q 4
        · have hM := hsame.out ht
          subst hM
          clear hbu hsame htn
          go_wp2_with (fail)
          refine (unpack_any (some ⟨g, 0, none⟩) M.length c6 M wr hbl.out hc61 hc62).mono ?_
          rintro e w7 ⟨A7, c7, rfl, ho7, hB7⟩
          rw [hbk.out.1]
          have hB8 := Lib.hid (trans0 hB7 (al0 w7 (.cells (cf (unF M) A7 c7) 24)))
          have hW8 := Lib.hid (trans0 hW2.out hB8.out)
          clear ho7 hB7 hB8
          go_wp2_with (fail)
          generalize w7.alloc (.cells (cf (unF M) A7 c7) 24) = w8 at *
          refine (awake_any w8).mono ?_
          rintro e w9 ⟨rfl, hB9⟩
          have hW9 := Lib.hid (trans0 hW8.out hB9)
          clear hB9
          go_wp2
          go_ret
          exact ⟨rfl, hW9.out⟩
        · have hnu : unE M ≠ 0 := fun h => by
            have h1 := htn.out.2 (hbu.out h)
            rw [ht] at h1; cases h1
          have hne2 : ((unE M : Int) != 0) = true := by rw [bne_iff_ne]; omega
          have hz := un_no hnu
          clear hbu hsame htn hnu
          go_wp2_with (fail)
          refine (unpack_any (some ⟨g, 0, none⟩) L.length c6 M wr hbl.out hc61 hc62).mono ?_
          rintro e w7 ⟨A7, c7, rfl, ho7, hB7⟩
          rw [hz]
          rw [hz] at ho7
          have hb7 := Lib.hid (own_bl ho7)
          have hF7 := Lib.hid (FB.new w7 Fm.zero A7 c7)
          have hal := Lib.hid (al0 w7 (.cells (cf Fm.zero A7 c7) 24))
          have hb8 := Lib.hid (hb7.out.below hal.out)
          have hW8 := Lib.hid (trans0 hW2.out (trans0 hB7 hal.out))
          clear ho7 hB7 hal hb7 hz
          generalize unE M = E at *
          go_wp2_with (fail)
          generalize w7.alloc (.cells (cf Fm.zero A7 c7) 24) = w8 at *
          refine (awake_any w8).mono ?_
          rintro e w9 ⟨rfl, hB9⟩
          have hF9 := hF7.out.below hB9
          obtain ⟨q0, q1, q2, q3, q4⟩ := hF9.cells
          have hb9 := Lib.hid (hb8.out.below hB9)
          have hW9 := Lib.hid (trans0 hW8.out hB9)
          clear hB9 hF9 hF7 hb8 hW8
          go_wp2_with (fail)
          refine (same5 Fm.zero A7 c7 none 0 w9 hb9.out (BL.none_ _ _)).mono ?_
          rintro e w10 ⟨rfl, hB10⟩
          have hW10 := Lib.hid (trans0 hW9.out hB10)
          clear hB10 q0 q1 q2 q3 q4
          go_wp2
          go_ret
          exact ⟨rfl, hW10.out⟩

theorem bursts (f : Fm) (A : Option Addr) (c : Nat) (x q : Int) (w : World) (hb : BL w A f.body.length f.body) (hq : 0 ≤ q ∧ q ≤ 4294967295) :
    Calls Try.prog 6 #[.agg (cf f A c), .int .i64 x, .int .u32 q] w fun e w' => e = .returned (.bool true) ∧ Below w.heap.size w w' := by
  by_cases h : pkE f ≠ 0 ∨ x < 0 ∨ ((pkL f).length : Int) ≤ x
  · exact bursts_no f A c x q w hb h
  · obtain ⟨k, rfl⟩ := Int.eq_ofNat_of_zero_le (show 0 ≤ x by omega)
    obtain ⟨q, rfl⟩ := Int.eq_ofNat_of_zero_le hq.1
    exact bursts_yes f A c k q w hb (by omega) (by omega)
end Go.Proofs.Ytganbpocpppabaa.fraL
