/- The walk of the statement FrameOwns. -/
import Derived.Test.YtganbpocpppabaaFraL
namespace Go.Proofs.Ytganbpocpppabaa.fraN
open Go.ChangeShapes Go.WideShapes Go.ChangeAt Go.RowKit Go.Deep
open numM numN rowA byt numA numB numC numD fraM fraB fraC fraD fraE fraG fraH fraI fraJ
open sumA (xor8)
open sumM (xor_lt8)

theorem xor255 (a : Nat) (h : a < 256) : bits .xor .u8 (a : Int) 255 = ((a ^^^ 255 : Nat) : Int) := xor8 a 255 h (by decide)

set_option maxRecDepth 100000 in
set_option maxHeartbeats 1000000 in
theorem owns (f : Fm) (A : Option Addr) (c : Nat) (w : World) (hb : BL w A f.body.length f.body) (hl : f.body.length ≤ c) (hm : c ≤ 140737488351232) :
    Calls Try.prog 9 #[.agg (cf f A c)] w fun e w' => e = .returned (.bool true) ∧ Below w.heap.size w w' := by
  obtain ⟨i0, hi, hz0, hz1, hz2⟩ := info_parts bytes8
  have hF := Lib.hid (FB.new w f A c)
  have hW := Lib.hid (al0 w (.cells (cf f A c) 24))
  have hb0 := Lib.hid (hb.below hW.out)
  clear hb
  have hbl : f.body.length ≤ 140737488351232 := by omega
  have hmd := Lib.hid (Own.made (w.alloc (.cells (cf f A c) 24)) (w.alloc (.cells (cf f A c) 24)).heap.size (Nat.le_refl _) [] (by simp) (by simp) #[] rfl)
  have hal := Lib.hid (al0 (w.alloc (.cells (cf f A c) 24)) (.cells #[] 5))
  have hb1 := Lib.hid (hb0.out.below hal.out)
  have hws : Hid ((w.alloc (.cells (cf f A c) 24)).heap.size = w.heap.size + 1) := Lib.hid (by simp)
  rw [hws.out] at hmd hal
  go_enter Try.func9, Try.ntmps9
  go_wp2_with (at_builtin; (refine wpList_app rfl _ _ 22 rfl (w.heap.size + 1) i0 Try.underlying22 hi hz0 hz1 hz2 _ 0 [] rfl hmd.out A f.body.length c f.body rfl hb1.out ?d1 ?d2 ?_))
  case d1 => omega
  case d2 => simp
  intro v2 w2 hown2 hgrow2
  have hB2 := Own.grown hmd.out hal.out hgrow2 (by simp)
  generalize w.alloc (.cells (cf f A c) 24) = W at *
  rw [← hws.out] at hB2
  obtain ⟨A2, c2, rfl, h21, h22, -, -, hy2⟩ := hown2.form
  have hF2 := Lib.hid (hF.out.below hB2)
  have hb2 := Lib.hid (hb0.out.below hB2)
  have hW2 := Lib.hid (trans0 hW.out hB2)
  replace hy2 := Lib.hid hy2
  obtain ⟨q0, q1, q2, q3, q4⟩ := hF2.out.cells
  clear hown2 hgrow2 hB2 hF hb0 hW hmd hal hb1 hws h21 h22
  go_wp2_with (fail)
  refine (pack_any f A c w2 hb2.out).mono ?_
  rintro e w3 ⟨A3, c3, rfl, ho3, hB3⟩
  have hF3 := Lib.hid (hF2.out.below hB3)
  have hb3 := Lib.hid (hb2.out.below hB3)
  have hy3 := Lib.hid (hy2.out.below hB3)
  have hW3 := Lib.hid (trans0 hW2.out hB3)
  clear q0 q1 q2 q3 q4
  by_cases hE : pkE f = 0
  · have hne : ((pkE f : Int) != 0) = false := by rw [bne_eq_false_iff_eq]; omega
    have hok := pkE_ok hE
    have hbk := Lib.hid (un_back hok.1 hok.2.1 hb2.out.2.2.1)
    have hln := pk_len f
    have hll : (pk f).length ≤ 1048597 := by omega
    have hLp : 0 < (pk f).length := by omega
    have hpL : Hid (pkL f = pk f) := Lib.hid hok.2.2
    rw [hpL.out] at ho3 ⊢
    obtain ⟨_, _, e0, h31, h32, -, hg3, hl3⟩ := ho3.form
    cases e0
    have hfb : Hid (∀ k, k < w2.heap.size → w3.heap[k]? = w2.heap[k]?) := Lib.hid (fun k hk => hB3.block k hk)
    have hB23 := Lib.hid hB3
    clear hln hok hpL hB3 hE hF3 hb3 hy3 hfb
    generalize pk f = L at *
    replace hl3 := Lib.hid hl3
    replace ho3 := Lib.hid ho3
    go_wp2_with (fail)
    refine (unpack_any A3 L.length c3 L w3 hl3.out h31 h32).mono ?_
    rintro e w4 ⟨A4, c4, rfl, ho4, hB4⟩
    rw [hbk.out.1, hbk.out.2]
    rw [hbk.out.2] at ho4
    obtain ⟨g, off, rfl, _⟩ := hl3.out.at hLp
    obtain ⟨g', e1⟩ := hg3 _ rfl
    cases e1
    have hg23 := ho3.out.2.2.2.lt g rfl
    have hB5 := trans0 hB4 (al0 w4 (.cells (cf f A4 c4) 24))
    have hG5 := Lib.hid (FB.new w4 f A4 c4)
    have hg5 := Lib.hid (ho4.alloc (.cells (cf f A4 c4) 24))
    have hB25 := Lib.hid (trans0 hB23.out hB5)
    have ho5 := Lib.hid (Own.below ho3.out hB5 (Nat.le_refl _))
    have hW5 := Lib.hid (trans0 hW3.out hB5)
    have hgw : Hid (g < w3.heap.size ∧ w2.heap.size ≤ g) := Lib.hid ⟨hg23.2, hg23.1⟩
    have h34 : Hid (w3.heap.size ≤ w4.heap.size) := Lib.hid hB4.size
    clear ho4 hB4 hB5 hW3 ho3 hg3 hg23 hl3 hbk hB23
    go_wp2
    generalize w4.alloc (.cells (cf f A4 c4) 24) = w5 at *
    go_loopw [34] (fun i wr => ∃ (j : Nat) (M : List Nat), j ≤ L.length ∧ i = .int .i64 j ∧ Hid (Own wr w2.heap.size (.slice (some ⟨g, 0, none⟩) L.length c3) L.length M) ∧ Hid (Below w2.heap.size w2 wr) ∧ Hid (FB wr w4.heap.size f A4 c4) ∧ Hid (Own wr w3.heap.size (.slice A4 f.body.length c4) f.body.length f.body)) (fun i _ => L.length - (intOf i).toNat)
    case atStart => exact ⟨0, L, by omega, rfl, ho5, hB25, hG5, hg5⟩
    case round =>
      clear ho5 hB25 hG5 hg5
      obtain ⟨j, M, hj, rfl, hown, hB, hG, hg⟩ := hrel
      by_cases hlt : j < L.length
      · have hml : j < M.length := by have := hown.out.1; omega
        have hm8 := nth_lt hown.out.2.1 hml
        have cw : wr.cell? ⟨g, j, none⟩ = some (.int .u8 (nth M j)) := by
          rw [hown.out.2.2.2.cellAt j (by omega), ub_get M hml]
        have fw := hown.out.2.2.2.frozenAt j
        have hx := xor255 (nth M j) hm8
        have hst := Lib.hid (numD.Own.set hown.out j (nth M j ^^^ 255) (xor_lt8 hm8 (by decide)))
        have hB' := Lib.hid (hB.out.setCell (p := ⟨g, j, none⟩) hgw.out.2 (.int .u8 ((nth M j ^^^ 255 : Nat))))
        have hG' : Hid (FB (wr.setCell ⟨g, j, none⟩ (.int .u8 ((nth M j ^^^ 255 : Nat)))) w4.heap.size f A4 c4) := Lib.hid (World.rowIs.setOther hG.out (a := ⟨g, j, none⟩) (show w4.heap.size ≠ g by have := hgw.out.1; have := h34.out; omega) _)
        have hg' := Lib.hid (own_set (j := j) hg.out hgw.out.1 (.int .u8 ((nth M j ^^^ 255 : Nat))))
        clear hown hB hG hg hml
        generalize nth M j = y at *
        go_wp2
        go_roundw
        case rel => exact ⟨j + 1, _, by omega, by go_num, hst, hB', hG', hg'⟩
        case measure => simp [intOf]; omega
      · obtain rfl : j = L.length := by omega
        have hFr := Lib.hid (hF2.out.below hB.out)
        have hbr := Lib.hid (hb2.out.below hB.out)
        have hyr := Lib.hid (hy2.out.below hB.out)
        have hgr := Lib.hid (own_bl hg.out)
        have hWr := Lib.hid (trans0 hW2.out hB.out)
        clear hown hB hg
        go_wp2_with (fail)
        refine (awake_any wr).mono ?_
        rintro e w9 ⟨rfl, hB9⟩
        have hF9 := hFr.out.below hB9
        have hG9 := hG.out.below hB9
        obtain ⟨q0, q1, q2, q3, q4⟩ := hF9.cells
        obtain ⟨r0, r1, r2, r3, r4⟩ := hG9.cells
        have hb9 := Lib.hid (hbr.out.below hB9)
        have hy9 := Lib.hid (hyr.out.below hB9)
        have hg9 := Lib.hid (hgr.out.below hB9)
        have hW9 := Lib.hid (trans0 hWr.out hB9)
        clear hF9 hG9 hFr hbr hyr hgr hWr hB9 hG
        go_wp2_with (fail)
        refine (same_any A4 f.body.length c4 f.body A2 f.body.length c2 w9 hg9.out hy9.out).mono ?_
        rintro e w10 ⟨rfl, rfl⟩
        go_wp2_with (fail)
        refine (same_any A f.body.length c f.body A2 f.body.length c2 w9 hb9.out hy9.out).mono ?_
        rintro e w10 ⟨rfl, rfl⟩
        go_wp2
        go_ret
        exact ⟨rfl, hW9.out⟩
  · have hne : ((pkE f : Int) != 0) = true := by rw [bne_iff_ne]; omega
    clear hE ho3 hB3 hF2 hb2 hy2 hW2
    generalize pkE f = E at *
    go_wp2_with (fail)
    refine (awake_any w3).mono ?_
    rintro e w4 ⟨rfl, hB4⟩
    have hF4 := hF3.out.below hB4
    obtain ⟨q0, q1, q2, q3, q4⟩ := hF4.cells
    have hb4 := Lib.hid (hb3.out.below hB4)
    have hy4 := Lib.hid (hy3.out.below hB4)
    have hW4 := Lib.hid (trans0 hW3.out hB4)
    clear hB4 hF4 hF3 hb3 hy3 hW3
    go_wp2_with (fail)
    refine (same_any A f.body.length c f.body A2 f.body.length c2 w4 hb4.out hy4.out).mono ?_
    rintro e w5 ⟨rfl, rfl⟩
    go_wp2
    go_ret
    exact ⟨rfl, hW4.out⟩
end Go.Proofs.Ytganbpocpppabaa.fraN
