/- The contract of the document's own Pack where it makes a frame; two frames that are the same; awake. -/
import Derived.Test.YtgjgjnahdkoofaaFraG
namespace Go.Proofs.Ytgjgjnahdkoofaa.fraH
open Go.ChangeShapes Go.WideShapes Go.ChangeAt Go.RowKit Go.Deep
open numM numN rowA byt numA numB numC numD fraM fraB fraC fraD fraE fraG

/-- the four numbers behind a version, as a slice of the call's own -/
def nsV (v e s a : Nat) (body : List Nat) (i : Nat) : Value := .int .i64 ((nth (ns ⟨v, e, s, a, body⟩) i : Nat) : Int)
theorem nsrow (w : World) (v e s a : Nat) (body : List Nat) : (w.alloc (.cells #[.int .i64 e, .int .i64 s, .int .i64 a, .int .i64 body.length] 3)).rowIs w.heap.size 3 4 (nsV v e s a body) := by
  have h := World.rowIs_alloc w #[.int .i64 e, .int .i64 s, .int .i64 a, .int .i64 body.length] 3 (nsV v e s a body) (fun i hi => ?_)
  · exact h
  · have : i = 0 ∨ i = 1 ∨ i = 2 ∨ i = 3 := by simp at hi; omega
    rcases this with rfl | rfl | rfl | rfl <;> rfl
theorem le4_cells {S : Nat} (h : S < 4294967296) : ub (le4 S) = [.int .u8 ((S : Int) % 256), .int .u8 ((S : Int) / 256 % 256), .int .u8 ((S : Int) / 65536 % 256), .int .u8 ((S : Int) / 16777216)] := by
  have e : S / 16777216 % 256 = S / 16777216 := Nat.mod_eq_of_lt (by omega)
  simp [ub, le4, e]

/-- a row of bytes isn't a row of numbers -/
theorem own_ne {w : World} {base n b k : Nat} {v : Value} {l : List Nat} {f : Nat → Value} (h : byt.Own w base v n l) (hr : w.rowIs b 3 k f) : some b ≠ v.ownBlock := by
  intro e
  obtain ⟨cs, hc, -, -⟩ := hr
  rcases h.2.2.2.2 with ⟨rfl, _⟩ | ⟨g, cap, cur, rfl, _, hg, _⟩
  · cases e
  · have e1 : b = g := by simpa [Value.ownBlock] using e
    subst e1
    rw [hc] at hg
    simp at hg
set_option maxRecDepth 100000 in
set_option maxHeartbeats 1000000 in
theorem rpack_ok (v e s a : Nat) (body : List Nat) (A : Option Addr) (c : Nat) (w : World) (h1 : 1 ≤ (v : Int)) (h1' : (v : Int) ≤ 255) (h2' : (e : Int) ≤ 4294967295) (h3' : (s : Int) ≤ 4294967295) (h4' : (a : Int) ≤ 4294967295) (hl : body.length ≤ 1048576) (hb : BL w A body.length body) :
    Calls Try.prog 5 #[.agg (cf ⟨v, e, s, a, body⟩ A c)] w (Gives2 w (pk ⟨v, e, s, a, body⟩) 0) := by
  obtain ⟨i0, hi, hz0, hz1, hz2⟩ := info_parts bytes8
  have hBa := Lib.hid ((Below.refl w.heap.size w).alloc (Nat.le_refl _) (.cells (cf ⟨v, e, s, a, body⟩ A c) 26))
  have r0 := Lib.hid (cfrow w ⟨v, e, s, a, body⟩ A c)
  have hns := Lib.hid (fun k (h : k < 4) => ns_lt (v := v) (body := body) (show e ≤ 4294967295 by omega) (show s ≤ 4294967295 by omega) (show a ≤ 4294967295 by omega) hl h)
  have hv8 : (v : Int) < 256 := by omega
  replace hb := Lib.hid hb
  go_enter Try.func5, Try.ntmps5
  go_wp2
  have hWs : Hid ((w.alloc (.cells (cf ⟨v, e, s, a, body⟩ A c) 26)).heap.size = w.heap.size + 1) := Lib.hid (by simp)
  have ho1 := Own.made (w.alloc (.cells (cf ⟨v, e, s, a, body⟩ A c) 26)) (w.heap.size + 1) (by rw [hWs.out]; exact Nat.le_refl _) [v] (by intro c hc; simp at hc; omega) (by simp) #[.int .u8 v] rfl
  have hl1 := nsrow ((w.alloc (.cells (cf ⟨v, e, s, a, body⟩ A c) 26)).alloc (.cells #[.int .u8 v] 5)) v e s a body
  rw [nblk_alloc, hWs.out] at hl1
  rw [hWs.out] at ho1
  replace ho1 := Lib.hid (ho1.alloc (.cells #[.int .i64 e, .int .i64 s, .int .i64 a, .int .i64 body.length] 3))
  replace hl1 := Lib.hid hl1
  have hB1 : Hid (Below (w.heap.size + 1) (w.alloc (.cells (cf ⟨v, e, s, a, body⟩ A c) 26)) (((w.alloc (.cells (cf ⟨v, e, s, a, body⟩ A c) 26)).alloc (.cells #[.int .u8 v] 5)).alloc (.cells #[.int .i64 e, .int .i64 s, .int .i64 a, .int .i64 body.length] 3))) := Lib.hid (((Below.refl _ _).alloc (by simp) _).alloc (by simp) _)
  generalize w.alloc (.cells (cf ⟨v, e, s, a, body⟩ A c) 26) = W at *
  go_loopw [4, 6] (fun v' i wr => ∃ k : Nat, k ≤ 4 ∧ i = .int .i64 k ∧ Hid (Own wr (w.heap.size + 1) v' (1 + 4 * k) (hdk ⟨v, e, s, a, body⟩ k)) ∧ Hid (Below (w.heap.size + 1) W wr) ∧ Hid (wr.rowIs (w.heap.size + 1 + 1) 3 4 (nsV v e s a body))) (fun _ i _ => 4 - (intOf i).toNat)
  case atStart => exact ⟨0, by omega, rfl, ho1, hB1, hl1⟩
  case round =>
    clear ho1 hB1 hl1
    obtain ⟨k, hk, rfl, hown, hB, hrow⟩ := hrel
    have hsr := Lib.hid (show w.heap.size + 1 ≤ wr.heap.size by have := hB.out.size; rw [hWs.out] at this; exact this)
    by_cases hlt : k < 4
    · have hck : wr.cell? ⟨w.heap.size + 1 + 1, k, none⟩ = some (.int .i64 ((nth (ns ⟨v, e, s, a, body⟩) k : Nat) : Int)) := hrow.out.cell hlt
      have hnk := hns.out k hlt
      have hst := Lib.hid (hdk_step ⟨v, e, s, a, body⟩ hlt)
      generalize nth (ns ⟨v, e, s, a, body⟩) k = x at *
      have hwx := wrap64_nat x (by omega)
      go_wp2_with (fail)
      refine (rfixed4 x wr hnk).mono ?_
      rintro e9 w3 ⟨A3, c3, rfl, hb3, hB3⟩
      have hrow3 := Lib.hid (hrow.out.of_block (hB3.block _ hrow.out.lt))
      have ho3 := Lib.hid (Own.below hown.out hB3 (Nat.le_refl _))
      have hB4 := Lib.hid (hB.out.trans (hB3.mono hsr.out))
      have hs3 := Lib.hid (show w.heap.size + 1 ≤ w3.heap.size by have := hB3.size; have := hsr.out; omega)
      replace hb3 := Lib.hid hb3
      clear hown hB hB3 hck hwx hrow
      go_wp2_with (at_builtin; (refine wpList_app rfl _ _ 23 rfl (w.heap.size + 1) i0 Try.underlying23 hi hz0 hz1 hz2 _ (1 + 4 * k) (hdk ⟨v, e, s, a, body⟩ k) rfl ho3.out A3 4 c3 (fx 4 x) rfl hb3.out ?e1 ?e2 ?_))
      case e1 => omega
      case e2 => exact hs3.out
      intro v4 w4 hown4 hgrow4
      rw [hst.out] at hown4
      replace hown4 := Lib.hid hown4
      have hB5 := Lib.hid (Own.grown ho3.out hB4.out hgrow4 hs3.out)
      have hrow4 := Lib.hid (hrow3.out.of_block (hgrow4.block _ hrow3.out.lt (own_ne ho3.out hrow3.out)))
      clear hgrow4 ho3 hB4 hrow3
      go_wp2
      go_roundw
      case rel => exact ⟨k + 1, by omega, by go_num, by have := hown4; rw [show 1 + 4 * (k + 1) = 1 + 4 * k + 4 by omega]; exact this, hB5, hrow4⟩
      case measure => simp [intOf]; omega
    · obtain rfl : k = 4 := by omega
      have rr := Lib.hid (r0.out.of_block (hB.out.block w.heap.size (by omega)))
      have k4 : wr.cell? ⟨w.heap.size, 4, none⟩ = some (.slice A body.length c) := rr.out.cell (i := 4) (by omega)
      have hbr := Lib.hid (hb.out.below (hBa.out.trans (hB.out.mono (by omega))))
      go_wp2_with (at_builtin; (refine wpList_app rfl _ _ 23 rfl (w.heap.size + 1) i0 Try.underlying23 hi hz0 hz1 hz2 _ 17 (hdk ⟨v, e, s, a, body⟩ 4) rfl hown.out A body.length c body rfl hbr.out ?g1 ?g2 ?_))
      case g1 => omega
      case g2 => exact hsr.out
      intro v4 w4 hown4 hgrow4
      have hB4 := Lib.hid (Own.grown hown.out hB.out hgrow4 hsr.out)
      have hrl := raw_len ⟨v, e, s, a, body⟩
      change Own w4 (w.heap.size + 1) v4 (17 + body.length) (raw ⟨v, e, s, a, body⟩) at hown4
      obtain ⟨A4, c4, rfl, q1, q2, q3, q4, hb4⟩ := hown4.form
      have hcr := crc_lt (l := raw ⟨v, e, s, a, body⟩) hown4.2.1
      generalize hR : raw ⟨v, e, s, a, body⟩ = R at *
      replace hown4 := Lib.hid hown4
      replace hb4 := Lib.hid hb4
      replace hR := Lib.hid hR
      have hs4 := Lib.hid (show w.heap.size + 1 ≤ w4.heap.size by have := hB4.out.size; rw [hWs.out] at this; exact this)
      have hlen := Lib.hid (show R.length = 17 + body.length from hrl)
      clear hgrow4 q1 q2 q3 q4 k4 hrl
      go_wp2_with (fail)
      refine (rsum_any A4 (17 + body.length) c4 R w4 hb4.out).mono ?_
      rintro e9 w5 ⟨rfl, rfl⟩
      have hpk : Hid (pk ⟨v, e, s, a, body⟩ = R ++ le4 (crc R)) := Lib.hid (by unfold pk; rw [hR.out])
      generalize crc R = S at *
      have hmd := Own.made w4 w4.heap.size (Nat.le_refl _) (le4 S) (le4_lt S) (by simp [le4]) #[.int .u8 ((S : Int) % 256), .int .u8 ((S : Int) / 256 % 256), .int .u8 ((S : Int) / 65536 % 256), .int .u8 ((S : Int) / 16777216)] (by rw [le4_cells hcr])
      have hmb : Hid (BL _ (some ⟨w4.heap.size, 0, none⟩) 4 (le4 S)) := Lib.hid (own_bl hmd)
      clear hmd
      go_wp2_with (at_builtin; (refine wpList_app rfl _ _ 23 rfl (w.heap.size + 1) i0 Try.underlying23 hi hz0 hz1 hz2 _ (17 + body.length) R rfl (hown4.out.alloc _) (some ⟨w4.heap.size, 0, none⟩) 4 4 (le4 S) rfl hmb.out ?m1 ?m2 ?_))
      case m1 => omega
      case m2 => have := hs4.out; simp; omega
      intro v6 w6 hown6 hgrow6
      have hB6 := Lib.hid (Own.grown (hown4.out.alloc (.cells #[.int .u8 ((S : Int) % 256), .int .u8 ((S : Int) / 256 % 256), .int .u8 ((S : Int) / 65536 % 256), .int .u8 ((S : Int) / 16777216)] 5)) (hB4.out.alloc hs4.out _) hgrow6 (by have := hs4.out; simp; omega))
      obtain ⟨A6, c6, rfl, -⟩ := hown6.form
      replace hown6 := Lib.hid hown6
      clear hgrow6 hcr
      go_wp2
      go_ret2
      rw [hpk.out]
      have hl6 : (R ++ le4 S).length = 17 + body.length + 4 := by rw [List.length_append, hlen.out]; rfl
      refine ⟨A6, c6, by rw [hl6]; rfl, ?_, hBa.out.trans (hB6.out.mono (by omega))⟩
      rw [hl6]
      exact hown6.out.more (by omega)

/-! ### Any frame -/
theorem pack_any (f : Fm) (A : Option Addr) (c : Nat) (w : World) (hb : BL w A f.body.length f.body) :
    Calls Try.prog 9 #[.agg (cf f A c)] w (Gives2 w (pkL f) (pkE f)) := by
  cases h : f.ok
  · have e1 : pkL f = [] := by unfold pkL; rw [h]; rfl
    have e2 : pkE f = 1 := by unfold pkE; rw [h]; rfl
    rw [e1, e2]; exact pack_arg f A c w h
  · by_cases hl : 1048576 < f.body.length
    · have e1 : pkL f = [] := by unfold pkL; rw [h, if_pos rfl, if_pos hl]
      have e2 : pkE f = 6 := by unfold pkE; rw [h, if_pos rfl, if_pos hl]
      rw [e1, e2]; exact pack_long f A c w h hl hb.2.1
    · have e1 : pkL f = pk f := by unfold pkL; rw [h, if_pos rfl, if_neg hl]
      have e2 : pkE f = 0 := by unfold pkE; rw [h, if_pos rfl, if_neg hl]
      rw [e1, e2]
      obtain ⟨⟨h1, h1'⟩, ⟨h2, h2'⟩, ⟨h3, h3'⟩, ⟨h4, h4'⟩⟩ := f.ok_iff.1 h
      obtain ⟨v, e, s, a, body⟩ := f
      simp only at *
      obtain ⟨v, rfl⟩ := Int.eq_ofNat_of_zero_le (show 0 ≤ v by omega)
      obtain ⟨e, rfl⟩ := Int.eq_ofNat_of_zero_le h2
      obtain ⟨s, rfl⟩ := Int.eq_ofNat_of_zero_le h3
      obtain ⟨a, rfl⟩ := Int.eq_ofNat_of_zero_le h4
      exact pack_ok v e s a body A c w h1 h1' h2' h3' h4' (by omega) hb
theorem rpack_any (f : Fm) (A : Option Addr) (c : Nat) (w : World) (hb : BL w A f.body.length f.body) :
    Calls Try.prog 5 #[.agg (cf f A c)] w (Gives2 w (pkL f) (pkE f)) := by
  cases h : f.ok
  · have e1 : pkL f = [] := by unfold pkL; rw [h]; rfl
    have e2 : pkE f = 1 := by unfold pkE; rw [h]; rfl
    rw [e1, e2]; exact rpack_arg f A c w h
  · by_cases hl : 1048576 < f.body.length
    · have e1 : pkL f = [] := by unfold pkL; rw [h, if_pos rfl, if_pos hl]
      have e2 : pkE f = 6 := by unfold pkE; rw [h, if_pos rfl, if_pos hl]
      rw [e1, e2]; exact rpack_long f A c w h hl hb.2.1
    · have e1 : pkL f = pk f := by unfold pkL; rw [h, if_pos rfl, if_neg hl]
      have e2 : pkE f = 0 := by unfold pkE; rw [h, if_pos rfl, if_neg hl]
      rw [e1, e2]
      obtain ⟨⟨h1, h1'⟩, ⟨h2, h2'⟩, ⟨h3, h3'⟩, ⟨h4, h4'⟩⟩ := f.ok_iff.1 h
      obtain ⟨v, e, s, a, body⟩ := f
      simp only at *
      obtain ⟨v, rfl⟩ := Int.eq_ofNat_of_zero_le (show 0 ≤ v by omega)
      obtain ⟨e, rfl⟩ := Int.eq_ofNat_of_zero_le h2
      obtain ⟨s, rfl⟩ := Int.eq_ofNat_of_zero_le h3
      obtain ⟨a, rfl⟩ := Int.eq_ofNat_of_zero_le h4
      exact rpack_ok v e s a body A c w h1 h1' h2' h3' h4' (by omega) hb

/-! ### Two frames that are the same -/
set_option maxRecDepth 100000 in
theorem same5 (f : Fm) (A : Option Addr) (c : Nat) (B : Option Addr) (d : Nat) (w : World) (h1 : BL w A f.body.length f.body) (h2 : BL w B f.body.length f.body) :
    Calls Try.prog 8 #[.agg (cf f A c), .agg (cf f B d)] w fun e w' => e = .returned (.bool true) ∧ Below w.heap.size w w' := by
  have hB2 : Below w.heap.size w ((w.alloc (.cells (cf f A c) 26)).alloc (.cells (cf f B d) 26)) := ((Below.refl _ _).alloc (Nat.le_refl _) _).alloc (by simp) _
  have e1 := run_str (P := Try.prog) 23 5 9 Try.underlying23 Try.underlying5 Try.underlying9 c (h1.below hB2)
  have e2 := run_str (P := Try.prog) 23 5 9 Try.underlying23 Try.underlying5 Try.underlying9 d (h2.below hB2)
  replace hB2 := Lib.hid hB2
  clear h1 h2
  go_enter Try.func8, Try.ntmps8
  go_wp2
  go_ret
  exact ⟨rfl, hB2.out⟩

/-! ### The document's first answer -/
set_option maxRecDepth 100000 in
theorem awake_any (w : World) : Calls Try.prog 4 #[] w fun e w' => e = .returned (.bool true) ∧ Below w.heap.size w w' := by
  have hp := Lib.hid (pack_any ⟨1, 0, 0, 0, []⟩ none 0 w (BL.none_ _ _))
  have hl : pkL ⟨1, 0, 0, 0, []⟩ = pk ⟨1, 0, 0, 0, []⟩ := by rfl
  have hn := pk_len ⟨1, 0, 0, 0, []⟩
  have hv := pk_v ⟨1, 0, 0, 0, []⟩ []
  rw [List.append_nil] at hv
  rw [hl] at hp
  generalize pk ⟨1, 0, 0, 0, []⟩ = R at *
  replace hn := Lib.hid hn
  replace hv := Lib.hid hv
  clear hl
  go_enter Try.func4, Try.ntmps4
  go_wp2_with (fail)
  refine hp.out.mono ?_
  rintro e w1 ⟨A, c, rfl, ho, hB⟩
  have hn21 : R.length = 21 := hn.out
  rw [hn21] at ho ⊢
  obtain ⟨b, off, rfl, hc⟩ := (own_bl ho).at (show 0 < 21 by omega)
  rw [Nat.add_zero, hv.out] at hc
  have hc' : w1.cell? ⟨b, off, none⟩ = some (.int .u8 1) := hc
  replace hB := Lib.hid hB
  clear ho hc hn21
  go_wp2
  go_ret
  exact ⟨rfl, hB.out⟩
end Go.Proofs.Ytgjgjnahdkoofaa.fraH
