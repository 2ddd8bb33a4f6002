/- The contracts of Pack, in the program and in the document's own answer, and of two frames that are the same. -/
import Derived.Test.YtgjgjnahdkoofaaFraE
namespace Go.Proofs.Ytgjgjnahdkoofaa.fraG
open Go.ChangeShapes Go.WideShapes Go.ChangeAt Go.RowKit Go.Deep
open numM numN rowA byt numA numB numC numD fraM fraB fraC fraD fraE

/-- What Pack answers: bytes of the call's own, and an error's number. -/
def Gives2 (w : World) (l : List Nat) (err : Nat) (e : Ending) (w' : World) : Prop :=
  ∃ A cap, e = .returned (.tuple #[.slice A l.length cap, .int .i64 err]) ∧ Own w' w.heap.size (.slice A l.length cap) l.length l ∧ Below w.heap.size w w'
theorem gives2_none {w w' : World} {err : Nat} (hB : Below w.heap.size w w') : Gives2 w [] err (.returned (.tuple #[.slice none 0 0, .int .i64 err])) w' := ⟨none, 0, rfl, Own.nil_ w' _, hB⟩

theorem index_ns (v e s a : Nat) (body : List Nat) (k : Nat) (h : k < 4) (w : World) :
    (Instr.index 46 (.agg #[.int .i64 e, .int .i64 s, .int .i64 a, .int .i64 body.length]) (.int .i64 k)).run Try.prog w = .ok (.int .i64 ((nth (ns ⟨v, e, s, a, body⟩) k : Nat) : Int)) w := by
  rw [index4 e s a body.length k h w]
  obtain rfl | rfl | rfl | rfl : k = 0 ∨ k = 1 ∨ k = 2 ∨ k = 3 := by omega
  all_goals rfl
theorem ns_lt {v e s a : Nat} {body : List Nat} (he : e ≤ 4294967295) (hs : s ≤ 4294967295) (ha : a ≤ 4294967295) (hl : body.length ≤ 1048576) {k : Nat} (h : k < 4) : nth (ns ⟨v, e, s, a, body⟩) k < 4294967296 := by
  obtain rfl | rfl | rfl | rfl : k = 0 ∨ k = 1 ∨ k = 2 ∨ k = 3 := by omega
  · show (e : Int).toNat < _; omega
  · show (s : Int).toNat < _; omega
  · show (a : Int).toNat < _; omega
  · show body.length < _; omega
/-- four bytes of a number, as what calls answer -/
def Four (w : World) (n : Nat) (e : Ending) (w' : World) : Prop := ∃ A c, e = .returned (.tuple #[.slice A 4 c, .int .i64 0]) ∧ BL w' A 4 (fx 4 n) ∧ Below w.heap.size w w'
theorem four_of {w w' : World} {n : Nat} {e : Ending} (h : Makes2 w (fx 4 n) e w') : Four w n e w' := by
  obtain ⟨A, c, rfl, ho, hB⟩ := h
  rw [fx_len] at ho ⊢
  exact ⟨A, c, rfl, own_bl ho, hB⟩
theorem fixed4 (n : Nat) (w : World) (hn : n < 4294967296) :
    Calls Try.prog 18 #[.int .u64 n, .int .i64 4] w (Four w n) := (fixed_ok n 4 w (by omega) (by omega) (by simpa using hn)).mono fun _ _ h => four_of h
theorem rfixed4 (n : Nat) (w : World) (hn : n < 4294967296) :
    Calls Try.prog 10 #[.int .u64 n, .int .i64 4] w (Four w n) :=
  (rfixed n 4 w (by omega) (by omega) (by omega)).mono fun _ _ h => four_of (h.1 (by simpa using hn))

set_option maxRecDepth 100000 in
theorem pack_arg (f : Fm) (A : Option Addr) (c : Nat) (w : World) (h : f.ok = false) :
    Calls Try.prog 9 #[.agg (cf f A c)] w (Gives2 w [] 1) := by
  have hn : ¬ ((1 ≤ f.v ∧ f.v ≤ 255) ∧ (0 ≤ f.e ∧ f.e ≤ 4294967295) ∧ (0 ≤ f.s ∧ f.s ≤ 4294967295) ∧ (0 ≤ f.a ∧ f.a ≤ 4294967295)) := fun q => by rw [f.ok_iff.2 q] at h; cases h
  obtain ⟨v, e, s, a, body⟩ := f
  simp only at hn
  clear h
  by_cases h1 : 1 ≤ v ∧ v ≤ 255
  · by_cases h2 : 0 ≤ e ∧ e ≤ 4294967295
    · by_cases h3 : 0 ≤ s ∧ s ≤ 4294967295
      · have h4 : a < 0 ∨ 4294967295 < a := by omega
        replace hn := Lib.hid h4
        clear h4
        obtain ⟨h1, h1'⟩ := h1
        obtain ⟨h2, h2'⟩ := h2
        obtain ⟨h3, h3'⟩ := h3
        go_enter Try.func9, Try.ntmps9
        go_wp2_with (first | (go_at_call 16; ((with_reducible refine (isv_yes _ _ h1 h1').mono ?_); rintro e w' ⟨rfl, rfl⟩)) | (go_at_call 17; ((with_reducible refine (isn_yes e _ h2 h2').mono ?_); rintro e w' ⟨rfl, rfl⟩)) | (go_at_call 17; ((with_reducible refine (isn_yes s _ h3 h3').mono ?_); rintro e w' ⟨rfl, rfl⟩)) | (go_at_call 17; ((with_reducible refine (isn_no a _ hn.out).mono ?_); rintro e w' ⟨rfl, rfl⟩)))
        go_ret2
        exact gives2_none ((Below.refl _ _).alloc (Nat.le_refl _) _)
      · replace hn : Hid (s < 0 ∨ 4294967295 < s) := Lib.hid (by omega)
        obtain ⟨h1, h1'⟩ := h1
        obtain ⟨h2, h2'⟩ := h2
        clear h3
        go_enter Try.func9, Try.ntmps9
        go_wp2_with (first | (go_at_call 16; ((with_reducible refine (isv_yes _ _ h1 h1').mono ?_); rintro e w' ⟨rfl, rfl⟩)) | (go_at_call 17; ((with_reducible refine (isn_yes e _ h2 h2').mono ?_); rintro e w' ⟨rfl, rfl⟩)) | (go_at_call 17; ((with_reducible refine (isn_no s _ hn.out).mono ?_); rintro e w' ⟨rfl, rfl⟩)))
        go_ret2
        exact gives2_none ((Below.refl _ _).alloc (Nat.le_refl _) _)
    · replace hn : Hid (e < 0 ∨ 4294967295 < e) := Lib.hid (by omega)
      obtain ⟨h1, h1'⟩ := h1
      clear h2
      go_enter Try.func9, Try.ntmps9
      go_wp2_with (first | (go_at_call 16; ((with_reducible refine (isv_yes _ _ h1 h1').mono ?_); rintro e w' ⟨rfl, rfl⟩)) | (go_at_call 17; ((with_reducible refine (isn_no e _ hn.out).mono ?_); rintro e w' ⟨rfl, rfl⟩)))
      go_ret2
      exact gives2_none ((Below.refl _ _).alloc (Nat.le_refl _) _)
  · replace hn : Hid (v < 1 ∨ 255 < v) := Lib.hid (by omega)
    clear h1
    go_enter Try.func9, Try.ntmps9
    go_wp2_with ((go_at_call 16; ((with_reducible refine (isv_no _ _ hn.out).mono ?_); rintro e w' ⟨rfl, rfl⟩)))
    go_ret2
    exact gives2_none ((Below.refl _ _).alloc (Nat.le_refl _) _)

set_option maxRecDepth 100000 in
theorem pack_long (f : Fm) (A : Option Addr) (c : Nat) (w : World) (h : f.ok = true) (hl : 1048576 < f.body.length) (hl9 : f.body.length ≤ 9223372036854775807) :
    Calls Try.prog 9 #[.agg (cf f A c)] w (Gives2 w [] 6) := by
  obtain ⟨⟨h1, h1'⟩, ⟨h2, h2'⟩, ⟨h3, h3'⟩, ⟨h4, h4'⟩⟩ := f.ok_iff.1 h
  obtain ⟨v, e, s, a, body⟩ := f
  simp only at h1 h1' h2 h2' h3 h3' h4 h4' hl hl9
  clear h
  go_enter Try.func9, Try.ntmps9
  go_wp2_with (first | (go_at_call 16; ((with_reducible refine (isv_yes _ _ h1 h1').mono ?_); rintro e w' ⟨rfl, rfl⟩)) | (go_at_call 17; ((with_reducible refine (isn_yes e _ h2 h2').mono ?_); rintro e w' ⟨rfl, rfl⟩)) | (go_at_call 17; ((with_reducible refine (isn_yes s _ h3 h3').mono ?_); rintro e w' ⟨rfl, rfl⟩)) | (go_at_call 17; ((with_reducible refine (isn_yes a _ h4 h4').mono ?_); rintro e w' ⟨rfl, rfl⟩)))
  go_ret2
  exact gives2_none ((Below.refl _ _).alloc (Nat.le_refl _) _)

set_option maxRecDepth 100000 in
theorem pack_ok (v e s a : Nat) (body : List Nat) (A : Option Addr) (c : Nat) (w : World) (h1 : 1 ≤ (v : Int)) (h1' : (v : Int) ≤ 255) (h2' : (e : Int) ≤ 4294967295) (h3' : (s : Int) ≤ 4294967295) (h4' : (a : Int) ≤ 4294967295) (hl : body.length ≤ 1048576) (hb : BL w A body.length body) :
    Calls Try.prog 9 #[.agg (cf ⟨v, e, s, a, body⟩ A c)] w (Gives2 w (pk ⟨v, e, s, a, body⟩) 0) := by
  obtain ⟨i0, hi, hz0, hz1, hz2⟩ := info_parts bytes8
  have hBa := Lib.hid ((Below.refl w.heap.size w).alloc (Nat.le_refl _) (.cells (cf ⟨v, e, s, a, body⟩ A c) 26))
  have r0 := Lib.hid (cfrow w ⟨v, e, s, a, body⟩ A c)
  have hns := Lib.hid (fun k (h : k < 4) => ns_lt (v := v) (body := body) (show e ≤ 4294967295 by omega) (show s ≤ 4294967295 by omega) (show a ≤ 4294967295 by omega) hl h)
  have hv8 : (v : Int) < 256 := by omega
  replace hb := Lib.hid hb
  have hidx := Lib.hid (fun k h w => index_ns v e s a body k h w)
  go_enter Try.func9, Try.ntmps9
  go_wp2_with (first | (go_at_call 16; ((with_reducible refine (isv_yes _ _ h1 h1').mono ?_); rintro e w' ⟨rfl, rfl⟩)) | (go_at_call 17; ((with_reducible refine (isn_yes (e : Int) _ (Int.natCast_nonneg _) h2').mono ?_); rintro e w' ⟨rfl, rfl⟩)) | (go_at_call 17; ((with_reducible refine (isn_yes (s : Int) _ (Int.natCast_nonneg _) h3').mono ?_); rintro e w' ⟨rfl, rfl⟩)) | (go_at_call 17; ((with_reducible refine (isn_yes (a : Int) _ (Int.natCast_nonneg _) h4').mono ?_); rintro e w' ⟨rfl, rfl⟩)) | (at_make; refine wpList_make_own _ rfl _ _ 23 rfl (w.heap.size + 1) 5 i0 (.int .u8 0) 1 Try.underlying23 hi hz0 hz1 .i64 .i64 _ (17 + body.length + 4) rfl rfl (by omega) ?c1 ?c2 ?c3 ?_))
  case c1 => rw [hz2]; omega
  case c2 => unfold maxLen; omega
  case c3 => simp
  intro w1 hown1 hgrow
  have hWs : Hid ((w.alloc (.cells (cf ⟨v, e, s, a, body⟩ A c) 26)).heap.size = w.heap.size + 1) := Lib.hid (by simp)
  generalize w.alloc (.cells (cf ⟨v, e, s, a, body⟩ A c) 26) = W at *
  have hBg := Lib.hid ((Below.refl (w.heap.size + 1) W).grown hgrow (by rw [hWs.out]; exact Nat.le_refl _) (fun k e => by cases e))
  have r1 := Lib.hid (r0.out.of_block (hBg.out.block w.heap.size (by omega)))
  have ho1 : Hid (Own w1 (w.heap.size + 1) (.slice (some ⟨w.heap.size + 1, 0, none⟩) 0 (17 + body.length + 4)) 0 []) := Lib.hid ⟨rfl, by simp, by omega, hown1⟩
  clear hown1 hgrow
  have hs1 := Lib.hid (show w.heap.size + 1 ≤ w1.heap.size by have := hBg.out.size; rw [hWs.out] at this; exact this)
  have k0 : w1.cell? ⟨w.heap.size, 0, none⟩ = some (.int .i64 v) := r1.out.cell (i := 0) (by omega)
  have hone := one_byte w1 v (by omega)
  replace hone := Lib.hid hone
  go_wp2_with (at_builtin; (refine wpList_app rfl _ _ 23 rfl (w.heap.size + 1) i0 Try.underlying23 hi hz0 hz1 hz2 _ 0 [] rfl (ho1.out.alloc _) (some ⟨w1.heap.size, 0, none⟩) 1 1 [v] rfl hone.out ?d1 ?d2 ?_))
  case d1 => omega
  case d2 => have := hs1.out; simp; omega
  intro v2 w2 hown2 hgrow2
  have hB2 := Lib.hid (Own.grown (ho1.out.alloc (.cells #[.int .u8 v] 5)) (hBg.out.alloc hs1.out (.cells #[.int .u8 v] 5)) hgrow2 (by have := hs1.out; simp; omega))
  have hown2' : Hid (Own w2 (w.heap.size + 1) v2 (1 + 4 * 0) (hdk ⟨v, e, s, a, body⟩ 0)) := Lib.hid hown2
  have r2 := Lib.hid (r0.out.of_block (hB2.out.block w.heap.size (by omega)))
  clear hown2 hgrow2 hone k0 ho1 hBg r1 hs1
  have k1 : w2.cell? ⟨w.heap.size, 1, none⟩ = some (.int .i64 e) := r2.out.cell (i := 1) (by omega)
  have k2 : w2.cell? ⟨w.heap.size, 2, none⟩ = some (.int .i64 s) := r2.out.cell (i := 2) (by omega)
  have k3 : w2.cell? ⟨w.heap.size, 3, none⟩ = some (.int .i64 a) := r2.out.cell (i := 3) (by omega)
  have k4 : w2.cell? ⟨w.heap.size, 4, none⟩ = some (.slice A body.length c) := r2.out.cell (i := 4) (by omega)
  go_wp2
  go_loopw [4, 57] (fun v' i wr => ∃ k : Nat, k ≤ 4 ∧ i = .int .i64 k ∧ Hid (Own wr (w.heap.size + 1) v' (1 + 4 * k) (hdk ⟨v, e, s, a, body⟩ k)) ∧ Hid (Below (w.heap.size + 1) W wr)) (fun _ i _ => 4 - (intOf i).toNat)
  case atStart => exact ⟨0, by omega, rfl, hown2', hB2⟩
  case round =>
    clear k1 k2 k3 k4 hown2' hB2 r2
    obtain ⟨k, hk, rfl, hown, hB⟩ := hrel
    have hsr := Lib.hid (show w.heap.size + 1 ≤ wr.heap.size by have := hB.out.size; rw [hWs.out] at this; exact this)
    by_cases hlt : k < 4
    · have hix := hidx.out k hlt
      have hnk := hns.out k hlt
      have hst := Lib.hid (hdk_step ⟨v, e, s, a, body⟩ hlt)
      generalize nth (ns ⟨v, e, s, a, body⟩) k = x at *
      have hwx := wrap64_nat x (by omega)
      go_wp2_with (fail)
      refine (fixed4 x wr hnk).mono ?_
      rintro e9 w3 ⟨A3, c3, rfl, hb3, hB3⟩
      have ho3 := Lib.hid (Own.below hown.out hB3 (Nat.le_refl _))
      have hB4 := Lib.hid (hB.out.trans (hB3.mono hsr.out))
      have hs3 := Lib.hid (show w.heap.size + 1 ≤ w3.heap.size by have := hB3.size; have := hsr.out; omega)
      replace hb3 := Lib.hid hb3
      clear hown hB hB3 hix hwx
      go_wp2_with (at_builtin; (refine wpList_app rfl _ _ 23 rfl (w.heap.size + 1) i0 Try.underlying23 hi hz0 hz1 hz2 _ (1 + 4 * k) (hdk ⟨v, e, s, a, body⟩ k) rfl ho3.out A3 4 c3 (fx 4 x) rfl hb3.out ?e1 ?e2 ?_))
      case e1 => omega
      case e2 => exact hs3.out
      intro v4 w4 hown4 hgrow4
      rw [hst.out] at hown4
      replace hown4 := Lib.hid hown4
      have hB5 := Lib.hid (Own.grown ho3.out hB4.out hgrow4 hs3.out)
      clear hgrow4 ho3 hB4
      go_wp2
      go_roundw
      case rel => exact ⟨k + 1, by omega, by go_num, by have := hown4; rw [show 1 + 4 * (k + 1) = 1 + 4 * k + 4 by omega]; exact this, hB5⟩
      case measure => simp [intOf]; omega
    · obtain rfl : k = 4 := by omega
      have rr := Lib.hid (r0.out.of_block (hB.out.block w.heap.size (by omega)))
      have k4 : wr.cell? ⟨w.heap.size, 4, none⟩ = some (.slice A body.length c) := rr.out.cell (i := 4) (by omega)
      have hbr := Lib.hid (hb.out.below (hBa.out.trans (hB.out.mono (by omega))))
      go_wp2_with (at_builtin; (refine wpList_app rfl _ _ 23 rfl (w.heap.size + 1) i0 Try.underlying23 hi hz0 hz1 hz2 _ 17 (hdk ⟨v, e, s, a, body⟩ 4) rfl hown.out A body.length c body rfl hbr.out ?g1 ?g2 ?_))
      case g1 => omega
      case g2 => exact hsr.out
      intro v4 w4 hown4 hgrow4
      have hB4 := Lib.hid (Own.grown hown.out hB.out hgrow4 hsr.out)
      have hrl := raw_len ⟨v, e, s, a, body⟩
      change Own w4 (w.heap.size + 1) v4 (17 + body.length) (raw ⟨v, e, s, a, body⟩) at hown4
      obtain ⟨A4, c4, rfl, q1, q2, q3, q4, hb4⟩ := hown4.form
      have hcr := crc_lt (l := raw ⟨v, e, s, a, body⟩) hown4.2.1
      generalize hR : raw ⟨v, e, s, a, body⟩ = R at *
      replace hown4 := Lib.hid hown4
      replace hb4 := Lib.hid hb4
      replace hR := Lib.hid hR
      have hs4 := Lib.hid (show w.heap.size + 1 ≤ w4.heap.size by have := hB4.out.size; rw [hWs.out] at this; exact this)
      have hlen := Lib.hid (show R.length = 17 + body.length from hrl)
      clear hgrow4 q1 q2 q3 q4 k4 hrl
      go_wp2_with (fail)
      refine (sum_any A4 (17 + body.length) c4 R w4 hb4.out).mono ?_
      rintro e9 w5 ⟨rfl, rfl⟩
      go_wp2_with (fail)
      refine (asum_any (crc R) _ R (w.heap.size + 1) w4 (by rw [hlen.out]; exact hown4.out) (by rw [hlen.out]; omega) hs4.out).mono ?_
      rintro e9 w6 ⟨A6, c6, rfl, ho6, hB6⟩
      have hB7 := Lib.hid (hB4.out.trans hB6)
      replace ho6 := Lib.hid ho6
      have hpk : Hid (pk ⟨v, e, s, a, body⟩ = R ++ le4 (crc R)) := Lib.hid (by unfold pk; rw [hR.out])
      clear hB6 hcr
      go_wp2
      go_ret2
      rw [hpk.out]
      have hl6 : (R ++ le4 (crc R)).length = R.length + 4 := by rw [List.length_append]; rfl
      refine ⟨A6, c6, by rw [hl6]; rfl, ?_, hBa.out.trans (hB7.out.mono (by omega))⟩
      rw [hl6]
      exact ho6.out.more (by omega)

/-! ### The document's own -/
set_option maxRecDepth 100000 in
set_option maxHeartbeats 2000000 in
theorem rpack_arg (f : Fm) (A : Option Addr) (c : Nat) (w : World) (h : f.ok = false) :
    Calls Try.prog 5 #[.agg (cf f A c)] w (Gives2 w [] 1) := by
  have hn : ¬ ((1 ≤ f.v ∧ f.v ≤ 255) ∧ (0 ≤ f.e ∧ f.e ≤ 4294967295) ∧ (0 ≤ f.s ∧ f.s ≤ 4294967295) ∧ (0 ≤ f.a ∧ f.a ≤ 4294967295)) := fun q => by rw [f.ok_iff.2 q] at h; cases h
  obtain ⟨v, e, s, a, body⟩ := f
  simp only at hn
  clear h
  have hs : v < 1 ∨ (1 ≤ v ∧ 255 < v) ∨ (1 ≤ v ∧ v ≤ 255 ∧ e < 0) ∨ (1 ≤ v ∧ v ≤ 255 ∧ 0 ≤ e ∧ 4294967295 < e) ∨ (1 ≤ v ∧ v ≤ 255 ∧ 0 ≤ e ∧ e ≤ 4294967295 ∧ s < 0) ∨ (1 ≤ v ∧ v ≤ 255 ∧ 0 ≤ e ∧ e ≤ 4294967295 ∧ 0 ≤ s ∧ 4294967295 < s) ∨
    (1 ≤ v ∧ v ≤ 255 ∧ 0 ≤ e ∧ e ≤ 4294967295 ∧ 0 ≤ s ∧ s ≤ 4294967295 ∧ a < 0) ∨ (1 ≤ v ∧ v ≤ 255 ∧ 0 ≤ e ∧ e ≤ 4294967295 ∧ 0 ≤ s ∧ s ≤ 4294967295 ∧ 0 ≤ a ∧ 4294967295 < a) := by omega
  clear hn
  rcases hs with h1 | ⟨h1, h2⟩ | ⟨h1, h2, h3⟩ | ⟨h1, h2, h3, h4⟩ | ⟨h1, h2, h3, h4, h5⟩ | ⟨h1, h2, h3, h4, h5, h6⟩ | ⟨h1, h2, h3, h4, h5, h6, h7⟩ | ⟨h1, h2, h3, h4, h5, h6, h7, h8⟩
  all_goals
    go_enter Try.func5, Try.ntmps5
    go_wp2
    all_goals (try (exfalso; omega))
    all_goals
      go_ret2
      exact gives2_none ((Below.refl _ _).alloc (Nat.le_refl _) _)

set_option maxRecDepth 100000 in
theorem rpack_long (f : Fm) (A : Option Addr) (c : Nat) (w : World) (h : f.ok = true) (hl : 1048576 < f.body.length) (hl9 : f.body.length ≤ 9223372036854775807) :
    Calls Try.prog 5 #[.agg (cf f A c)] w (Gives2 w [] 6) := by
  obtain ⟨⟨h1, h1'⟩, ⟨h2, h2'⟩, ⟨h3, h3'⟩, ⟨h4, h4'⟩⟩ := f.ok_iff.1 h
  obtain ⟨v, e, s, a, body⟩ := f
  simp only at h1 h1' h2 h2' h3 h3' h4 h4' hl hl9
  clear h
  go_enter Try.func5, Try.ntmps5
  go_wp2
  all_goals (try (exfalso; omega))
  go_ret2
  exact gives2_none ((Below.refl _ _).alloc (Nat.le_refl _) _)
end Go.Proofs.Ytgjgjnahdkoofaa.fraG
