/- WireBack. -/
import Derived.Test.YtkbhmeajgmecoaaWirOn
namespace Go.Proofs.Ytkbhmeajgmecoaa.wirBk
open Go.ChangeShapes Go.WideShapes Go.ChangeAt Go.RowKit Go.Deep
open numM numN rowA byt numA numB numC numD numE wirM wirA wirB wirD wirE wirF wirG wirH wirI wirJ wirK wirL wirN wirP wirQ wirR wirS wirT wirU wirV wirDa wirDb wirDc wirDd wirDe wirDf wirDg wirDh wirDi wirDj wirDk wirDl wirOn

theorem body_pos {v : Int} {m : Ms} (hv : v = 1 ∨ v = 2) (h : mok m) : 0 < (body v m).length := by
  rcases Nat.eq_zero_or_pos (body v m).length with h0 | h0
  · have e := List.eq_nil_of_length_eq_zero h0
    have hd := dec_enc v m hv h
    rw [e] at hd
    rcases hv with rfl | rfl
    · have : dec 1 [] = .error 2 := by rfl
      rw [this] at hd; cases hd
    · have : dec 2 [] = .error 2 := by rfl
      rw [this] at hd; cases hd
  · exact h0
theorem body_le {v : Int} {m : Ms} (h : mok m) : (body v m).length ≤ 1099511627776 := by
  unfold body
  split
  · exact elder_le m h.1
  · exact newer_le m (pts_le m h.1 (mok_fits h))
theorem own_dec {w : World} {base n c : Nat} {A : Option Addr} {l : List Nat} (h : Own w base (.slice A n c) n l) :
    BL w A n l ∧ n ≤ c ∧ c ≤ 9223372036854775807 ∧ (n = 0 ∨ A = none ∨ ∃ b off, A = some ⟨b, off, none⟩ ∧ b < w.heap.size) := by
  obtain ⟨_, _, e, h1, h2, _, _, hb⟩ := h.form
  cases e
  refine ⟨hb, h1, h2, ?_⟩
  rcases hb.2.2.2 with h0 | ⟨b, off, rfl, hlt, -⟩
  · exact .inl h0
  · exact .inr (.inr ⟨b, off, rfl, hlt⟩)
/-- Decode of a body -/
theorem dback (v : Int) (m : Ms) (A : Option Addr) (n c : Nat) (w : World) (hv : v = 1 ∨ v = 2) (hm : mok m) (hn : (body v m).length = n) (hb : BL w A n (body v m)) (hc : n ≤ c) (h9 : c ≤ 9223372036854775807) (hA : n = 0 ∨ A = none ∨ ∃ b off, A = some ⟨b, off, none⟩ ∧ b < w.heap.size) :
    Calls Try.prog 19 #[.int .i64 v, .slice A n c] w fun e w' => ∃ t, e = .returned (.tuple #[.agg (cm m t), .int .i64 0]) ∧ HM w' m t ∧ Below w.heap.size w w' := by
  subst hn
  have h := decode_any v A c (body v m) w hb hc h9 hA
  rw [dec_enc v m hv hm] at h
  exact h.mono fun e w' ⟨t, he, h1, h2, hB⟩ => ⟨t, he, hm_of hm h1 h2, hB⟩
/-- Decode of bytes that are no message -/
theorem dfail {k : Nat} (v : Int) (l : List Nat) (A : Option Addr) (n c : Nat) (w : World) (hd : dec v l = .error k) (hn : l.length = n) (hb : BL w A n l) (hc : n ≤ c) (h9 : c ≤ 9223372036854775807) (hA : n = 0 ∨ A = none ∨ ∃ b off, A = some ⟨b, off, none⟩ ∧ b < w.heap.size) :
    Calls Try.prog 19 #[.int .i64 v, .slice A n c] w fun e w' => e = .returned (.tuple #[.agg mz, .int .i64 k]) ∧ Below w.heap.size w w' := by
  subst hn
  have h := decode_any v A c l w hb hc h9 hA
  rw [hd] at h
  exact h
theorem less_err {v : Int} {m : Ms} (hv : v = 1 ∨ v = 2) (hm : mok m) (hb : ∀ c ∈ body v m, c < 256) : ∃ k, dec v ((body v m).take ((body v m).length - 1)) = .error k ∧ ((k : Int) == 0) = false := by
  rcases hd : dec v ((body v m).take ((body v m).length - 1)) with k | m'
  · exact ⟨k, rfl, by have := dec_nz hd; rw [beq_eq_false_iff_ne]; omega⟩
  · exact absurd hd (dec_less v m hv hm hb m')

set_option maxRecDepth 100000 in
set_option maxHeartbeats 1000000 in
theorem bk1 (m : Ms) (t : At) (more : Nat) (w : World) (h1 : 6000 < m.vers.length ∨ 6000 < m.vec.length) :
    Calls Try.prog 5 #[.agg (cm m t), .int .u8 more] w (Yes w) := by
  have hS := SM.new w m t
  have hB := Lib.hid (alloc_below w (.cells (cm m t) 28))
  replace h1 := Lib.hid h1
  obtain ⟨s0, s1, s2, s3, s4, s5, s6, s7, s8, s9, s10, s11, s12, s13, s14⟩ := hS
  go_enter Try.func5, Try.ntmps5
  go_wp2_with (fail)
  refine (great_yes m t _ h1.out).mono ?_
  rintro e w1 ⟨rfl, hB1⟩
  go_wp2_with (fail)
  refine (wirN.awake_any _).mono ?_
  rintro e w2 ⟨rfl, hB2⟩
  go_wp2
  go_ret
  exact ⟨rfl, trans0 (trans0 hB.out hB1) hB2⟩
set_option maxRecDepth 100000 in
set_option maxHeartbeats 1000000 in
theorem bk2 (m : Ms) (t : At) (more : Nat) (w : World) (ha : HM w m t) (h1 : m.vers.length ≤ 6000 ∧ m.vec.length ≤ 6000) (h3 : ¬ chk m = 0) :
    Calls Try.prog 5 #[.agg (cm m t), .int .u8 more] w (Yes w) := by
  have hne : ((chk m : Int) != 0) = true := by rw [bne_iff_ne]; omega
  clear h3
  replace h1 := Lib.hid h1
  have hS := Lib.hid (SM.new w m t)
  have hB := Lib.hid (alloc_below w (.cells (cm m t) 28))
  replace ha := Lib.hid (ha.below hB.out)
  go_enter Try.func5, Try.ntmps5
  go_upto_region 1 with fail
  generalize w.alloc (.cells (cm m t) 28) = W at *
  obtain ⟨s0, s1, s2, s3, s4, s5, s6, s7, s8, s9, s10, s11, s12, s13, s14⟩ := hS.out
  go_wp2_with (fail)
  refine (great_no m t _ h1.out.1 h1.out.2).mono ?_
  rintro e w1a ⟨rfl, hB1a⟩
  replace hS := Lib.hid (hS.out.below hB1a)
  replace ha := Lib.hid (ha.out.below hB1a)
  replace hB := Lib.hid (trans0 hB.out hB1a)
  clear s0 s1 s2 s3 s4 s5 s6 s7 s8 s9 s10 s11 s12 s13 s14 hB1a
  obtain ⟨s0, s1, s2, s3, s4, s5, s6, s7, s8, s9, s10, s11, s12, s13, s14⟩ := hS.out
  go_wp2_with (fail)
  refine (check_any m t _ ha.out).mono ?_
  rintro e w1c ⟨rfl, hB1c⟩
  replace hB := Lib.hid (trans0 hB.out hB1c)
  clear s0 s1 s2 s3 s4 s5 s6 s7 s8 s9 s10 s11 s12 s13 s14 hB1c
  go_wp2_with (fail)
  refine (wirN.awake_any _).mono ?_
  rintro e w9 ⟨rfl, hB9⟩
  go_wp2
  go_ret
  exact ⟨rfl, trans0 hB.out hB9⟩
set_option maxRecDepth 100000 in
set_option maxHeartbeats 4000000 in
theorem bk3 (m : Ms) (t : At) (more : Nat) (w : World) (ha : HM w m t) (hmore : more < 256) (h1 : m.vers.length ≤ 6000 ∧ m.vec.length ≤ 6000) (h3 : chk m = 0) :
    Calls Try.prog 5 #[.agg (cm m t), .int .u8 more] w (Yes w) := by
  obtain ⟨i0, hi, hz0, hz1, hz2⟩ := info_parts bytes8
  replace h1 := Lib.hid h1
  have hm := Lib.hid (mok_of ha h3)
  replace h3 := Lib.hid h3
  replace hmore := Lib.hid hmore
  have hS := Lib.hid (SM.new w m t)
  have hB := Lib.hid (alloc_below w (.cells (cm m t) 28))
  replace ha := Lib.hid (ha.below hB.out)
  go_enter Try.func5, Try.ntmps5
  go_upto_region 1 with fail
  generalize w.alloc (.cells (cm m t) 28) = W at *
  obtain ⟨s0, s1, s2, s3, s4, s5, s6, s7, s8, s9, s10, s11, s12, s13, s14⟩ := hS.out
  go_wp2_with (fail)
  refine (great_no m t _ h1.out.1 h1.out.2).mono ?_
  rintro e w1a ⟨rfl, hB1a⟩
  replace hS := Lib.hid (hS.out.below hB1a)
  replace ha := Lib.hid (ha.out.below hB1a)
  replace hB := Lib.hid (trans0 hB.out hB1a)
  clear s0 s1 s2 s3 s4 s5 s6 s7 s8 s9 s10 s11 s12 s13 s14 hB1a
  obtain ⟨s0, s1, s2, s3, s4, s5, s6, s7, s8, s9, s10, s11, s12, s13, s14⟩ := hS.out
  go_wp2_with (fail)
  refine (chk0 m t _ ha.out h3.out).mono ?_
  rintro e w1c ⟨rfl, hB1c⟩
  replace hS := Lib.hid (hS.out.below hB1c)
  replace ha := Lib.hid (ha.out.below hB1c)
  replace hB := Lib.hid (trans0 hB.out hB1c)
  clear s0 s1 s2 s3 s4 s5 s6 s7 s8 s9 s10 s11 s12 s13 s14 hB1c h1
  go_wp2_with (fail)
  go_loopw [5] (fun i wr => ∃ v : Int, (v = 1 ∨ v = 2 ∨ v = 3) ∧ i = .int .i64 v ∧ Hid (Below w1c.heap.size w1c wr)) (fun i _ => (3 - intOf i).toNat)
  case atStart => exact ⟨1, .inl rfl, rfl, Lib.hid (Below.refl _ _)⟩
  case round =>
    obtain ⟨v, hv, rfl, hBr⟩ := hrel
    replace hS := Lib.hid (hS.out.below hBr.out)
    replace ha := Lib.hid (ha.out.below hBr.out)
    replace hB := Lib.hid (trans0 hB.out hBr.out)
    by_cases h9 : v = 3
    · subst h9
      go_wp2_with (fail)
      refine (wirN.awake_any _).mono ?_
      rintro e w9 ⟨rfl, hB9⟩
      go_wp2
      go_ret
      exact ⟨rfl, trans0 hB.out hB9⟩
    · have hv2 : v = 1 ∨ v = 2 := by omega
      clear h9 hv
      have hle : decide (v ≤ 2) = true := decide_eq_true (by omega)
      have hadd : IntKind.i64.wrap (v + 1) = v + 1 := by rcases hv2 with rfl | rfl <;> rfl
      have hm9 : (3 - (v + 1)).toNat < (3 - v).toNat := by omega
      have hv3 : v + 1 = 1 ∨ v + 1 = 2 ∨ v + 1 = 3 := by omega
      replace hm9 := Lib.hid hm9
      replace hv3 := Lib.hid hv3
      have hpos := body_pos hv2 hm.out
      have hbl := body_le (v := v) hm.out
      replace hv2 := Lib.hid hv2
      obtain ⟨s0, s1, s2, s3, s4, s5, s6, s7, s8, s9, s10, s11, s12, s13, s14⟩ := hS.out
      go_wp2_with (fail)
      refine (enc_ok v m t _ ha.out hv2.out h3.out).mono ?_
      rintro e x1 ⟨A, c1, rfl, ho, hB1⟩
      obtain ⟨hl, hc, hc9, hA⟩ := own_dec ho
      replace hl := Lib.hid hl
      have hmr := Lib.hid (dec_more v m hv2.out hm.out more)
      obtain ⟨kk, hkk, hk0⟩ := less_err hv2.out hm.out hl.out.lt
      replace hkk := Lib.hid hkk
      have hd1 := Lib.hid (dback v m A _ c1 x1 hv2.out hm.out rfl hl.out hc hc9 hA)
      replace hS := Lib.hid (hS.out.below hB1)
      replace ha := Lib.hid (ha.out.below hB1)
      replace hB := Lib.hid (trans0 hB.out hB1)
      replace hBr := Lib.hid (trans0 hBr.out hB1)
      have hAx : ∀ w' : World, Below x1.heap.size x1 w' → ((body v m).length - 1 = 0 ∨ A = none ∨ ∃ b off, A = some ⟨b, off, none⟩ ∧ b < w'.heap.size) := fun w' hw => hA.elim (fun h => .inl (by omega)) fun h => .inr (h.imp id fun ⟨b, off, e, hlt⟩ => ⟨b, off, e, by have := hw.size; omega⟩)
      replace hAx := Lib.hid hAx
      clear s0 s1 s2 s3 s4 s5 s6 s7 s8 s9 s10 s11 s12 s13 s14 hB1 ho hA
      generalize hL : body v m = L at *
      generalize hN : L.length = n at *
      replace hL := Lib.hid hL
      replace hN := Lib.hid hN
      go_wp2_with (fail)
      refine hd1.out.mono ?_
      rintro e x2 ⟨u, rfl, hu, hB1⟩
      have hB2 := trans0 hB1 (alloc_below x2 (.cells (cm m u) 28))
      have hT := Lib.hid (SM.new x2 m u)
      replace hu := Lib.hid (hu.below (alloc_below x2 (.cells (cm m u) 28)))
      replace hl := Lib.hid (hl.out.below hB2)
      replace hS := Lib.hid (hS.out.below hB2)
      replace ha := Lib.hid (ha.out.below hB2)
      replace hB := Lib.hid (trans0 hB.out hB2)
      replace hBr := Lib.hid (trans0 hBr.out hB2)
      replace hAx : Hid (∀ w' : World, Below (x2.alloc (.cells (cm m u) 28)).heap.size (x2.alloc (.cells (cm m u) 28)) w' → (n - 1 = 0 ∨ A = none ∨ ∃ b off, A = some ⟨b, off, none⟩ ∧ b < w'.heap.size)) := Lib.hid fun w' hw => hAx.out w' (trans0 hB2 hw)
      clear hB1 hB2 hd1
      have hn0 : ((n : Int) == 0) = false := by rw [beq_eq_false_iff_ne]; omega
      obtain ⟨s0, s1, s2, s3, s4, s5, s6, s7, s8, s9, s10, s11, s12, s13, s14⟩ := hS.out
      obtain ⟨r0, r1, r2, r3, r4, r5, r6, r7, r8, r9, r10, r11, r12, r13, r14⟩ := hT.out
      go_upto_region 8 with fail
      generalize x2.alloc (.cells (cm m u) 28) = x3 at *
      go_wp2_with (fail)
      refine (same_any m m t u x3 ha.out hu.out).mono ?_
      rintro e x4 ⟨rfl, hB1⟩
      rw [decide_eq_true (rfl : m = m)]
      replace hl := Lib.hid (hl.out.below hB1)
      replace hS := Lib.hid (hS.out.below hB1)
      replace ha := Lib.hid (ha.out.below hB1)
      replace hB := Lib.hid (trans0 hB.out hB1)
      replace hBr := Lib.hid (trans0 hBr.out hB1)
      replace hAx : Hid (∀ w' : World, Below x4.heap.size x4 w' → (n - 1 = 0 ∨ A = none ∨ ∃ b off, A = some ⟨b, off, none⟩ ∧ b < w'.heap.size)) := Lib.hid fun w' hw => hAx.out w' (trans0 hB1 hw)
      clear s0 s1 s2 s3 s4 s5 s6 s7 s8 s9 s10 s11 s12 s13 s14 r0 r1 r2 r3 r4 r5 r6 r7 r8 r9 r10 r11 r12 r13 r14 hB1 hT hu
      have hmd := Lib.hid (Own.made x4 x4.heap.size (Nat.le_refl _) [] (by simp) (by simp) #[] rfl)
      have hal4 := Lib.hid (alloc_below x4 (.cells #[] 5))
      have hl5 := Lib.hid (hl.out.below hal4.out)
      go_wp2_with (at_builtin; (refine wpList_app rfl _ _ 31 rfl x4.heap.size i0 Try.underlying31 hi hz0 hz1 hz2 _ 0 [] rfl hmd.out A n c1 L rfl hl5.out ?d1 ?d2 ?_))
      case d1 => omega
      case d2 => simp
      intro v6 w6 hown6 hgrow6
      have hB6 := Lib.hid (Own.grown hmd.out hal4.out hgrow6 (by simp))
      have hown6' : Hid (Own w6 x4.heap.size v6 n L) := Lib.hid hown6
      have hone := Lib.hid (one_byte w6 more hmore.out)
      clear hown6 hgrow6 hmd hal4 hl5
      go_wp2_with (at_builtin; (refine wpList_app rfl _ _ 31 rfl x4.heap.size i0 Try.underlying31 hi hz0 hz1 hz2 _ n L rfl (hown6'.out.alloc _) (some ⟨w6.heap.size, 0, none⟩) 1 1 [more] rfl hone.out ?e1 ?e2 ?_))
      case e1 => omega
      case e2 => have := hB6.out.size; simp; omega
      intro v7 w7 hown7 hgrow7
      have hB7 := Lib.hid (Own.grown (hown6'.out.alloc (.cells #[.int .u8 more] 5)) (hB6.out.alloc hB6.out.size (.cells #[.int .u8 more] 5)) hgrow7 (by have := hB6.out.size; simp; omega))
      obtain ⟨A7, c7, rfl, -, -, -, -, -⟩ := hown7.form
      obtain ⟨hb7, h71, h72, h73⟩ := own_dec hown7
      have hd7 := Lib.hid (dfail v (L ++ [more]) A7 (n + 1) c7 w7 hmr.out (by rw [List.length_append, hN.out]; rfl) hb7 h71 h72 h73)
      replace hl := Lib.hid (hl.out.below hB7.out)
      replace hS := Lib.hid (hS.out.below hB7.out)
      replace ha := Lib.hid (ha.out.below hB7.out)
      replace hB := Lib.hid (trans0 hB.out hB7.out)
      replace hBr := Lib.hid (trans0 hBr.out hB7.out)
      replace hAx : Hid (∀ w' : World, Below w7.heap.size w7 w' → (n - 1 = 0 ∨ A = none ∨ ∃ b off, A = some ⟨b, off, none⟩ ∧ b < w'.heap.size)) := Lib.hid fun w' hw => hAx.out w' (trans0 hB7.out hw)
      clear hown7 hgrow7 hB6 hown6' hone hB7 hb7 h71 h72 h73
      go_wp2_with (fail)
      refine hd7.out.mono ?_
      rintro e x8 ⟨rfl, hB1⟩
      have hB2 := trans0 hB1 (alloc_below x8 (.cells mz 28))
      replace hl := Lib.hid (hl.out.below hB2)
      replace hS := Lib.hid (hS.out.below hB2)
      replace ha := Lib.hid (ha.out.below hB2)
      replace hB := Lib.hid (trans0 hB.out hB2)
      replace hBr := Lib.hid (trans0 hBr.out hB2)
      have hAy := hAx.out _ hB2
      have htk := hl.out.take (n - 1) (by omega)
      have hd9 := Lib.hid (dfail v (L.take (n - 1)) A (n - 1) c1 _ hkk.out (by rw [List.length_take, hN.out]; omega) htk (by omega) hc9 hAy)
      clear hB1 hB2 hd7 hAx hAy htk
      obtain ⟨k, hk⟩ : ∃ k, n - 1 = k := ⟨_, rfl⟩
      have hsub : IntKind.i64.wrap ((n : Int) - 1) = (k : Int) := by rw [IntKind.wrap_i64]; omega
      rw [hk] at hd9
      have hkc : k ≤ c1 := by omega
      go_upto_region 11 with fail
      generalize x8.alloc (.cells mz 28) = x9 at *
      go_wp2_with (fail)
      refine hd9.out.mono ?_
      rintro e x10 ⟨rfl, hB1⟩
      have hB2 := trans0 hB1 (alloc_below x10 (.cells mz 28))
      replace hBr := Lib.hid (trans0 hBr.out hB2)
      clear hB1 hB2 hd9 hl ha hB hS
      go_wp2
      go_roundw
      case rel => exact ⟨v + 1, hv3.out, by go_num, hBr⟩
      case measure => simpa [intOf, hadd] using hm9.out
/-- any message, any byte -/
theorem back (m : Ms) (t : At) (more : Nat) (w : World) (ha : HM w m t) (hmore : more < 256) :
    Calls Try.prog 5 #[.agg (cm m t), .int .u8 more] w (Yes w) := by
  by_cases h1 : 6000 < m.vers.length ∨ 6000 < m.vec.length
  · exact bk1 m t more w h1
  by_cases h3 : chk m = 0
  · exact bk3 m t more w ha hmore (by omega) h3
  · exact bk2 m t more w ha (by omega) h3
theorem back_i (m : Ms) (t : At) (a : Int) (w : World) (ha : HM w m t) (h : 0 ≤ a ∧ a ≤ 255) :
    Calls Try.prog 5 #[.agg (cm m t), .int .u8 a] w (Yes w) := by
  obtain ⟨n, rfl⟩ := Int.eq_ofNat_of_zero_le h.1
  exact back m t n w ha (by omega)

end Go.Proofs.Ytkbhmeajgmecoaa.wirBk
