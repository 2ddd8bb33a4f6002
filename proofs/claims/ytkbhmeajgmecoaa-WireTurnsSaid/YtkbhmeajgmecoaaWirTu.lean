/- WireTurns: Turn is what is read, written anew. -/
import Derived.Test.YtkbhmeajgmecoaaWirDx
import Derived.Test.YtkbhmeajgmecoaaWirEn
namespace Go.Proofs.Ytkbhmeajgmecoaa.wirTu
open Go.ChangeShapes Go.WideShapes Go.ChangeAt Go.RowKit Go.Deep
open numM rowA byt numA numB numC numN numD numE wirM wirA wirB wirD wirE wirF wirG wirH wirL wirN wirP wirQ wirR wirS wirT wirU wirV wirDa wirDb wirDc wirDd wirDe wirDf wirDg wirDh wirDi wirDj wirDk wirDl wirOn wirRg wirDx wirEn

theorem own_dec {w : World} {base n c : Nat} {A : Option Addr} {l : List Nat} (h : byt.Own w base (.slice A n c) n l) :
    BL w A n l ∧ n ≤ c ∧ c ≤ 9223372036854775807 ∧ (n = 0 ∨ A = none ∨ ∃ b off, A = some ⟨b, off, none⟩ ∧ b < w.heap.size) := by
  obtain ⟨_, _, e, h1, h2, _, _, hb⟩ := h.form
  cases e
  refine ⟨hb, h1, h2, ?_⟩
  rcases hb.2.2.2 with h0 | ⟨b, off, rfl, hlt, -⟩
  · exact .inl h0
  · exact .inr (.inr ⟨b, off, rfl, hlt⟩)
set_option maxRecDepth 100000 in
theorem turn_no (v u : Int) {A : Option Addr} {c : Nat} {l : List Nat} (w : World) (h : CB w A c l) (hk : dece v l ≠ 0) : Calls Try.prog 22 #[.int .i64 v, .int .i64 u, .slice A l.length c] w fun e w' => e = .returned (.tuple #[.slice none 0 0, .int .i64 (dece v l : Nat)]) ∧ Below w.heap.size w w' := by
  have h1 := Lib.hid (dec_m v w h)
  unfold wirDx.RdM at h1
  have hne : ((dece v l : Int) != 0) = true := by rw [bne_iff_ne]; omega
  clear h hk
  generalize decm v l = m at *
  generalize dece v l = k at *
  generalize l.length = n at *
  go_enter Try.func22, Try.ntmps22
  go_wp2_with (fail)
  refine h1.out.mono ?_
  rintro e w1 ⟨t1, rfl, -, hB1⟩
  have hB2 := Lib.hid (trans0 hB1 (alloc_below _ (.cells (cm m t1) 28)))
  clear hB1
  go_wp2
  go_ret2
  exact ⟨rfl, hB2.out⟩
set_option maxRecDepth 100000 in
theorem turn_gives (v u : Int) {A : Option Addr} {c : Nat} {l : List Nat} (w : World) (h : CB w A c l) (hk : dece v l = 0) : Calls Try.prog 22 #[.int .i64 v, .int .i64 u, .slice A l.length c] w (Gives w (encl u (decm v l)) (ence u (decm v l))) := by
  have h1 := Lib.hid (dec_m v w h)
  unfold wirDx.RdM at h1
  rw [hk] at h1
  clear h hk
  generalize decm v l = m at *
  generalize l.length = n at *
  go_enter Try.func22, Try.ntmps22
  go_wp2_with (fail)
  refine h1.out.mono ?_
  rintro e w1 ⟨t1, rfl, hm1, hB1⟩
  have hB2 := Lib.hid (trans0 hB1 (alloc_below _ (.cells (cm m t1) 28)))
  have hS := Lib.hid (SM.new w1 m t1)
  have he := Lib.hid (enc_any u m t1 _ (hm1.below (alloc_below _ (.cells (cm m t1) 28))))
  clear hB1 hm1
  obtain ⟨s0, s1, s2, s3, s4, s5, s6, s7, s8, s9, s10, s11, s12, s13, s14⟩ := hS.out
  go_upto_region 4 with fail
  generalize w1.alloc (.cells (cm m t1) 28) = w2 at *
  go_wp2_with (fail)
  refine he.out.mono ?_
  rintro e w3 ⟨B, n3, c3, rfl, hb, hB3⟩
  have hfin : Hid (Gives w (encl u m) (ence u m) _ w3) := Lib.hid ⟨B, n3, c3, rfl, hb, trans0 hB2.out hB3⟩
  clear hb hB3 s0 s1 s2 s3 s4 s5 s6 s7 s8 s9 s10 s11 s12 s13 s14
  go_wp2
  go_ret2
  exact hfin.out
set_option maxRecDepth 100000 in
theorem turn_ok (v u : Int) (hu : u = 1 ∨ u = 2) {A : Option Addr} {c : Nat} {l : List Nat} {m : Ms} (w : World) (h : CB w A c l) (hd : dec v l = .ok m) : Calls Try.prog 22 #[.int .i64 v, .int .i64 u, .slice A l.length c] w (Makes2 w (body u m)) := by
  have h1 := Lib.hid (dec_m v w h)
  unfold wirDx.RdM at h1
  have e1 : decm v l = m := by unfold decm; rw [hd]
  have e2 : dece v l = 0 := by unfold dece; rw [hd]
  have h0 : chk m = 0 := chk_ok.2 (enc_dec h.1.lt hd).1.1
  rw [e1, e2] at h1
  clear h hd e1 e2
  generalize l.length = n at *
  go_enter Try.func22, Try.ntmps22
  go_wp2_with (fail)
  refine h1.out.mono ?_
  rintro e w1 ⟨t1, rfl, hm1, hB1⟩
  have hB2 := Lib.hid (trans0 hB1 (alloc_below _ (.cells (cm m t1) 28)))
  have hS := Lib.hid (SM.new w1 m t1)
  have he := Lib.hid (enc_ok u m t1 _ (hm1.below (alloc_below _ (.cells (cm m t1) 28))) hu h0)
  clear hB1 hm1 hu h0
  obtain ⟨s0, s1, s2, s3, s4, s5, s6, s7, s8, s9, s10, s11, s12, s13, s14⟩ := hS.out
  go_upto_region 4 with fail
  generalize w1.alloc (.cells (cm m t1) 28) = w2 at *
  go_wp2_with (fail)
  refine he.out.mono ?_
  rintro e w3 ⟨B, c3, rfl, ho, hB3⟩
  have hfin : Hid (Makes2 w (body u m) _ w3) := Lib.hid ⟨B, c3, rfl, Own.more (base' := w.heap.size) ho hB2.out.size, trans0 hB2.out hB3⟩
  clear ho hB3 s0 s1 s2 s3 s4 s5 s6 s7 s8 s9 s10 s11 s12 s13 s14
  go_wp2
  go_ret2
  exact hfin.out
set_option maxRecDepth 100000 in
set_option maxHeartbeats 2000000 in
/-- it was no body -/
theorem turns_no (v u : Int) (A : Option Addr) (c : Nat) (l : List Nat) (w : World) (hb : CB w A c l) (hk : dece v l ≠ 0) : Calls Try.prog 7 #[.int .i64 v, .int .i64 u, .slice A l.length c] w (wirV.Yes w) := by
  have h1 := Lib.hid (rdec_m v w hb)
  have h2 := Lib.hid (fun w' (hB : Below w.heap.size w w') => turn_no v u w' (hb.below hB) hk)
  have hne : ((dece v l : Int) != 0) = true := by rw [bne_iff_ne]; omega
  clear hb hk
  unfold wirDx.RdM at h1
  generalize decm v l = m at *
  generalize dece v l = k at *
  generalize l.length = n at *
  go_enter Try.func7, Try.ntmps7
  go_wp2_with (fail)
  refine h1.out.mono ?_
  rintro e w1 ⟨t1, rfl, hm1, hB1⟩
  have hB2 := Lib.hid (trans0 hB1 (alloc_below _ (.cells (cm m t1) 28)))
  have hS := Lib.hid (SM.new w1 m t1)
  have he := Lib.hid (renc_any u m t1 _ (hm1.below (alloc_below _ (.cells (cm m t1) 28))))
  clear hB1 hm1 h1
  obtain ⟨s0, s1, s2, s3, s4, s5, s6, s7, s8, s9, s10, s11, s12, s13, s14⟩ := hS.out
  go_upto_region 2 with fail
  generalize w1.alloc (.cells (cm m t1) 28) = w2 at *
  go_wp2_with (fail)
  refine he.out.mono ?_
  rintro e w3 ⟨B, n3, c3, rfl, -, hB3⟩
  have h4 := Lib.hid (h2.out _ (trans0 hB2.out hB3))
  replace hB2 := Lib.hid (trans0 hB2.out hB3)
  clear hB3 s0 s1 s2 s3 s4 s5 s6 s7 s8 s9 s10 s11 s12 s13 s14 h2 he hS
  generalize encl u m = q1 at *
  generalize ence u m = q2 at *
  go_wp2_with (fail)
  refine h4.out.mono ?_
  rintro e w4 ⟨rfl, hB3⟩
  replace hB2 := Lib.hid (trans0 hB2.out hB3)
  have hs3 : Hid (Calls Try.prog 16 #[.slice none 0 0, .slice none 0 0] w4 fun e w' => e = .returned (.bool true) ∧ w4 = w') := Lib.hid (same3 none 0 0 [] none 0 0 [] w4 (BL.none_ _ _) (BL.none_ _ _))
  clear hB3 h4
  go_wp2_with (fail)
  refine hs3.out.mono ?_
  rintro e w5 ⟨rfl, rfl⟩
  go_wp2_with (fail)
  refine (wirN.awake_any _).mono ?_
  rintro e w6 ⟨rfl, hB3⟩
  have hB4 := trans0 hB2.out hB3
  clear hB3
  go_wp2
  go_ret
  exact ⟨rfl, hB4⟩
set_option maxRecDepth 100000 in
set_option maxHeartbeats 2000000 in
/-- there is no such version to turn into -/
theorem turns_bad (v u : Int) (A : Option Addr) (c : Nat) (l : List Nat) (w : World) (hb : CB w A c l) (hk : dece v l = 0) (hq : ence u (decm v l) ≠ 0) : Calls Try.prog 7 #[.int .i64 v, .int .i64 u, .slice A l.length c] w (wirV.Yes w) := by
  have h1 := Lib.hid (rdec_m v w hb)
  have h2 := Lib.hid (fun w' (hB : Below w.heap.size w w') => turn_gives v u w' (hb.below hB) hk)
  have hne : ((ence u (decm v l) : Int) != 0) = true := by rw [bne_iff_ne]; omega
  unfold wirDx.RdM at h1
  rw [hk] at h1
  clear hb hk hq
  generalize decm v l = m at *
  generalize l.length = n at *
  go_enter Try.func7, Try.ntmps7
  go_wp2_with (fail)
  refine h1.out.mono ?_
  rintro e w1 ⟨t1, rfl, hm1, hB1⟩
  have hB2 := Lib.hid (trans0 hB1 (alloc_below _ (.cells (cm m t1) 28)))
  have hS := Lib.hid (SM.new w1 m t1)
  have he := Lib.hid (renc_any u m t1 _ (hm1.below (alloc_below _ (.cells (cm m t1) 28))))
  clear hB1 hm1 h1
  obtain ⟨s0, s1, s2, s3, s4, s5, s6, s7, s8, s9, s10, s11, s12, s13, s14⟩ := hS.out
  go_upto_region 2 with fail
  generalize w1.alloc (.cells (cm m t1) 28) = w2 at *
  go_wp2_with (fail)
  refine he.out.mono ?_
  rintro e w3 ⟨B, n3, c3, rfl, hbl, hB3⟩
  have h4 := Lib.hid (h2.out _ (trans0 hB2.out hB3))
  replace hB2 := Lib.hid (trans0 hB2.out hB3)
  replace hbl := Lib.hid hbl
  clear hB3 s0 s1 s2 s3 s4 s5 s6 s7 s8 s9 s10 s11 s12 s13 s14 h2 he hS
  generalize encl u m = q1 at *
  generalize ence u m = q2 at *
  go_wp2_with (fail)
  refine h4.out.mono ?_
  rintro e w4 ⟨B4, n4, c4, rfl, hbl4, hB3⟩
  have hs3 := same3 B4 n4 c4 q1 B n3 c3 q1 w4 hbl4 (hbl.out.below hB3)
  rw [decide_eq_true rfl] at hs3
  replace hs3 := Lib.hid hs3
  replace hB2 := Lib.hid (trans0 hB2.out hB3)
  clear hB3 h4 hbl hbl4
  go_wp2_with (fail)
  refine hs3.out.mono ?_
  rintro e w5 ⟨rfl, rfl⟩
  go_wp2_with (fail)
  refine (wirN.awake_any _).mono ?_
  rintro e w6 ⟨rfl, hB3⟩
  have hB4 := trans0 hB2.out hB3
  clear hB3
  go_wp2
  go_ret
  exact ⟨rfl, hB4⟩
set_option maxRecDepth 100000 in
set_option maxHeartbeats 2000000 in
/-- it is turned, and turned back -/
theorem turns_ok (v u : Int) (A : Option Addr) (c : Nat) (l : List Nat) (m : Ms) (w : World) (hb : CB w A c l) (hd : dec v l = .ok m) (hu : u = 1 ∨ u = 2) : Calls Try.prog 7 #[.int .i64 v, .int .i64 u, .slice A l.length c] w (wirV.Yes w) := by
  have h1 := Lib.hid (rdec_m v w hb)
  have h2 := Lib.hid (fun w' (hB : Below w.heap.size w w') => turn_ok v u hu w' (hb.below hB) hd)
  obtain ⟨hm, hl, hv⟩ := enc_dec hb.1.lt hd
  have e1 : decm v l = m := by unfold decm; rw [hd]
  have e2 : dece v l = 0 := by unfold dece; rw [hd]
  have hbk := Lib.hid (dec_enc u m hu hm)
  have e3 : encl u m = body u m := by unfold encl; rw [if_neg (by omega), if_neg (by rw [chk_ok.2 hm.1]; decide)]
  have e4 : ence u m = 0 := by unfold ence; rw [if_neg (by omega)]; exact chk_ok.2 hm.1
  have hb2 := Lib.hid (fun (B : Option Addr) (c' : Nat) (w' : World) (h : CB w' B c' (body u m)) => turn_ok u v hv w' h hbk.out)
  replace hl := Lib.hid hl
  unfold wirDx.RdM at h1
  rw [e1, e2] at h1
  replace hb := Lib.hid hb
  clear hd hm hu hv e1 e2 hbk
  generalize hL : l.length = n at *
  replace hL := Lib.hid hL
  go_enter Try.func7, Try.ntmps7
  go_wp2_with (fail)
  refine h1.out.mono ?_
  rintro e w1 ⟨t1, rfl, hm1, hB1⟩
  have hB2 := Lib.hid (trans0 hB1 (alloc_below _ (.cells (cm m t1) 28)))
  have hS := Lib.hid (SM.new w1 m t1)
  have he := renc_any u m t1 _ (hm1.below (alloc_below _ (.cells (cm m t1) 28)))
  rw [e3, e4] at he
  replace he := Lib.hid he
  clear hB1 hm1 h1 e3 e4
  obtain ⟨s0, s1, s2, s3, s4, s5, s6, s7, s8, s9, s10, s11, s12, s13, s14⟩ := hS.out
  go_upto_region 2 with fail
  generalize w1.alloc (.cells (cm m t1) 28) = w2 at *
  go_wp2_with (fail)
  refine he.out.mono ?_
  rintro e w3 ⟨B, n3, c3, rfl, hbl, hB3⟩
  have h4 := Lib.hid (h2.out _ (trans0 hB2.out hB3))
  replace hB2 := Lib.hid (trans0 hB2.out hB3)
  replace hbl := Lib.hid hbl
  clear hB3 s0 s1 s2 s3 s4 s5 s6 s7 s8 s9 s10 s11 s12 s13 s14 h2 he hS
  go_wp2_with (fail)
  refine h4.out.mono ?_
  rintro e w4 ⟨B4, c4, rfl, ho, hB3⟩
  obtain ⟨hd1, hd2, hd3, hd4⟩ := own_dec ho
  have hs3 := same3 B4 _ c4 _ B n3 c3 _ w4 hd1 (hbl.out.below hB3)
  rw [decide_eq_true rfl] at hs3
  replace hs3 := Lib.hid hs3
  have h5 := Lib.hid (hb2.out B4 c4 w4 ⟨hd1, hd2, hd3, hd4⟩)
  replace hB2 := Lib.hid (trans0 hB2.out hB3)
  clear hB3 h4 hbl hd1 hd2 hd3 hd4 ho hb2
  generalize (body u m).length = n4 at *
  go_wp2_with (fail)
  refine hs3.out.mono ?_
  rintro e w5 ⟨rfl, rfl⟩
  go_wp2_with (fail)
  refine h5.out.mono ?_
  rintro e w6 ⟨B6, c6, rfl, ho, hB3⟩
  replace hB2 := Lib.hid (trans0 hB2.out hB3)
  have hbl6 := Lib.hid (own_dec ho).1
  clear ho hB3 h5
  go_wp2_with (fail)
  refine (wirN.awake_any _).mono ?_
  rintro e w7 ⟨rfl, hB3⟩
  have hlA := (hb.out.below (trans0 hB2.out hB3)).1
  rw [hL.out] at hlA
  have hs6 := same3 B6 _ c6 _ A _ c _ w7 (hbl6.out.below hB3) hlA
  rw [decide_eq_true hl.out.symm] at hs6
  replace hB2 := Lib.hid (trans0 hB2.out hB3)
  replace hs6 := Lib.hid hs6
  clear hbl6 hb hB3 hlA
  generalize (body v m).length = n6 at *
  go_wp2_with (fail)
  refine hs6.out.mono ?_
  rintro e w8 ⟨rfl, rfl⟩
  go_wp2
  go_ret
  exact ⟨rfl, hB2.out⟩
theorem turns (v u : Int) (A : Option Addr) (c : Nat) (l : List Nat) (w : World) (hb : CB w A c l) : Calls Try.prog 7 #[.int .i64 v, .int .i64 u, .slice A l.length c] w (wirV.Yes w) := by
  rcases hd : dec v l with k | m
  · have e2 : dece v l = k := by unfold dece; rw [hd]
    exact turns_no v u A c l w hb (by rw [e2]; exact dec_nz hd)
  · by_cases hu : u = 1 ∨ u = 2
    · exact turns_ok v u A c l m w hb hd hu
    · have e2 : dece v l = 0 := by unfold dece; rw [hd]
      refine turns_bad v u A c l w hb e2 ?_
      unfold ence
      rw [if_pos (by omega)]; decide
theorem turns_row (v u : Int) (A : Option Addr) (len cap : Nat) (z : List Int) (w : World) (h : IsRow .u8 w A len cap z) :
    Calls Try.prog 7 #[.int .i64 v, .int .i64 u, .slice A len cap] w (wirV.Yes w) := by
  obtain ⟨l, rfl, hb⟩ := came_cb h
  exact turns v u A cap l w hb
end Go.Proofs.Ytkbhmeajgmecoaa.wirTu
