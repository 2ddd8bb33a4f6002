/- WireSpoilt: a body of which a byte is changed. -/
import Derived.Test.YtkbhmeajgmecoaaWirDx
namespace Go.Proofs.Ytkbhmeajgmecoaa.wirSp
open Go.ChangeShapes Go.WideShapes Go.ChangeAt Go.RowKit Go.Deep
open numM rowA byt numA numB numC numN numD numE wirM wirA wirB wirD wirE wirF wirG wirH wirL wirN wirP wirQ wirR wirS wirT wirU wirV wirDa wirDb wirDc wirDd wirDe wirDf wirDg wirDh wirDi wirDj wirDk wirDl wirOn wirRg wirDx

theorem own_dec0 {w : World} {base n c : Nat} {A : Option Addr} {l : List Nat} (h : byt.Own w base (.slice A n c) n l) :
    BL w A n l ∧ n ≤ c ∧ c ≤ 9223372036854775807 ∧ (n = 0 ∨ A = none ∨ ∃ b off, A = some ⟨b, off, none⟩ ∧ b < w.heap.size) := by
  obtain ⟨_, _, e, h1, h2, _, _, hb⟩ := h.form
  cases e
  refine ⟨hb, h1, h2, ?_⟩
  rcases hb.2.2.2 with h0 | ⟨b, off, rfl, hlt, -⟩
  · exact .inl h0
  · exact .inr (.inr ⟨b, off, rfl, hlt⟩)
theorem xor8 (a b : Nat) (ha : a < 256) (hb : b < 256) : bits .xor .u8 (a : Int) (b : Int) = ((a ^^^ b : Nat) : Int) := by
  have hx : a ^^^ b < 2 ^ 8 := Nat.xor_lt_two_pow (by omega) (by omega)
  have h1 : (BitVec.ofInt 8 (a : Int)).toNat = a := by
    rw [BitVec.ofInt_natCast, BitVec.toNat_ofNat]; exact Nat.mod_eq_of_lt (by omega)
  have h2 : (BitVec.ofInt 8 (b : Int)).toNat = b := by
    rw [BitVec.ofInt_natCast, BitVec.toNat_ofNat]; exact Nat.mod_eq_of_lt (by omega)
  show IntKind.u8.wrap ((BitVec.ofInt 8 (a : Int) ^^^ BitVec.ofInt 8 (b : Int)).toNat : Int) = _
  rw [BitVec.toNat_xor, h1, h2]
  show _ % (2 ^ 8 : Int) = _
  omega
theorem xor_ne {a x : Nat} (h : x ≠ 0) : a ^^^ x ≠ a := by
  intro e
  apply h
  have : a ^^^ (a ^^^ x) = a ^^^ a := by rw [e]
  rwa [← Nat.xor_assoc, Nat.xor_self, Nat.zero_xor] at this
def spoil (l : List Nat) (i x : Nat) : List Nat := l.set i (l.getD i 0 ^^^ x)
theorem spoil_len (l : List Nat) (i x : Nat) : (spoil l i x).length = l.length := List.length_set
theorem at_lt {l : List Nat} {i : Nat} (hl : ∀ c ∈ l, c < 256) : l.getD i 0 < 256 := by
  rw [List.getD_eq_getElem?_getD]
  rcases h : l[i]? with _ | c
  · exact Nat.succ_pos _
  · exact hl c (List.mem_of_getElem? h)
theorem xor_lt {a x : Nat} (ha : a < 256) (hx : x < 256) : a ^^^ x < 256 := Nat.xor_lt_two_pow (n := 8) ha hx
theorem spoil_ne {l : List Nat} {i x : Nat} (hi : i < l.length) (hx : x ≠ 0) : spoil l i x ≠ l := by
  intro e
  have h1 : (spoil l i x)[i]? = l[i]? := by rw [e]
  unfold spoil at h1
  rw [List.getElem?_set_self hi, List.getElem?_eq_getElem hi, List.getD_eq_getElem?_getD, List.getElem?_eq_getElem hi] at h1
  exact xor_ne hx (Option.some.inj h1)
theorem own_set {w : World} {base g n c : Nat} {l : List Nat} (h : byt.Own w base (.slice (some ⟨g, 0, none⟩) n c) n l) (i x : Nat) (hx : x < 256) : byt.Own (w.setCell ⟨g, i, none⟩ (.int .u8 x)) base (.slice (some ⟨g, 0, none⟩) n c) n (l.set i x) := by
  obtain ⟨h1, h2, h3, h4⟩ := h
  refine ⟨by rw [List.length_set]; exact h1, fun c hc => ?_, h3, ?_⟩
  · rcases List.mem_or_eq_of_mem_set hc with h | h
    · exact h2 c h
    · rw [h]; exact hx
  · have := (World.ownsRow.stored h4 i (.int .u8 x)).1
    unfold ub at *
    rw [List.map_set]
    exact this
/-- what is read of a spoilt body isn't the message -/
theorem spoil_dec {v : Int} {m : Ms} {i x : Nat} (hl : ∀ c ∈ spoil (body v m) i x, c < 256) (hi : i < (body v m).length) (hx : x ≠ 0) (h : dece v (spoil (body v m) i x) = 0) : ¬ decm v (spoil (body v m) i x) = m := by
  intro e
  unfold dece at h
  unfold decm at e
  rcases hd : dec v (spoil (body v m) i x) with k | m'
  · rw [hd] at h
    exact dec_nz hd h
  · rw [hd] at e
    simp only at e
    subst e
    exact spoil_ne hi hx (enc_dec hl hd).2.1
set_option maxRecDepth 100000 in
set_option maxHeartbeats 1000000 in
theorem sp1 (v : Int) (m : Ms) (t : At) (i : Int) (x : Nat) (w : World) (h1 : 6000 < m.vers.length ∨ 6000 < m.vec.length) :
    Calls Try.prog 10 #[.int .i64 v, .agg (cm m t), .int .i64 i, .int .u8 x] w (wirV.Yes w) := by
  have hS := SM.new w m t
  have hB := Lib.hid (alloc_below w (.cells (cm m t) 28))
  replace h1 := Lib.hid h1
  obtain ⟨s0, s1, s2, s3, s4, s5, s6, s7, s8, s9, s10, s11, s12, s13, s14⟩ := hS
  go_enter Try.func10, Try.ntmps10
  go_wp2_with (fail)
  refine (great_yes m t _ h1.out).mono ?_
  rintro e w1 ⟨rfl, hB1⟩
  go_wp2_with (fail)
  refine (wirN.awake_any _).mono ?_
  rintro e w2 ⟨rfl, hB2⟩
  go_wp2
  go_ret
  exact ⟨rfl, trans0 (trans0 hB.out hB1) hB2⟩
/-- it is no message that is written, or nothing is changed -/
theorem out_eq {v : Int} {m : Ms} (h : ence v m = 0) : (v = 1 ∨ v = 2) ∧ chk m = 0 ∧ encl v m = body v m := by
  unfold ence at h
  unfold encl
  by_cases hv : v ≠ 1 ∧ v ≠ 2
  · rw [if_pos hv] at h; cases h
  · rw [if_neg hv] at h ⊢
    exact ⟨by omega, h, by rw [if_neg (by omega)]⟩
set_option maxRecDepth 100000 in
set_option maxHeartbeats 1000000 in
theorem sp2 (v : Int) (m : Ms) (t : At) (i : Int) (x : Nat) (w : World) (ha : HM w m t) (h1 : m.vers.length ≤ 6000 ∧ m.vec.length ≤ 6000) (hq : ¬ (ence v m = 0 ∧ x ≠ 0 ∧ 0 ≤ i ∧ i < (encl v m).length)) :
    Calls Try.prog 10 #[.int .i64 v, .agg (cm m t), .int .i64 i, .int .u8 x] w (wirV.Yes w) := by
  replace h1 := Lib.hid h1
  have hS := Lib.hid (SM.new w m t)
  have hB := Lib.hid (alloc_below w (.cells (cm m t) 28))
  replace ha := Lib.hid (ha.below hB.out)
  go_enter Try.func10, Try.ntmps10
  go_upto_region 1 with fail
  generalize w.alloc (.cells (cm m t) 28) = W at *
  obtain ⟨s0, s1, s2, s3, s4, s5, s6, s7, s8, s9, s10, s11, s12, s13, s14⟩ := hS.out
  go_wp2_with (fail)
  refine (great_no m t _ h1.out.1 h1.out.2).mono ?_
  rintro e w1a ⟨rfl, hB1a⟩
  replace hS := Lib.hid (hS.out.below hB1a)
  replace ha := Lib.hid (ha.out.below hB1a)
  replace hB := Lib.hid (trans0 hB.out hB1a)
  clear s0 s1 s2 s3 s4 s5 s6 s7 s8 s9 s10 s11 s12 s13 s14 hB1a
  obtain ⟨s0, s1, s2, s3, s4, s5, s6, s7, s8, s9, s10, s11, s12, s13, s14⟩ := hS.out
  have hen := Lib.hid (enc_any v m t w1a ha.out)
  generalize ence v m = k at *
  generalize encl v m = L at *
  go_wp2_with (fail)
  refine hen.out.mono ?_
  rintro e w2 ⟨A, n, c, rfl, hbl, hB1⟩
  replace hB := Lib.hid (trans0 hB.out hB1)
  have hn := hbl.1
  rw [hn] at hq
  clear s0 s1 s2 s3 s4 s5 s6 s7 s8 s9 s10 s11 s12 s13 s14 hB1 hen hbl hn ha hS h1
  have h4 : (¬ k = 0) ∨ (k = 0 ∧ x = 0) ∨ (k = 0 ∧ ¬ x = 0 ∧ i < 0) ∨ (k = 0 ∧ ¬ x = 0 ∧ ¬ i < 0 ∧ (n : Int) ≤ i) := by omega
  clear hq
  rcases h4 with h4 | ⟨rfl, rfl⟩ | ⟨rfl, h5, h6⟩ | ⟨rfl, h5, h6, h7⟩
  · have hne : ((k : Int) != 0) = true := by rw [bne_iff_ne]; omega
    go_wp2_with (fail)
    refine (wirN.awake_any _).mono ?_
    rintro e w9 ⟨rfl, hB9⟩
    go_wp2
    go_ret
    exact ⟨rfl, trans0 hB.out hB9⟩
  · go_wp2_with (fail)
    refine (wirN.awake_any _).mono ?_
    rintro e w9 ⟨rfl, hB9⟩
    go_wp2
    go_ret
    exact ⟨rfl, trans0 hB.out hB9⟩
  · have hne : ((x : Int) == 0) = false := by rw [beq_eq_false_iff_ne]; omega
    go_wp2_with (fail)
    refine (wirN.awake_any _).mono ?_
    rintro e w9 ⟨rfl, hB9⟩
    go_wp2
    go_ret
    exact ⟨rfl, trans0 hB.out hB9⟩
  · have hne : ((x : Int) == 0) = false := by rw [beq_eq_false_iff_ne]; omega
    go_wp2_with (fail)
    refine (wirN.awake_any _).mono ?_
    rintro e w9 ⟨rfl, hB9⟩
    go_wp2
    go_ret
    exact ⟨rfl, trans0 hB.out hB9⟩
set_option maxRecDepth 100000 in
set_option maxHeartbeats 4000000 in
theorem sp3 (v : Int) (m : Ms) (t : At) (i x : Nat) (w : World) (ha : HM w m t) (h1 : m.vers.length ≤ 6000 ∧ m.vec.length ≤ 6000) (hk : ence v m = 0) (hx : x ≠ 0) (hx8 : x < 256) (hin : i < (body v m).length) :
    Calls Try.prog 10 #[.int .i64 v, .agg (cm m t), .int .i64 i, .int .u8 x] w (wirV.Yes w) := by
  obtain ⟨i0, hi, hz0, hz1, hz2⟩ := info_parts bytes8
  obtain ⟨hv, h3, -⟩ := out_eq hk
  have hm := mok_of ha h3
  have hble : (body v m).length ≤ 1099511627776 := by
    unfold body
    split
    · exact elder_le m hm.1
    · exact wirK.newer_le m (pts_le m hm.1 (mok_fits hm))
  have hsd := Lib.hid (fun hl h0 => spoil_dec (v := v) (m := m) (i := i) (x := x) hl hin hx h0)
  have hxne : ((x : Int) == 0) = false := by rw [beq_eq_false_iff_ne]; omega
  replace h1 := Lib.hid h1
  replace h3 := Lib.hid h3
  replace hv := Lib.hid hv
  have hS := Lib.hid (SM.new w m t)
  have hB := Lib.hid (alloc_below w (.cells (cm m t) 28))
  replace ha := Lib.hid (ha.below hB.out)
  clear hk hm
  go_enter Try.func10, Try.ntmps10
  go_upto_region 1 with fail
  generalize w.alloc (.cells (cm m t) 28) = W at *
  obtain ⟨s0, s1, s2, s3, s4, s5, s6, s7, s8, s9, s10, s11, s12, s13, s14⟩ := hS.out
  go_wp2_with (fail)
  refine (great_no m t _ h1.out.1 h1.out.2).mono ?_
  rintro e w1a ⟨rfl, hB1a⟩
  replace hS := Lib.hid (hS.out.below hB1a)
  replace ha := Lib.hid (ha.out.below hB1a)
  replace hB := Lib.hid (trans0 hB.out hB1a)
  clear s0 s1 s2 s3 s4 s5 s6 s7 s8 s9 s10 s11 s12 s13 s14 hB1a
  obtain ⟨s0, s1, s2, s3, s4, s5, s6, s7, s8, s9, s10, s11, s12, s13, s14⟩ := hS.out
  go_wp2_with (fail)
  refine (enc_ok v m t w1a ha.out hv.out h3.out).mono ?_
  rintro e x1 ⟨A, c1, rfl, ho, hB1⟩
  have hl := Lib.hid (own_bl ho)
  replace hS := Lib.hid (hS.out.below hB1)
  replace ha := Lib.hid (ha.out.below hB1)
  replace hB := Lib.hid (trans0 hB.out hB1)
  clear s0 s1 s2 s3 s4 s5 s6 s7 s8 s9 s10 s11 s12 s13 s14 hB1 ho
  generalize hL : body v m = L at *
  generalize hN : L.length = n at *
  replace hL := Lib.hid hL
  have hmd := Lib.hid (Own.made x1 x1.heap.size (Nat.le_refl _) [] (by simp) (by simp) #[] rfl)
  have hal4 := Lib.hid (alloc_below x1 (.cells #[] 5))
  have hl5 := Lib.hid (hl.out.below hal4.out)
  have hlt := hl.out.lt
  go_wp2_with (at_builtin; (refine wpList_app rfl _ _ 31 rfl x1.heap.size i0 Try.underlying31 hi hz0 hz1 hz2 _ 0 [] rfl hmd.out A n c1 L rfl hl5.out ?d1 ?d2 ?_))
  case d1 => omega
  case d2 => simp
  intro v6 w6 hown6 hgrow6
  have hB6 := Own.grown hmd.out hal4.out hgrow6 (by simp)
  have hown6' : byt.Own w6 x1.heap.size v6 n L := hown6
  obtain ⟨A6, c6, rfl, -, -, hA0, hA1, -⟩ := hown6'.form
  obtain ⟨g, rfl⟩ : ∃ g, A6 = some ⟨g, 0, none⟩ := by
    rcases A6 with _ | ad
    · have := hA0 rfl
      have := (own_dec0 hown6').2.1
      omega
    · obtain ⟨g, e⟩ := hA1 ad rfl
      exact ⟨g, by rw [e]⟩
  have hg9 : x1.heap.size ≤ g := (World.ownsRow.lt hown6'.2.2.2 g rfl).1
  have y0 : w6.cell? ⟨g, i, none⟩ = some (.int .u8 (L.getD i 0 : Nat)) := by
    rw [World.ownsRow.cellAt hown6'.2.2.2 i (by omega)]
    unfold ub
    rw [List.getElem?_map, List.getD_eq_getElem?_getD, List.getElem?_eq_getElem (by omega)]; rfl
  have yf := World.ownsRow.frozenAt hown6'.2.2.2 i
  have ha8 := at_lt (i := i) hlt
  have hxo := xor8 _ _ ha8 hx8
  have hset := own_set hown6' i _ (xor_lt ha8 hx8)
  have hB7 := Lib.hid (hB6.setCell (p := ⟨g, i, none⟩) hg9 (.int .u8 (L.getD i 0 ^^^ x : Nat)))
  have hqn : (spoil L i x).length = n := by rw [spoil_len, hN]
  have hcb : Hid (CB (w6.setCell ⟨g, i, none⟩ (.int .u8 (L.getD i 0 ^^^ x : Nat))) (some ⟨g, 0, none⟩) c6 (spoil L i x)) := Lib.hid (by
    obtain ⟨d1, d2, d3, d4⟩ := own_dec0 hset
    unfold CB
    rw [hqn]
    exact ⟨d1, d2, d3, d4⟩)
  have h5 := dec_m v _ hcb.out
  have h6 := Lib.hid (fun w' hw => rdec_m v w' (hcb.out.below hw))
  rw [hqn] at h5 h6
  unfold wirDx.RdM at h5 h6
  replace h5 := Lib.hid h5
  replace hsd := Lib.hid (hsd.out (hcb.out.1.lt))
  replace hS := Lib.hid (hS.out.below hB7.out)
  replace ha := Lib.hid (ha.out.below hB7.out)
  replace hB := Lib.hid (trans0 hB.out hB7.out)
  clear hcb hset hown6' hown6 hgrow6 hB6 hB7 hmd hal4 hl5 hl hA0 hA1 hlt hqn hN hg9
  generalize decm v (spoil L i x) = M at *
  generalize dece v (spoil L i x) = k at *
  generalize L.getD i 0 = a at *
  go_upto_region 8 with fail
  generalize w6.setCell ⟨g, i, none⟩ (.int .u8 (a ^^^ x : Nat)) = w7 at *
  clear y0 yf hxo
  go_wp2_with (fail)
  refine h5.out.mono ?_
  rintro e w8 ⟨t1, rfl, hm1, hB1⟩
  replace hm1 := Lib.hid (hm1.below (alloc_below _ (.cells (cm M t1) 28)))
  have hB2 := trans0 hB1 (alloc_below _ (.cells (cm M t1) 28))
  have hS1 := Lib.hid (SM.new w8 M t1)
  replace h6 := Lib.hid (h6.out _ hB2)
  replace hS := Lib.hid (hS.out.below hB2)
  replace ha := Lib.hid (ha.out.below hB2)
  replace hB := Lib.hid (trans0 hB.out hB2)
  clear hB1 h5 hB2
  go_wp2_with (fail)
  generalize w8.alloc (.cells (cm M t1) 28) = w9 at *
  refine h6.out.mono ?_
  rintro e w10 ⟨t2, rfl, hm2, hB3⟩
  have hB4 := trans0 hB3 (alloc_below _ (.cells (cm M t2) 28))
  replace hm2 := Lib.hid (hm2.below (alloc_below _ (.cells (cm M t2) 28)))
  replace hm1 := Lib.hid (hm1.out.below hB4)
  replace hS1 := Lib.hid (hS1.out.below hB4)
  replace hS := Lib.hid (hS.out.below hB4)
  replace ha := Lib.hid (ha.out.below hB4)
  replace hB := Lib.hid (trans0 hB.out hB4)
  have hS2 := Lib.hid (SM.new w10 M t2)
  clear hB3 hB4 h6
  go_wp2_with (fail)
  generalize w10.alloc (.cells (cm M t2) 28) = w11 at *
  refine (wirN.awake_any _).mono ?_
  rintro e w12 ⟨rfl, hB3⟩
  replace hm1 := Lib.hid (hm1.out.below hB3)
  replace hm2 := Lib.hid (hm2.out.below hB3)
  replace hS1 := Lib.hid (hS1.out.below hB3)
  replace hS2 := hS2.out.below hB3
  replace hS := Lib.hid (hS.out.below hB3)
  replace ha := Lib.hid (ha.out.below hB3)
  replace hB := Lib.hid (trans0 hB.out hB3)
  obtain ⟨s0, s1, s2, s3, s4, s5, s6, s7, s8, s9, s10, s11, s12, s13, s14⟩ := hS1.out
  obtain ⟨r0, r1, r2, r3, r4, r5, r6, r7, r8, r9, r10, r11, r12, r13, r14⟩ := hS2
  have hsm := same_any M M t1 t2 w12 hm1.out hm2.out
  rw [decide_eq_true (rfl : M = M)] at hsm
  replace hsm := Lib.hid hsm
  clear hB3
  by_cases hk : k = 0
  · subst hk
    have hne := Lib.hid (hsd.out rfl)
    go_wp2_with (fail)
    refine hsm.out.mono ?_
    rintro e w13 ⟨rfl, hB5⟩
    replace hS := hS.out.below hB5
    replace hS1 := hS1.out.below hB5
    have hsm2 := same_any M m t1 t w13 (hm1.out.below hB5) (ha.out.below hB5)
    rw [decide_eq_false hne.out] at hsm2
    replace hsm2 := Lib.hid hsm2
    replace hB := Lib.hid (trans0 hB.out hB5)
    clear s0 s1 s2 s3 s4 s5 s6 s7 s8 s9 s10 s11 s12 s13 s14 r0 r1 r2 r3 r4 r5 r6 r7 r8 r9 r10 r11 r12 r13 r14 hB5 hsm hm1 hm2 ha
    obtain ⟨s0, s1, s2, s3, s4, s5, s6, s7, s8, s9, s10, s11, s12, s13, s14⟩ := hS
    obtain ⟨r0, r1, r2, r3, r4, r5, r6, r7, r8, r9, r10, r11, r12, r13, r14⟩ := hS1
    go_wp2_with (fail)
    refine hsm2.out.mono ?_
    rintro e w14 ⟨rfl, hB5⟩
    have hB6 := trans0 hB.out hB5
    clear s0 s1 s2 s3 s4 s5 s6 s7 s8 s9 s10 s11 s12 s13 s14 r0 r1 r2 r3 r4 r5 r6 r7 r8 r9 r10 r11 r12 r13 r14 hB5
    go_wp2
    go_ret
    exact ⟨rfl, hB6⟩
  · have hne : ((k : Int) != 0) = true := by rw [bne_iff_ne]; omega
    go_wp2_with (fail)
    refine hsm.out.mono ?_
    rintro e w13 ⟨rfl, hB5⟩
    have hB6 := trans0 hB.out hB5
    clear s0 s1 s2 s3 s4 s5 s6 s7 s8 s9 s10 s11 s12 s13 s14 r0 r1 r2 r3 r4 r5 r6 r7 r8 r9 r10 r11 r12 r13 r14 hB5
    go_wp2
    go_ret
    exact ⟨rfl, hB6⟩
theorem spoilt (v : Int) (m : Ms) (t : At) (i x : Int) (w : World) (ha : HM w m t) (hx : 0 ≤ x ∧ x ≤ 255) :
    Calls Try.prog 10 #[.int .i64 v, .agg (cm m t), .int .i64 i, .int .u8 x] w (wirV.Yes w) := by
  obtain ⟨x, rfl⟩ := Int.eq_ofNat_of_zero_le hx.1
  by_cases h1 : 6000 < m.vers.length ∨ 6000 < m.vec.length
  · exact sp1 v m t i x w h1
  · by_cases hq : ence v m = 0 ∧ x ≠ 0 ∧ 0 ≤ i ∧ i < (encl v m).length
    · obtain ⟨h2, h3, h4, h5⟩ := hq
      obtain ⟨i, rfl⟩ := Int.eq_ofNat_of_zero_le h4
      rw [(out_eq h2).2.2] at h5
      exact sp3 v m t i x w ha (by omega) h2 h3 (by omega) (by omega)
    · exact sp2 v m t i x w ha (by omega) hq
end Go.Proofs.Ytkbhmeajgmecoaa.wirSp
