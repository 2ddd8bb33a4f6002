/- The statement ChainLater. -/
import Derived.Test.YtbmaaonjohcgbaaChnS
set_option linter.unusedVariables false
namespace Go.Proofs.Ytbmaaonjohcgbaa.chnV
open Go.ChangeShapes Go.WideShapes Go.ChangeAt Go.RowKit Go.Deep
open opV chnM gen chnA chnB chnR chnC chnD chnE chnF chnG chnI chnJ chnK chnL chnN chnO chnOg chnP chnT chnS

/-- the later time, as it is reckoned -/
def lat (s m : Int) : Int := if IntKind.u64.wrap (s + m) < s then 18446744073709551615 else IntKind.u64.wrap (s + m)
theorem lat_ge {s m : Int} (h : s < 18446744073709551616) : s ≤ lat s m := by unfold lat; split <;> omega
/-- what is told of the two times -/
structure Two (L : List Ver) (s t : Int) : Prop where
  was : atB L s = true → atB L t = true
  les : atB L s = true → lt (atV L t) (atV L s) = false
  ts : atB L s = true → ¬ s < (atV L s).ts
theorem two_of {L : List Ver} {s t : Int} (hst : s ≤ t) : Two L s t := by
  refine ⟨fun h => ?_, fun h => ?_, fun h => ?_⟩
  · obtain ⟨h1, h2, h3⟩ := at_yes h; exact at_some h1 (by omega)
  · obtain ⟨h1, h2, h3⟩ := at_yes h
    obtain ⟨g1, g2, g3⟩ := at_yes (at_some h1 (show (atV L s).ts ≤ t by omega))
    exact g3 _ h1 (by omega)
  · obtain ⟨h1, h2, h3⟩ := at_yes h; omega
set_option maxRecDepth 100000 in
set_option maxHeartbeats 4000000 in
theorem later_ot (A : Option Addr) (c : Nat) (l0 : List Ver) (s m t : Int) (v : Ver) (w : World) (h : HV w A c l0) (hov : IntKind.u64.wrap (s + m) < s) (ht : t = 18446744073709551615) (hst : s ≤ t) (hB : atB (ofL l0) s = true) :
    Calls Try.prog 8 #[.slice A l0.length c, .int .u64 s, .int .u64 m, .agg #[.string v.key, .string v.val, .bool v.gone, .int .u64 v.ts, .int .i64 v.dc, .int .i64 v.tx]] w fun e w' => e = .returned (.bool true) ∧ Below w.heap.size w w' := by
  have hof := Lib.hid (fun W (hW : Below w.heap.size w W) => lof_any A c l0 W (h.below hW))
  have hc := ofL_chain l0
  have hl := ofL_len l0
  clear h
  generalize ofL l0 = L at *
  have htw := two_of (L := L) hst
  have hwas := htw.was
  have hles := htw.les
  have hts := htw.ts
  have hpa := fun he hv => put_at (s := s) (v := v) hc he hv
  have ha := Lib.hid (fun A1 c1 w1 (hv : HV w1 A1 c1 L) => at_any A1 c1 L s w1 hv)
  have hb := Lib.hid (fun A1 c1 w1 (hv : HV w1 A1 c1 L) => at_any A1 c1 L t w1 hv)
  have hpu := Lib.hid (fun A1 c1 w1 (hv : HV w1 A1 c1 L) => put_any A1 c1 L v w1 hv (by omega))
  have hcc := Lib.hid (fun A1 c1 w1 (hv : HV w1 A1 c1 (put L v)) => at_any A1 c1 (put L v) s w1 hv)
  have hm0 : Hid (L.length * 64 ≤ 140737488355328 ∧ (L.length + 1) * 64 ≤ 140737488355328) := Lib.hid ⟨by omega, by omega⟩
  rw [hB] at ha hwas hles hts
  have hwas := hwas rfl
  have hles := hles rfl
  have hts := hts rfl
  have hpE : Hid (putE L v = 0 → putL L v = put L v ∧ (put L v).length = L.length + 1) := Lib.hid (fun e => ⟨by unfold putL; rw [if_pos e], put_len L v⟩)
  have hpF : Hid (∀ he : putE L v = 0, ¬ v.ts ≤ s → atB (put L v) s = true ∧ atV (put L v) s = atV L s) := Lib.hid (fun he hv => by rw [← hB]; exact hpa he hv)
  clear htw hpa hB hc hst
  generalize atV L s = V at *
  generalize atV L t = U at *
  generalize atB L t = Bt at *
  rw [ht] at hb
  clear ht
  subst hwas
  have hlc := Lib.hid (less_any (U.ts, U.dc, U.tx) (V.ts, V.dc, V.tx))
  rw [show isAhead (U.ts, U.dc, U.tx) (V.ts, V.dc, V.tx) = false from hles] at hlc
  clear hles
  have hB0 := al0 w (.cells #[.string v.key, .string v.val, .bool v.gone, .int .u64 v.ts, .int .i64 v.dc, .int .i64 v.tx] 25)
  have hv0 := V6.new w v 25
  obtain ⟨W, hW⟩ : ∃ W, w.alloc (.cells #[.string v.key, .string v.val, .bool v.gone, .int .u64 v.ts, .int .i64 v.dc, .int .i64 v.tx] 25) = W := ⟨_, rfl⟩
  rw [hW] at hB0 hv0
  replace hB0 := Lib.hid hB0
  replace hv0 := Lib.hid hv0
  replace hW := Lib.hid hW
  have hq := eql_ver V V
  rw [decide_eq_true rfl] at hq
  go_enter Try.func8, Try.ntmps8
  go_wp2_with (fail)
  rw [hW.out]
  with_reducible refine (hof.out W hB0.out).mono ?_
  rintro e w1 ⟨A1, c1, rfl, hG1, hB1⟩
  have hv1 := Lib.hid (hG1.hv hm0.out.1)
  have hvb := Lib.hid (hv0.out.below hB1)
  have hB1 := Lib.hid (trans0 hB0.out hB1)
  clear hG1 hof hv0
  go_wp2_with (fail)
  with_reducible refine (ha.out A1 c1 w1 hv1.out).mono ?_
  rintro e w2 ⟨rfl, hB2⟩
  have hal := al0 w2 (.cells #[.string V.key, .string V.val, .bool V.gone, .int .u64 V.ts, .int .i64 V.dc, .int .i64 V.tx] 25)
  have hx := V6.new w2 V 25
  obtain ⟨W1, hW1⟩ : ∃ W1, w2.alloc (.cells #[.string V.key, .string V.val, .bool V.gone, .int .u64 V.ts, .int .i64 V.dc, .int .i64 V.tx] 25) = W1 := ⟨_, rfl⟩
  rw [hW1] at hal hx
  have hBW := Lib.hid (trans0 hB1.out (trans0 hB2 hal))
  have hv1w := Lib.hid ((hv1.out.below hB2).below hal)
  have hvbw := Lib.hid ((hvb.out.below hB2).below hal)
  replace hW1 := Lib.hid hW1
  replace hx := Lib.hid hx
  clear hal hB2 hv1 hvb ha
  go_wp2_with (fail)
  rw [hW1.out]
  with_reducible refine (hb.out A1 c1 W1 hv1w.out).mono ?_
  rintro e w3 ⟨rfl, hB3⟩
  have hal := al0 w3 (.cells #[.string U.key, .string U.val, .bool U.gone, .int .u64 U.ts, .int .i64 U.dc, .int .i64 U.tx] 25)
  have hy := V6.new w3 U 25
  obtain ⟨W2, hW2⟩ : ∃ W2, w3.alloc (.cells #[.string U.key, .string U.val, .bool U.gone, .int .u64 U.ts, .int .i64 U.dc, .int .i64 U.tx] 25) = W2 := ⟨_, rfl⟩
  rw [hW2] at hal hy
  have hx2 := (hx.out.below hB3).below hal
  have hBW2 := Lib.hid (trans0 hBW.out (trans0 hB3 hal))
  have hv2 := Lib.hid ((hv1w.out.below hB3).below hal)
  have hvb2 := Lib.hid ((hvbw.out.below hB3).below hal)
  have hS : Hid (S2 w3.heap.size 0 w2.heap.size 0 U V W2.drew ∧ Below W2.heap.size W2 W2.drew) := Lib.hid ⟨⟨hy, hx2⟩, below_drew _⟩
  have hcell := Lib.hid (show V6 w3.heap.size 0 U W2 ∧ V6 w2.heap.size 0 V W2 from ⟨hy, hx2⟩)
  obtain ⟨x0, x1, x2, x3, x4, x5⟩ := hx2
  obtain ⟨y0, y1, y2, y3, y4, y5⟩ := hy
  rw [← hW2] at x0 x1 x2 x3 x4 x5 y0 y1 y2 y3 y4 y5
  replace hW2 := Lib.hid hW2
  clear hal hB3 hv1w hvbw hb
  go_wp2
  rw [hW2.out]
  go_region_held3 (fun w' => S2 w3.heap.size 0 w2.heap.size 0 U V w' ∧ Below W2.heap.size W2 w')
    (first | with_reducible exact hS.out | with_reducible assumption | with_reducible exact ⟨S2.below (And.left (by assumption)) (by assumption), trans0 (And.right (by assumption)) (by assumption)⟩ | fail)
    (first
      | (go_at_call 25; ((with_reducible refine (rof_any _ _).mono ?_); rintro e w' ⟨rfl, hB9⟩))
      | (go_at_call 24; ((with_reducible refine (hlc.out _).mono ?_); rintro e w' ⟨rfl, hB9⟩)) | fail)
  rename_i hHeld
  have hw5 := hHeld.2
  clear hHeld hlc
  obtain ⟨w5, hw5e⟩ : ∃ w5, w5 = w' := ⟨_, rfl⟩
  rw [← hw5e] at hw5
  rw [← hw5e]
  clear hw5e
  have hB4 := Lib.hid (trans0 hBW2.out hw5)
  have hv4 := Lib.hid (hv2.out.below hw5)
  obtain ⟨b0, b1, b2, b3, b4, b5⟩ := hvb2.out.below hw5
  have hvb5 := Lib.hid (hvb2.out.below hw5)
  have hx5 := Lib.hid (hcell.out.2.below hw5)
  have hpu5 := Lib.hid (hpu.out A1 c1 w5 hv4.out)
  clear x0 x1 x2 x3 x4 x5 y0 y1 y2 y3 y4 y5 hpu hS hcell hw5 hv2 hvb2 hx
  go_wp2_with (fail)
  with_reducible refine hpu5.out.mono ?_
  rintro e w6 ⟨A6, c6, rfl, hG6, hB6⟩
  clear b0 b1 b2 b3 b4 b5 hpu5
  obtain ⟨b0, b1, b2, b3, b4, b5⟩ := hvb5.out.below hB6
  have hx6 := Lib.hid (hx5.out.below hB6)
  have hB6' := Lib.hid (trans0 hB4.out hB6)
  clear hB6
  by_cases hp : putE L v = 0
  · by_cases hvs : v.ts ≤ s
    · rw [hp]
      clear hpE hpF hcc hp
      go_wp2_with (fail)
      with_reducible refine (awake_any w6).mono ?_
      rintro e w7 ⟨rfl, hB7⟩
      have hfin := Lib.hid (trans0 hB6'.out hB7)
      clear hB7
      go_wp2
      go_ret
      exact ⟨rfl, hfin.out⟩
    · obtain ⟨e1, e2⟩ := hpE.out hp
      obtain ⟨e3, e4⟩ := hpF.out hp (by omega)
      rw [e1] at hG6
      have hv6 := hG6.hv (by rw [e2]; exact hm0.out.2)
      have hat6 := hcc.out A6 c6 w6 hv6
      rw [e3, e4] at hat6
      replace hat6 := Lib.hid hat6
      rw [hp, e1]
      have hd : decide (v.ts ≤ s) = false := decide_eq_false hvs
      clear hpE hpF hcc hp e3 e4 hG6 hv6 e1 e2 hvs
      generalize put L v = P at *
      go_wp2_with (fail)
      with_reducible refine hat6.out.mono ?_
      rintro e w7 ⟨rfl, hB7⟩
      have hal := al0 w7 (.cells #[.string V.key, .string V.val, .bool V.gone, .int .u64 V.ts, .int .i64 V.dc, .int .i64 V.tx] 25)
      have hz := V6.new w7 V 25
      have hx7 := (hx6.out.below hB7).below hal
      obtain ⟨W8, hW8⟩ : ∃ W8, w7.alloc (.cells #[.string V.key, .string V.val, .bool V.gone, .int .u64 V.ts, .int .i64 V.dc, .int .i64 V.tx] 25) = W8 := ⟨_, rfl⟩
      rw [hW8] at hal hz hx7
      have hB8 := Lib.hid (trans0 hB6'.out (trans0 hB7 hal))
      replace hW8 := Lib.hid hW8
      replace hz := Lib.hid hz
      replace hx7 := Lib.hid hx7
      clear hal hB7 hat6 b0 b1 b2 b3 b4 b5
      go_wp2_with (fail)
      rw [hW8.out]
      with_reducible refine (awake_any W8).mono ?_
      rintro e w9 ⟨rfl, hB9⟩
      obtain ⟨c0, c1', c2, c3, c4, c5⟩ := hx7.out.below hB9
      obtain ⟨d0, d1, d2, d3, d4, d5⟩ := hz.out.below hB9
      have hfin := Lib.hid (trans0 hB8.out hB9)
      clear hB9
      go_wp2
      go_ret
      exact ⟨rfl, hfin.out⟩
  · have hne : ((putE L v : Int) != 0) = true := by rw [bne_iff_ne]; omega
    clear hpE hpF hcc hp hG6
    generalize putE L v = E at *
    generalize putL L v = P at *
    go_wp2_with (fail)
    with_reducible refine (awake_any w6).mono ?_
    rintro e w7 ⟨rfl, hB7⟩
    have hfin := Lib.hid (trans0 hB6'.out hB7)
    clear hB7
    go_wp2
    go_ret
    exact ⟨rfl, hfin.out⟩
set_option maxRecDepth 100000 in
set_option maxHeartbeats 4000000 in
theorem later_of (A : Option Addr) (c : Nat) (l0 : List Ver) (s m t : Int) (v : Ver) (w : World) (h : HV w A c l0) (hov : IntKind.u64.wrap (s + m) < s) (ht : t = 18446744073709551615) (hst : s ≤ t) (hB : atB (ofL l0) s = false) :
    Calls Try.prog 8 #[.slice A l0.length c, .int .u64 s, .int .u64 m, .agg #[.string v.key, .string v.val, .bool v.gone, .int .u64 v.ts, .int .i64 v.dc, .int .i64 v.tx]] w fun e w' => e = .returned (.bool true) ∧ Below w.heap.size w w' := by
  have hof := Lib.hid (fun W (hW : Below w.heap.size w W) => lof_any A c l0 W (h.below hW))
  have hc := ofL_chain l0
  have hl := ofL_len l0
  clear h
  generalize ofL l0 = L at *
  have htw := two_of (L := L) hst
  have hwas := htw.was
  have hles := htw.les
  have hts := htw.ts
  have hpa := fun he hv => put_at (s := s) (v := v) hc he hv
  have ha := Lib.hid (fun A1 c1 w1 (hv : HV w1 A1 c1 L) => at_any A1 c1 L s w1 hv)
  have hb := Lib.hid (fun A1 c1 w1 (hv : HV w1 A1 c1 L) => at_any A1 c1 L t w1 hv)
  have hpu := Lib.hid (fun A1 c1 w1 (hv : HV w1 A1 c1 L) => put_any A1 c1 L v w1 hv (by omega))
  have hcc := Lib.hid (fun A1 c1 w1 (hv : HV w1 A1 c1 (put L v)) => at_any A1 c1 (put L v) s w1 hv)
  have hm0 : Hid (L.length * 64 ≤ 140737488355328 ∧ (L.length + 1) * 64 ≤ 140737488355328) := Lib.hid ⟨by omega, by omega⟩
  rw [hB] at ha hwas hles hts
  clear hwas hles hts
  have hpE : Hid (putE L v = 0 → putL L v = put L v ∧ (put L v).length = L.length + 1) := Lib.hid (fun e => ⟨by unfold putL; rw [if_pos e], put_len L v⟩)
  have hpF : Hid (∀ he : putE L v = 0, ¬ v.ts ≤ s → atB (put L v) s = false ∧ atV (put L v) s = atV L s) := Lib.hid (fun he hv => by rw [← hB]; exact hpa he hv)
  clear htw hpa hB hc hst
  generalize atV L s = V at *
  generalize atV L t = U at *
  generalize atB L t = Bt at *
  rw [ht] at hb
  clear ht
  skip
  have hB0 := al0 w (.cells #[.string v.key, .string v.val, .bool v.gone, .int .u64 v.ts, .int .i64 v.dc, .int .i64 v.tx] 25)
  have hv0 := V6.new w v 25
  obtain ⟨W, hW⟩ : ∃ W, w.alloc (.cells #[.string v.key, .string v.val, .bool v.gone, .int .u64 v.ts, .int .i64 v.dc, .int .i64 v.tx] 25) = W := ⟨_, rfl⟩
  rw [hW] at hB0 hv0
  replace hB0 := Lib.hid hB0
  replace hv0 := Lib.hid hv0
  replace hW := Lib.hid hW
  have hq := eql_ver V V
  rw [decide_eq_true rfl] at hq
  go_enter Try.func8, Try.ntmps8
  go_wp2_with (fail)
  rw [hW.out]
  with_reducible refine (hof.out W hB0.out).mono ?_
  rintro e w1 ⟨A1, c1, rfl, hG1, hB1⟩
  have hv1 := Lib.hid (hG1.hv hm0.out.1)
  have hvb := Lib.hid (hv0.out.below hB1)
  have hB1 := Lib.hid (trans0 hB0.out hB1)
  clear hG1 hof hv0
  go_wp2_with (fail)
  with_reducible refine (ha.out A1 c1 w1 hv1.out).mono ?_
  rintro e w2 ⟨rfl, hB2⟩
  have hal := al0 w2 (.cells #[.string V.key, .string V.val, .bool V.gone, .int .u64 V.ts, .int .i64 V.dc, .int .i64 V.tx] 25)
  have hx := V6.new w2 V 25
  obtain ⟨W1, hW1⟩ : ∃ W1, w2.alloc (.cells #[.string V.key, .string V.val, .bool V.gone, .int .u64 V.ts, .int .i64 V.dc, .int .i64 V.tx] 25) = W1 := ⟨_, rfl⟩
  rw [hW1] at hal hx
  have hBW := Lib.hid (trans0 hB1.out (trans0 hB2 hal))
  have hv1w := Lib.hid ((hv1.out.below hB2).below hal)
  have hvbw := Lib.hid ((hvb.out.below hB2).below hal)
  replace hW1 := Lib.hid hW1
  replace hx := Lib.hid hx
  clear hal hB2 hv1 hvb ha
  go_wp2_with (fail)
  rw [hW1.out]
  with_reducible refine (hb.out A1 c1 W1 hv1w.out).mono ?_
  rintro e w3 ⟨rfl, hB3⟩
  have hal := al0 w3 (.cells #[.string U.key, .string U.val, .bool U.gone, .int .u64 U.ts, .int .i64 U.dc, .int .i64 U.tx] 25)
  have hy := V6.new w3 U 25
  obtain ⟨W2, hW2⟩ : ∃ W2, w3.alloc (.cells #[.string U.key, .string U.val, .bool U.gone, .int .u64 U.ts, .int .i64 U.dc, .int .i64 U.tx] 25) = W2 := ⟨_, rfl⟩
  rw [hW2] at hal hy
  have hx2 := (hx.out.below hB3).below hal
  have hBW2 := Lib.hid (trans0 hBW.out (trans0 hB3 hal))
  have hv2 := Lib.hid ((hv1w.out.below hB3).below hal)
  have hvb2 := Lib.hid ((hvbw.out.below hB3).below hal)
  have hS : Hid (S2 w3.heap.size 0 w2.heap.size 0 U V W2.drew ∧ Below W2.heap.size W2 W2.drew) := Lib.hid ⟨⟨hy, hx2⟩, below_drew _⟩
  have hcell := Lib.hid (show V6 w3.heap.size 0 U W2 ∧ V6 w2.heap.size 0 V W2 from ⟨hy, hx2⟩)
  obtain ⟨x0, x1, x2, x3, x4, x5⟩ := hx2
  obtain ⟨y0, y1, y2, y3, y4, y5⟩ := hy
  rw [← hW2] at x0 x1 x2 x3 x4 x5 y0 y1 y2 y3 y4 y5
  replace hW2 := Lib.hid hW2
  clear hal hB3 hv1w hvbw hb
  go_wp2
  rw [hW2.out]
  go_quiet (fail)
  have hw5 := bdrN nq (Below.refl W2.heap.size W2)
  obtain ⟨w5, hw5e⟩ : ∃ w5, w5 = W2.drewN nq := ⟨_, rfl⟩
  rw [← hw5e] at hw5
  rw [← hw5e]
  clear hw5e
  have hB4 := Lib.hid (trans0 hBW2.out hw5)
  have hv4 := Lib.hid (hv2.out.below hw5)
  obtain ⟨b0, b1, b2, b3, b4, b5⟩ := hvb2.out.below hw5
  have hvb5 := Lib.hid (hvb2.out.below hw5)
  have hx5 := Lib.hid (hcell.out.2.below hw5)
  have hpu5 := Lib.hid (hpu.out A1 c1 w5 hv4.out)
  clear x0 x1 x2 x3 x4 x5 y0 y1 y2 y3 y4 y5 hpu hS hcell hw5 hv2 hvb2 hx
  go_wp2_with (fail)
  with_reducible refine hpu5.out.mono ?_
  rintro e w6 ⟨A6, c6, rfl, hG6, hB6⟩
  clear b0 b1 b2 b3 b4 b5 hpu5
  obtain ⟨b0, b1, b2, b3, b4, b5⟩ := hvb5.out.below hB6
  have hx6 := Lib.hid (hx5.out.below hB6)
  have hB6' := Lib.hid (trans0 hB4.out hB6)
  clear hB6
  by_cases hp : putE L v = 0
  · by_cases hvs : v.ts ≤ s
    · rw [hp]
      clear hpE hpF hcc hp
      go_wp2_with (fail)
      with_reducible refine (awake_any w6).mono ?_
      rintro e w7 ⟨rfl, hB7⟩
      have hfin := Lib.hid (trans0 hB6'.out hB7)
      clear hB7
      go_wp2
      go_ret
      exact ⟨rfl, hfin.out⟩
    · obtain ⟨e1, e2⟩ := hpE.out hp
      obtain ⟨e3, e4⟩ := hpF.out hp (by omega)
      rw [e1] at hG6
      have hv6 := hG6.hv (by rw [e2]; exact hm0.out.2)
      have hat6 := hcc.out A6 c6 w6 hv6
      rw [e3, e4] at hat6
      replace hat6 := Lib.hid hat6
      rw [hp, e1]
      have hd : decide (v.ts ≤ s) = false := decide_eq_false hvs
      clear hpE hpF hcc hp e3 e4 hG6 hv6 e1 e2 hvs
      generalize put L v = P at *
      go_wp2_with (fail)
      with_reducible refine hat6.out.mono ?_
      rintro e w7 ⟨rfl, hB7⟩
      have hal := al0 w7 (.cells #[.string V.key, .string V.val, .bool V.gone, .int .u64 V.ts, .int .i64 V.dc, .int .i64 V.tx] 25)
      have hz := V6.new w7 V 25
      have hx7 := (hx6.out.below hB7).below hal
      obtain ⟨W8, hW8⟩ : ∃ W8, w7.alloc (.cells #[.string V.key, .string V.val, .bool V.gone, .int .u64 V.ts, .int .i64 V.dc, .int .i64 V.tx] 25) = W8 := ⟨_, rfl⟩
      rw [hW8] at hal hz hx7
      have hB8 := Lib.hid (trans0 hB6'.out (trans0 hB7 hal))
      replace hW8 := Lib.hid hW8
      replace hz := Lib.hid hz
      replace hx7 := Lib.hid hx7
      clear hal hB7 hat6 b0 b1 b2 b3 b4 b5
      go_wp2_with (fail)
      rw [hW8.out]
      with_reducible refine (awake_any W8).mono ?_
      rintro e w9 ⟨rfl, hB9⟩
      obtain ⟨c0, c1', c2, c3, c4, c5⟩ := hx7.out.below hB9
      obtain ⟨d0, d1, d2, d3, d4, d5⟩ := hz.out.below hB9
      have hfin := Lib.hid (trans0 hB8.out hB9)
      clear hB9
      go_wp2
      go_ret
      exact ⟨rfl, hfin.out⟩
  · have hne : ((putE L v : Int) != 0) = true := by rw [bne_iff_ne]; omega
    clear hpE hpF hcc hp hG6
    generalize putE L v = E at *
    generalize putL L v = P at *
    go_wp2_with (fail)
    with_reducible refine (awake_any w6).mono ?_
    rintro e w7 ⟨rfl, hB7⟩
    have hfin := Lib.hid (trans0 hB6'.out hB7)
    clear hB7
    go_wp2
    go_ret
    exact ⟨rfl, hfin.out⟩
set_option maxRecDepth 100000 in
set_option maxHeartbeats 4000000 in
theorem later_nt (A : Option Addr) (c : Nat) (l0 : List Ver) (s m t : Int) (v : Ver) (w : World) (h : HV w A c l0) (hov : ¬ IntKind.u64.wrap (s + m) < s) (ht : t = IntKind.u64.wrap (s + m)) (hst : s ≤ t) (hB : atB (ofL l0) s = true) :
    Calls Try.prog 8 #[.slice A l0.length c, .int .u64 s, .int .u64 m, .agg #[.string v.key, .string v.val, .bool v.gone, .int .u64 v.ts, .int .i64 v.dc, .int .i64 v.tx]] w fun e w' => e = .returned (.bool true) ∧ Below w.heap.size w w' := by
  have hof := Lib.hid (fun W (hW : Below w.heap.size w W) => lof_any A c l0 W (h.below hW))
  have hc := ofL_chain l0
  have hl := ofL_len l0
  clear h
  generalize ofL l0 = L at *
  have htw := two_of (L := L) hst
  have hwas := htw.was
  have hles := htw.les
  have hts := htw.ts
  have hpa := fun he hv => put_at (s := s) (v := v) hc he hv
  have ha := Lib.hid (fun A1 c1 w1 (hv : HV w1 A1 c1 L) => at_any A1 c1 L s w1 hv)
  have hb := Lib.hid (fun A1 c1 w1 (hv : HV w1 A1 c1 L) => at_any A1 c1 L t w1 hv)
  have hpu := Lib.hid (fun A1 c1 w1 (hv : HV w1 A1 c1 L) => put_any A1 c1 L v w1 hv (by omega))
  have hcc := Lib.hid (fun A1 c1 w1 (hv : HV w1 A1 c1 (put L v)) => at_any A1 c1 (put L v) s w1 hv)
  have hm0 : Hid (L.length * 64 ≤ 140737488355328 ∧ (L.length + 1) * 64 ≤ 140737488355328) := Lib.hid ⟨by omega, by omega⟩
  rw [hB] at ha hwas hles hts
  have hwas := hwas rfl
  have hles := hles rfl
  have hts := hts rfl
  have hpE : Hid (putE L v = 0 → putL L v = put L v ∧ (put L v).length = L.length + 1) := Lib.hid (fun e => ⟨by unfold putL; rw [if_pos e], put_len L v⟩)
  have hpF : Hid (∀ he : putE L v = 0, ¬ v.ts ≤ s → atB (put L v) s = true ∧ atV (put L v) s = atV L s) := Lib.hid (fun he hv => by rw [← hB]; exact hpa he hv)
  clear htw hpa hB hc hst
  generalize atV L s = V at *
  generalize atV L t = U at *
  generalize atB L t = Bt at *
  rw [ht] at hb
  clear ht
  subst hwas
  have hlc := Lib.hid (less_any (U.ts, U.dc, U.tx) (V.ts, V.dc, V.tx))
  rw [show isAhead (U.ts, U.dc, U.tx) (V.ts, V.dc, V.tx) = false from hles] at hlc
  clear hles
  have hB0 := al0 w (.cells #[.string v.key, .string v.val, .bool v.gone, .int .u64 v.ts, .int .i64 v.dc, .int .i64 v.tx] 25)
  have hv0 := V6.new w v 25
  obtain ⟨W, hW⟩ : ∃ W, w.alloc (.cells #[.string v.key, .string v.val, .bool v.gone, .int .u64 v.ts, .int .i64 v.dc, .int .i64 v.tx] 25) = W := ⟨_, rfl⟩
  rw [hW] at hB0 hv0
  replace hB0 := Lib.hid hB0
  replace hv0 := Lib.hid hv0
  replace hW := Lib.hid hW
  have hq := eql_ver V V
  rw [decide_eq_true rfl] at hq
  go_enter Try.func8, Try.ntmps8
  go_wp2_with (fail)
  rw [hW.out]
  with_reducible refine (hof.out W hB0.out).mono ?_
  rintro e w1 ⟨A1, c1, rfl, hG1, hB1⟩
  have hv1 := Lib.hid (hG1.hv hm0.out.1)
  have hvb := Lib.hid (hv0.out.below hB1)
  have hB1 := Lib.hid (trans0 hB0.out hB1)
  clear hG1 hof hv0
  go_wp2_with (fail)
  with_reducible refine (ha.out A1 c1 w1 hv1.out).mono ?_
  rintro e w2 ⟨rfl, hB2⟩
  have hal := al0 w2 (.cells #[.string V.key, .string V.val, .bool V.gone, .int .u64 V.ts, .int .i64 V.dc, .int .i64 V.tx] 25)
  have hx := V6.new w2 V 25
  obtain ⟨W1, hW1⟩ : ∃ W1, w2.alloc (.cells #[.string V.key, .string V.val, .bool V.gone, .int .u64 V.ts, .int .i64 V.dc, .int .i64 V.tx] 25) = W1 := ⟨_, rfl⟩
  rw [hW1] at hal hx
  have hBW := Lib.hid (trans0 hB1.out (trans0 hB2 hal))
  have hv1w := Lib.hid ((hv1.out.below hB2).below hal)
  have hvbw := Lib.hid ((hvb.out.below hB2).below hal)
  replace hW1 := Lib.hid hW1
  replace hx := Lib.hid hx
  clear hal hB2 hv1 hvb ha
  go_wp2_with (fail)
  rw [hW1.out]
  with_reducible refine (hb.out A1 c1 W1 hv1w.out).mono ?_
  rintro e w3 ⟨rfl, hB3⟩
  have hal := al0 w3 (.cells #[.string U.key, .string U.val, .bool U.gone, .int .u64 U.ts, .int .i64 U.dc, .int .i64 U.tx] 25)
  have hy := V6.new w3 U 25
  obtain ⟨W2, hW2⟩ : ∃ W2, w3.alloc (.cells #[.string U.key, .string U.val, .bool U.gone, .int .u64 U.ts, .int .i64 U.dc, .int .i64 U.tx] 25) = W2 := ⟨_, rfl⟩
  rw [hW2] at hal hy
  have hx2 := (hx.out.below hB3).below hal
  have hBW2 := Lib.hid (trans0 hBW.out (trans0 hB3 hal))
  have hv2 := Lib.hid ((hv1w.out.below hB3).below hal)
  have hvb2 := Lib.hid ((hvbw.out.below hB3).below hal)
  have hS : Hid (S2 w3.heap.size 0 w2.heap.size 0 U V W2.drew ∧ Below W2.heap.size W2 W2.drew) := Lib.hid ⟨⟨hy, hx2⟩, below_drew _⟩
  have hcell := Lib.hid (show V6 w3.heap.size 0 U W2 ∧ V6 w2.heap.size 0 V W2 from ⟨hy, hx2⟩)
  obtain ⟨x0, x1, x2, x3, x4, x5⟩ := hx2
  obtain ⟨y0, y1, y2, y3, y4, y5⟩ := hy
  rw [← hW2] at x0 x1 x2 x3 x4 x5 y0 y1 y2 y3 y4 y5
  replace hW2 := Lib.hid hW2
  clear hal hB3 hv1w hvbw hb
  go_wp2
  rw [hW2.out]
  go_region_held3 (fun w' => S2 w3.heap.size 0 w2.heap.size 0 U V w' ∧ Below W2.heap.size W2 w')
    (first | with_reducible exact hS.out | with_reducible assumption | with_reducible exact ⟨S2.below (And.left (by assumption)) (by assumption), trans0 (And.right (by assumption)) (by assumption)⟩ | fail)
    (first
      | (go_at_call 25; ((with_reducible refine (rof_any _ _).mono ?_); rintro e w' ⟨rfl, hB9⟩))
      | (go_at_call 24; ((with_reducible refine (hlc.out _).mono ?_); rintro e w' ⟨rfl, hB9⟩)) | fail)
  rename_i hHeld
  have hw5 := hHeld.2
  clear hHeld hlc
  obtain ⟨w5, hw5e⟩ : ∃ w5, w5 = w' := ⟨_, rfl⟩
  rw [← hw5e] at hw5
  rw [← hw5e]
  clear hw5e
  have hB4 := Lib.hid (trans0 hBW2.out hw5)
  have hv4 := Lib.hid (hv2.out.below hw5)
  obtain ⟨b0, b1, b2, b3, b4, b5⟩ := hvb2.out.below hw5
  have hvb5 := Lib.hid (hvb2.out.below hw5)
  have hx5 := Lib.hid (hcell.out.2.below hw5)
  have hpu5 := Lib.hid (hpu.out A1 c1 w5 hv4.out)
  clear x0 x1 x2 x3 x4 x5 y0 y1 y2 y3 y4 y5 hpu hS hcell hw5 hv2 hvb2 hx
  go_wp2_with (fail)
  with_reducible refine hpu5.out.mono ?_
  rintro e w6 ⟨A6, c6, rfl, hG6, hB6⟩
  clear b0 b1 b2 b3 b4 b5 hpu5
  obtain ⟨b0, b1, b2, b3, b4, b5⟩ := hvb5.out.below hB6
  have hx6 := Lib.hid (hx5.out.below hB6)
  have hB6' := Lib.hid (trans0 hB4.out hB6)
  clear hB6
  by_cases hp : putE L v = 0
  · by_cases hvs : v.ts ≤ s
    · rw [hp]
      clear hpE hpF hcc hp
      go_wp2_with (fail)
      with_reducible refine (awake_any w6).mono ?_
      rintro e w7 ⟨rfl, hB7⟩
      have hfin := Lib.hid (trans0 hB6'.out hB7)
      clear hB7
      go_wp2
      go_ret
      exact ⟨rfl, hfin.out⟩
    · obtain ⟨e1, e2⟩ := hpE.out hp
      obtain ⟨e3, e4⟩ := hpF.out hp (by omega)
      rw [e1] at hG6
      have hv6 := hG6.hv (by rw [e2]; exact hm0.out.2)
      have hat6 := hcc.out A6 c6 w6 hv6
      rw [e3, e4] at hat6
      replace hat6 := Lib.hid hat6
      rw [hp, e1]
      have hd : decide (v.ts ≤ s) = false := decide_eq_false hvs
      clear hpE hpF hcc hp e3 e4 hG6 hv6 e1 e2 hvs
      generalize put L v = P at *
      go_wp2_with (fail)
      with_reducible refine hat6.out.mono ?_
      rintro e w7 ⟨rfl, hB7⟩
      have hal := al0 w7 (.cells #[.string V.key, .string V.val, .bool V.gone, .int .u64 V.ts, .int .i64 V.dc, .int .i64 V.tx] 25)
      have hz := V6.new w7 V 25
      have hx7 := (hx6.out.below hB7).below hal
      obtain ⟨W8, hW8⟩ : ∃ W8, w7.alloc (.cells #[.string V.key, .string V.val, .bool V.gone, .int .u64 V.ts, .int .i64 V.dc, .int .i64 V.tx] 25) = W8 := ⟨_, rfl⟩
      rw [hW8] at hal hz hx7
      have hB8 := Lib.hid (trans0 hB6'.out (trans0 hB7 hal))
      replace hW8 := Lib.hid hW8
      replace hz := Lib.hid hz
      replace hx7 := Lib.hid hx7
      clear hal hB7 hat6 b0 b1 b2 b3 b4 b5
      go_wp2_with (fail)
      rw [hW8.out]
      with_reducible refine (awake_any W8).mono ?_
      rintro e w9 ⟨rfl, hB9⟩
      obtain ⟨c0, c1', c2, c3, c4, c5⟩ := hx7.out.below hB9
      obtain ⟨d0, d1, d2, d3, d4, d5⟩ := hz.out.below hB9
      have hfin := Lib.hid (trans0 hB8.out hB9)
      clear hB9
      go_wp2
      go_ret
      exact ⟨rfl, hfin.out⟩
  · have hne : ((putE L v : Int) != 0) = true := by rw [bne_iff_ne]; omega
    clear hpE hpF hcc hp hG6
    generalize putE L v = E at *
    generalize putL L v = P at *
    go_wp2_with (fail)
    with_reducible refine (awake_any w6).mono ?_
    rintro e w7 ⟨rfl, hB7⟩
    have hfin := Lib.hid (trans0 hB6'.out hB7)
    clear hB7
    go_wp2
    go_ret
    exact ⟨rfl, hfin.out⟩
set_option maxRecDepth 100000 in
set_option maxHeartbeats 4000000 in
theorem later_nf (A : Option Addr) (c : Nat) (l0 : List Ver) (s m t : Int) (v : Ver) (w : World) (h : HV w A c l0) (hov : ¬ IntKind.u64.wrap (s + m) < s) (ht : t = IntKind.u64.wrap (s + m)) (hst : s ≤ t) (hB : atB (ofL l0) s = false) :
    Calls Try.prog 8 #[.slice A l0.length c, .int .u64 s, .int .u64 m, .agg #[.string v.key, .string v.val, .bool v.gone, .int .u64 v.ts, .int .i64 v.dc, .int .i64 v.tx]] w fun e w' => e = .returned (.bool true) ∧ Below w.heap.size w w' := by
  have hof := Lib.hid (fun W (hW : Below w.heap.size w W) => lof_any A c l0 W (h.below hW))
  have hc := ofL_chain l0
  have hl := ofL_len l0
  clear h
  generalize ofL l0 = L at *
  have htw := two_of (L := L) hst
  have hwas := htw.was
  have hles := htw.les
  have hts := htw.ts
  have hpa := fun he hv => put_at (s := s) (v := v) hc he hv
  have ha := Lib.hid (fun A1 c1 w1 (hv : HV w1 A1 c1 L) => at_any A1 c1 L s w1 hv)
  have hb := Lib.hid (fun A1 c1 w1 (hv : HV w1 A1 c1 L) => at_any A1 c1 L t w1 hv)
  have hpu := Lib.hid (fun A1 c1 w1 (hv : HV w1 A1 c1 L) => put_any A1 c1 L v w1 hv (by omega))
  have hcc := Lib.hid (fun A1 c1 w1 (hv : HV w1 A1 c1 (put L v)) => at_any A1 c1 (put L v) s w1 hv)
  have hm0 : Hid (L.length * 64 ≤ 140737488355328 ∧ (L.length + 1) * 64 ≤ 140737488355328) := Lib.hid ⟨by omega, by omega⟩
  rw [hB] at ha hwas hles hts
  clear hwas hles hts
  have hpE : Hid (putE L v = 0 → putL L v = put L v ∧ (put L v).length = L.length + 1) := Lib.hid (fun e => ⟨by unfold putL; rw [if_pos e], put_len L v⟩)
  have hpF : Hid (∀ he : putE L v = 0, ¬ v.ts ≤ s → atB (put L v) s = false ∧ atV (put L v) s = atV L s) := Lib.hid (fun he hv => by rw [← hB]; exact hpa he hv)
  clear htw hpa hB hc hst
  generalize atV L s = V at *
  generalize atV L t = U at *
  generalize atB L t = Bt at *
  rw [ht] at hb
  clear ht
  skip
  have hB0 := al0 w (.cells #[.string v.key, .string v.val, .bool v.gone, .int .u64 v.ts, .int .i64 v.dc, .int .i64 v.tx] 25)
  have hv0 := V6.new w v 25
  obtain ⟨W, hW⟩ : ∃ W, w.alloc (.cells #[.string v.key, .string v.val, .bool v.gone, .int .u64 v.ts, .int .i64 v.dc, .int .i64 v.tx] 25) = W := ⟨_, rfl⟩
  rw [hW] at hB0 hv0
  replace hB0 := Lib.hid hB0
  replace hv0 := Lib.hid hv0
  replace hW := Lib.hid hW
  have hq := eql_ver V V
  rw [decide_eq_true rfl] at hq
  go_enter Try.func8, Try.ntmps8
  go_wp2_with (fail)
  rw [hW.out]
  with_reducible refine (hof.out W hB0.out).mono ?_
  rintro e w1 ⟨A1, c1, rfl, hG1, hB1⟩
  have hv1 := Lib.hid (hG1.hv hm0.out.1)
  have hvb := Lib.hid (hv0.out.below hB1)
  have hB1 := Lib.hid (trans0 hB0.out hB1)
  clear hG1 hof hv0
  go_wp2_with (fail)
  with_reducible refine (ha.out A1 c1 w1 hv1.out).mono ?_
  rintro e w2 ⟨rfl, hB2⟩
  have hal := al0 w2 (.cells #[.string V.key, .string V.val, .bool V.gone, .int .u64 V.ts, .int .i64 V.dc, .int .i64 V.tx] 25)
  have hx := V6.new w2 V 25
  obtain ⟨W1, hW1⟩ : ∃ W1, w2.alloc (.cells #[.string V.key, .string V.val, .bool V.gone, .int .u64 V.ts, .int .i64 V.dc, .int .i64 V.tx] 25) = W1 := ⟨_, rfl⟩
  rw [hW1] at hal hx
  have hBW := Lib.hid (trans0 hB1.out (trans0 hB2 hal))
  have hv1w := Lib.hid ((hv1.out.below hB2).below hal)
  have hvbw := Lib.hid ((hvb.out.below hB2).below hal)
  replace hW1 := Lib.hid hW1
  replace hx := Lib.hid hx
  clear hal hB2 hv1 hvb ha
  go_wp2_with (fail)
  rw [hW1.out]
  with_reducible refine (hb.out A1 c1 W1 hv1w.out).mono ?_
  rintro e w3 ⟨rfl, hB3⟩
  have hal := al0 w3 (.cells #[.string U.key, .string U.val, .bool U.gone, .int .u64 U.ts, .int .i64 U.dc, .int .i64 U.tx] 25)
  have hy := V6.new w3 U 25
  obtain ⟨W2, hW2⟩ : ∃ W2, w3.alloc (.cells #[.string U.key, .string U.val, .bool U.gone, .int .u64 U.ts, .int .i64 U.dc, .int .i64 U.tx] 25) = W2 := ⟨_, rfl⟩
  rw [hW2] at hal hy
  have hx2 := (hx.out.below hB3).below hal
  have hBW2 := Lib.hid (trans0 hBW.out (trans0 hB3 hal))
  have hv2 := Lib.hid ((hv1w.out.below hB3).below hal)
  have hvb2 := Lib.hid ((hvbw.out.below hB3).below hal)
  have hS : Hid (S2 w3.heap.size 0 w2.heap.size 0 U V W2.drew ∧ Below W2.heap.size W2 W2.drew) := Lib.hid ⟨⟨hy, hx2⟩, below_drew _⟩
  have hcell := Lib.hid (show V6 w3.heap.size 0 U W2 ∧ V6 w2.heap.size 0 V W2 from ⟨hy, hx2⟩)
  obtain ⟨x0, x1, x2, x3, x4, x5⟩ := hx2
  obtain ⟨y0, y1, y2, y3, y4, y5⟩ := hy
  rw [← hW2] at x0 x1 x2 x3 x4 x5 y0 y1 y2 y3 y4 y5
  replace hW2 := Lib.hid hW2
  clear hal hB3 hv1w hvbw hb
  go_wp2
  rw [hW2.out]
  go_quiet (fail)
  have hw5 := bdrN nq (Below.refl W2.heap.size W2)
  obtain ⟨w5, hw5e⟩ : ∃ w5, w5 = W2.drewN nq := ⟨_, rfl⟩
  rw [← hw5e] at hw5
  rw [← hw5e]
  clear hw5e
  have hB4 := Lib.hid (trans0 hBW2.out hw5)
  have hv4 := Lib.hid (hv2.out.below hw5)
  obtain ⟨b0, b1, b2, b3, b4, b5⟩ := hvb2.out.below hw5
  have hvb5 := Lib.hid (hvb2.out.below hw5)
  have hx5 := Lib.hid (hcell.out.2.below hw5)
  have hpu5 := Lib.hid (hpu.out A1 c1 w5 hv4.out)
  clear x0 x1 x2 x3 x4 x5 y0 y1 y2 y3 y4 y5 hpu hS hcell hw5 hv2 hvb2 hx
  go_wp2_with (fail)
  with_reducible refine hpu5.out.mono ?_
  rintro e w6 ⟨A6, c6, rfl, hG6, hB6⟩
  clear b0 b1 b2 b3 b4 b5 hpu5
  obtain ⟨b0, b1, b2, b3, b4, b5⟩ := hvb5.out.below hB6
  have hx6 := Lib.hid (hx5.out.below hB6)
  have hB6' := Lib.hid (trans0 hB4.out hB6)
  clear hB6
  by_cases hp : putE L v = 0
  · by_cases hvs : v.ts ≤ s
    · rw [hp]
      clear hpE hpF hcc hp
      go_wp2_with (fail)
      with_reducible refine (awake_any w6).mono ?_
      rintro e w7 ⟨rfl, hB7⟩
      have hfin := Lib.hid (trans0 hB6'.out hB7)
      clear hB7
      go_wp2
      go_ret
      exact ⟨rfl, hfin.out⟩
    · obtain ⟨e1, e2⟩ := hpE.out hp
      obtain ⟨e3, e4⟩ := hpF.out hp (by omega)
      rw [e1] at hG6
      have hv6 := hG6.hv (by rw [e2]; exact hm0.out.2)
      have hat6 := hcc.out A6 c6 w6 hv6
      rw [e3, e4] at hat6
      replace hat6 := Lib.hid hat6
      rw [hp, e1]
      have hd : decide (v.ts ≤ s) = false := decide_eq_false hvs
      clear hpE hpF hcc hp e3 e4 hG6 hv6 e1 e2 hvs
      generalize put L v = P at *
      go_wp2_with (fail)
      with_reducible refine hat6.out.mono ?_
      rintro e w7 ⟨rfl, hB7⟩
      have hal := al0 w7 (.cells #[.string V.key, .string V.val, .bool V.gone, .int .u64 V.ts, .int .i64 V.dc, .int .i64 V.tx] 25)
      have hz := V6.new w7 V 25
      have hx7 := (hx6.out.below hB7).below hal
      obtain ⟨W8, hW8⟩ : ∃ W8, w7.alloc (.cells #[.string V.key, .string V.val, .bool V.gone, .int .u64 V.ts, .int .i64 V.dc, .int .i64 V.tx] 25) = W8 := ⟨_, rfl⟩
      rw [hW8] at hal hz hx7
      have hB8 := Lib.hid (trans0 hB6'.out (trans0 hB7 hal))
      replace hW8 := Lib.hid hW8
      replace hz := Lib.hid hz
      replace hx7 := Lib.hid hx7
      clear hal hB7 hat6 b0 b1 b2 b3 b4 b5
      go_wp2_with (fail)
      rw [hW8.out]
      with_reducible refine (awake_any W8).mono ?_
      rintro e w9 ⟨rfl, hB9⟩
      obtain ⟨c0, c1', c2, c3, c4, c5⟩ := hx7.out.below hB9
      obtain ⟨d0, d1, d2, d3, d4, d5⟩ := hz.out.below hB9
      have hfin := Lib.hid (trans0 hB8.out hB9)
      clear hB9
      go_wp2
      go_ret
      exact ⟨rfl, hfin.out⟩
  · have hne : ((putE L v : Int) != 0) = true := by rw [bne_iff_ne]; omega
    clear hpE hpF hcc hp hG6
    generalize putE L v = E at *
    generalize putL L v = P at *
    go_wp2_with (fail)
    with_reducible refine (awake_any w6).mono ?_
    rintro e w7 ⟨rfl, hB7⟩
    have hfin := Lib.hid (trans0 hB6'.out hB7)
    clear hB7
    go_wp2
    go_ret
    exact ⟨rfl, hfin.out⟩
theorem later (A : Option Addr) (c : Nat) (l0 : List Ver) (s m : Int) (v : Ver) (w : World) (h : HV w A c l0) (h64 : s < 18446744073709551616) :
    Calls Try.prog 8 #[.slice A l0.length c, .int .u64 s, .int .u64 m, .agg #[.string v.key, .string v.val, .bool v.gone, .int .u64 v.ts, .int .i64 v.dc, .int .i64 v.tx]] w fun e w' => e = .returned (.bool true) ∧ Below w.heap.size w w' := by
  by_cases hov : IntKind.u64.wrap (s + m) < s
  · cases hB : atB (ofL l0) s
    · exact later_of A c l0 s m _ v w h hov rfl (by omega) hB
    · exact later_ot A c l0 s m _ v w h hov rfl (by omega) hB
  · cases hB : atB (ofL l0) s
    · exact later_nf A c l0 s m _ v w h hov rfl (by omega) hB
    · exact later_nt A c l0 s m _ v w h hov rfl (by omega) hB
end Go.Proofs.Ytbmaaonjohcgbaa.chnV
