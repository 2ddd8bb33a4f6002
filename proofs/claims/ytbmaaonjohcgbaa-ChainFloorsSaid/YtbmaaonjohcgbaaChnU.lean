/- The statement ChainFloors. -/
import Derived.Test.YtbmaaonjohcgbaaChnS
set_option linter.unusedVariables false
namespace Go.Proofs.Ytbmaaonjohcgbaa.chnU
open Go.ChangeShapes Go.WideShapes Go.ChangeAt Go.RowKit Go.Deep
open opV chnM gen chnA chnB chnR chnC chnD chnE chnF chnG chnI chnJ chnK chnL chnN chnO chnOg chnP chnT chnS

set_option maxRecDepth 100000 in
set_option maxHeartbeats 4000000 in
theorem floors (A : Option Addr) (c : Nat) (l0 : List Ver) (fl sn : Int) (w : World) (h : HV w A c l0) :
    Calls Try.prog 9 #[.slice A l0.length c, .int .u64 fl, .int .u64 sn] w fun e w' => e = .returned (.bool true) ∧ Below w.heap.size w w' := by
  have hof := Lib.hid (lof_any A c l0 w h)
  have hc := ofL_chain l0
  have hl := ofL_len l0
  clear h
  generalize ofL l0 = L at *
  have htl := trm_le L fl
  have htt := trm_trm L fl
  have hs2 : fl ≤ max sn fl := Int.le_max_right _ _
  obtain ⟨hat1, hat2⟩ := trm_at hc hs2
  have htr := Lib.hid (fun A1 c1 w1 (hv : HV w1 A1 c1 L) => trim_any A1 c1 L fl w1 hv)
  have htr2 := Lib.hid (fun A1 c1 w1 (hv : HV w1 A1 c1 (trm L fl)) => trim_any A1 c1 (trm L fl) fl w1 hv)
  rw [htt, Nat.sub_self] at htr2
  have ha := Lib.hid (fun A1 c1 w1 (hv : HV w1 A1 c1 L) => at_any A1 c1 L (max sn fl) w1 hv)
  have hb := Lib.hid (fun A1 c1 w1 (hv : HV w1 A1 c1 (trm L fl)) => at_any A1 c1 (trm L fl) (max sn fl) w1 hv)
  rw [hat1, hat2] at hb
  have hml : (trm L fl).length ≤ 40 := by omega
  clear hat1 hat2 htt hc hs2
  generalize trm L fl = m at *
  generalize atV L (max sn fl) = V at *
  generalize atB L (max sn fl) = Bq at *
  obtain ⟨E, hE⟩ : ∃ E, L.length - m.length = E := ⟨_, rfl⟩
  rw [hE] at htr
  have hEI : (E : Int) = (L.length : Int) - (m.length : Int) := by omega
  have hE1 : ((E : Int) != (L.length : Int) - (m.length : Int)) = false := by rw [bne_eq_false_iff_eq]; exact hEI
  have hE0 : (0 : Int) ≤ (E : Int) := by omega
  have hm0 : Hid (m.length * 64 ≤ 140737488355328 ∧ L.length * 64 ≤ 140737488355328) := Lib.hid ⟨by omega, by omega⟩
  have hq := eql_ver V V
  rw [decide_eq_true rfl] at hq
  clear hE hEI
  go_enter Try.func9, Try.ntmps9
  go_wp2_with (fail)
  refine hof.out.mono ?_
  rintro e w1 ⟨A1, c1, rfl, hG1, hB1⟩
  have hv1 := Lib.hid (hG1.hv hm0.out.2)
  replace hB1 := Lib.hid hB1
  clear hG1 hof
  go_wp2_with (fail)
  refine (htr.out A1 c1 w1 hv1.out).mono ?_
  rintro e w2 ⟨A2, c2, rfl, hG2, hB2⟩
  have hv2 := Lib.hid (hG2.hv hm0.out.1)
  have hv12 := Lib.hid (hv1.out.below hB2)
  have hB2' := Lib.hid (trans0 hB1.out hB2)
  clear hG2 hB2 htr
  go_wp2_with (fail)
  refine (htr2.out A2 c2 w2 hv2.out).mono ?_
  rintro e w3 ⟨A3, c3, rfl, -, hB3⟩
  have hv23 := Lib.hid (hv2.out.below hB3)
  have hv13 := Lib.hid (hv12.out.below hB3)
  have hB3' := Lib.hid (trans0 hB2'.out hB3)
  clear hB3 htr2 hE1 hE0
  cases Bq
  all_goals
    go_wp2_with (fail)
    refine (ha.out A1 c1 w3 hv13.out).mono ?_
    rintro e w4 ⟨rfl, hB4⟩
    have hal := al0 w4 (.cells #[.string V.key, .string V.val, .bool V.gone, .int .u64 V.ts, .int .i64 V.dc, .int .i64 V.tx] 25)
    have hx := V6.new w4 V 25
    obtain ⟨W1, hW1⟩ : ∃ W1, w4.alloc (.cells #[.string V.key, .string V.val, .bool V.gone, .int .u64 V.ts, .int .i64 V.dc, .int .i64 V.tx] 25) = W1 := ⟨_, rfl⟩
    rw [hW1] at hal hx
    have hBW := Lib.hid (trans0 hB3'.out (trans0 hB4 hal))
    have hv2w := Lib.hid ((hv23.out.below hB4).below hal)
    replace hW1 := Lib.hid hW1
    replace hx := Lib.hid hx
    clear hal hB4
    go_wp2_with (fail)
    rw [hW1.out]
    refine (hb.out A2 c2 W1 hv2w.out).mono ?_
    rintro e w5 ⟨rfl, hB5⟩
    have hal := al0 w5 (.cells #[.string V.key, .string V.val, .bool V.gone, .int .u64 V.ts, .int .i64 V.dc, .int .i64 V.tx] 25)
    have hy := V6.new w5 V 25
    have hx2 := (hx.out.below hB5).below hal
    obtain ⟨W2, hW2⟩ : ∃ W2, w5.alloc (.cells #[.string V.key, .string V.val, .bool V.gone, .int .u64 V.ts, .int .i64 V.dc, .int .i64 V.tx] 25) = W2 := ⟨_, rfl⟩
    rw [hW2] at hal hy hx2
    have hBW2 := Lib.hid (trans0 hBW.out (trans0 hB5 hal))
    replace hW2 := Lib.hid hW2
    replace hy := Lib.hid hy
    replace hx2 := Lib.hid hx2
    clear hal hB5
    go_wp2_with (fail)
    rw [hW2.out]
    refine (awake_any W2).mono ?_
    rintro e w6 ⟨rfl, hB6⟩
    obtain ⟨c0, c1, c2, c3, c4, c5⟩ := hx2.out.below hB6
    obtain ⟨d0, d1, d2, d3, d4, d5⟩ := hy.out.below hB6
    have hfin := Lib.hid (trans0 hBW2.out hB6)
    clear hB6
    go_wp2
    go_ret
    exact ⟨rfl, hfin.out⟩
end Go.Proofs.Ytbmaaonjohcgbaa.chnU
