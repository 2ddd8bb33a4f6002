/- The contract of the document's At; awake; the statement ChainSees. -/
import Derived.Test.YtbmaaonjohcgbaaChnE
set_option linter.unusedVariables false
namespace Go.Proofs.Ytbmaaonjohcgbaa.chnF
open Go.ChangeShapes Go.WideShapes Go.ChangeAt Go.RowKit Go.Deep
open opV chnM gen chnA chnB chnR chnC chnD chnE

set_option maxRecDepth 100000 in
set_option maxHeartbeats 2000000 in
theorem rat_any (A : Option Addr) (c : Nat) (l : List Ver) (sn : Int) (w : World) (h0 : HV w A c l) :
    Calls Try.prog 18 #[.slice A l.length c, .int .u64 sn] w fun e w' => e = .returned (.tuple #[vv (atV l sn), .bool (atB l sn)]) ∧ Below w.heap.size w w' := by
  have hl9 : l.length ≤ 9223372036854775807 := Nat.le_trans h0.le h0.top
  obtain ⟨W, hW⟩ : ∃ W, w.alloc (.cells #[.string { data := #[] }, .string { data := #[] }, .bool false, .int .u64 0, .int .i64 0, .int .i64 0] 25) = W := ⟨_, rfl⟩
  have hz : Hid (R6 w.heap.size default W) := Lib.hid (by rw [← hW]; exact R6.new w default)
  have hBW := Lib.hid (show Below w.heap.size w W by rw [← hW]; exact al0 _ _)
  have h := Lib.hid (h0.below hBW.out)
  have hsn := Lib.hid (seen_any A c l sn W h.out)
  replace hW := Lib.hid hW
  clear h0
  obtain ⟨V, hV⟩ : ∃ V, atV l sn = V := ⟨_, rfl⟩
  obtain ⟨Bq, hBq⟩ : ∃ Bq, atB l sn = Bq := ⟨_, rfl⟩
  rw [hV, hBq]
  replace hV := Lib.hid hV
  replace hBq := Lib.hid hBq
  go_enter Try.func18, Try.ntmps18
  go_wp2_with (fail)
  rw [hW.out]
  refine hsn.out.mono ?_
  rintro e wr ⟨rfl, hB⟩
  have hR := hz.out.below hB
  have hBw := Lib.hid (trans0 hBW.out hB)
  have hcc := Lib.hid (fun (k : Nat) (hk : k < l.length) => (h.out.below hB).at hk)
  clear hsn hB
  rcases seen_spec l sn l.length with ⟨h1, -⟩ | ⟨k, h1, hk, -⟩
  · have e1 : snA l sn = -1 := h1
    have hb : atB l sn = false := by unfold atB; rw [e1]; rfl
    have hv : atV l sn = default := by unfold atV; rw [if_neg (by omega)]
    have hRp := hR.put default
    have hfin := Lib.hid (put6_below hBw.out (Nat.le_refl _) default)
    obtain rfl : Bq = false := by rw [← hBq.out, hb]
    obtain rfl : V = default := by rw [← hV.out, hv]
    rw [e1]
    obtain ⟨z0, z1, z2, z3, z4, z5⟩ := hR.v6
    obtain ⟨f0, f1, f2, f3, f4, f5⟩ := hR.fz
    have hRp := Lib.hid hRp
    clear hR e1 h1 hb hv
    go_wp2
    change bodyPost _ _ _ _ _ (put6 wr w.heap.size default)
    have hRq := hRp.out
    have hfq := hfin.out
    clear hRp hfin z0 z1 z2 z3 z4 z5 f0 f1 f2 f3 f4 f5
    generalize put6 wr w.heap.size default = w9 at *
    obtain ⟨y0, y1, y2, y3, y4, y5⟩ := hRq.v6
    refine bodyPost_ret (v := .tuple #[vv default, .bool false]) ?_ rfl ⟨rfl, hfq⟩
    clear hRq hfq
    simp only [default, Inhabited.default] at y0 y1 y2 y3 y4 y5
    simp [results, Try.results18, go_sem, y0, y1, y2, y3, y4, y5, default, Inhabited.default]
  · have e1 : snA l sn = (k : Nat) := h1
    have hb : atB l sn = true := by unfold atB; rw [e1]; exact decide_eq_true (by omega)
    have hv : atV l sn = nt l k := by unfold atV; rw [if_pos (by omega), e1]; rfl
    obtain ⟨pb, po, rfl, hpb, hc⟩ := hcc.out k hk
    have hk0 : (0 : Int) ≤ (k : Int) := by omega
    have hkI : (k : Int) < (l.length : Int) := by omega
    obtain rfl : Bq = true := by rw [← hBq.out, hb]
    rw [show nt l k = V by rw [← hV.out, hv]] at hc
    rw [e1]
    obtain ⟨c0, c1, c2, c3, c4, c5⟩ := hc
    have hRp := hR.put V
    have hfin := Lib.hid (put6_below hBw.out (Nat.le_refl _) V)
    obtain ⟨z0, z1, z2, z3, z4, z5⟩ := hR.v6
    obtain ⟨f0, f1, f2, f3, f4, f5⟩ := hR.fz
    have hRp := Lib.hid hRp
    clear hR e1 h1 hb hv
    go_wp2
    change bodyPost _ _ _ _ _ (put6 wr w.heap.size V)
    have hRq := hRp.out
    have hfq := hfin.out
    clear hRp hfin z0 z1 z2 z3 z4 z5 f0 f1 f2 f3 f4 f5
    generalize put6 wr w.heap.size V = w9 at *
    obtain ⟨y0, y1, y2, y3, y4, y5⟩ := hRq.v6
    refine bodyPost_ret (v := .tuple #[vv V, .bool true]) ?_ rfl ⟨rfl, hfq⟩
    clear hRq hfq
    simp [results, Try.results18, go_sem, y0, y1, y2, y3, y4, y5]
/-! ### awake -/
def vk3 : Ver := ⟨{ data := #[107] }, { data := #[] }, false, 3, 0, 0⟩
def vk7 : Ver := ⟨{ data := #[107] }, { data := #[] }, false, 7, 0, 0⟩
theorem HV.two (w : World) (x y : Ver) (t : TypeId) : HV (w.alloc (.cells #[.string x.key, .string x.val, .bool x.gone, .int .u64 x.ts, .int .i64 x.dc, .int .i64 x.tx, .string y.key, .string y.val, .bool y.gone, .int .u64 y.ts, .int .i64 y.dc, .int .i64 y.tx] t)) (some ⟨w.heap.size, 0, none⟩) 2 [x, y] := by
  have h := fun (j : Nat) (u : Value) (hu : (#[.string x.key, .string x.val, .bool x.gone, .int .u64 x.ts, .int .i64 x.dc, .int .i64 x.tx, .string y.key, .string y.val, .bool y.gone, .int .u64 y.ts, .int .i64 y.dc, .int .i64 y.tx] : Array Value)[j]? = some u) =>
    (cell_of_row _ _ j _ t (0, 0) (heap_alloc_new w (.cells #[.string x.key, .string x.val, .bool x.gone, .int .u64 x.ts, .int .i64 x.dc, .int .i64 x.tx, .string y.key, .string y.val, .bool y.gone, .int .u64 y.ts, .int .i64 y.dc, .int .i64 y.tx] t))).trans hu
  refine ⟨.inr ⟨w.heap.size, 0, rfl, by simp, fun i hi => ?_⟩, fun e => (by cases e), by simp, by omega, by simp⟩
  have hi' : i = 0 ∨ i = 1 := by simp at hi; omega
  rcases hi' with rfl | rfl
  · exact ⟨h 0 _ rfl, h 1 _ rfl, h 2 _ rfl, h 3 _ rfl, h 4 _ rfl, h 5 _ rfl⟩
  · exact ⟨h 6 _ rfl, h 7 _ rfl, h 8 _ rfl, h 9 _ rfl, h 10 _ rfl, h 11 _ rfl⟩
theorem HV.one (w : World) (x : Ver) (t : TypeId) : HV (w.alloc (.cells #[.string x.key, .string x.val, .bool x.gone, .int .u64 x.ts, .int .i64 x.dc, .int .i64 x.tx] t)) (some ⟨w.heap.size, 0, none⟩) 1 [x] := by
  refine ⟨.inr ⟨w.heap.size, 0, rfl, by simp, fun i hi => ?_⟩, fun e => (by cases e), by simp, by omega, by simp⟩
  have hi' : i = 0 := by simp at hi; omega
  subst hi'
  exact V6.new w x t
set_option maxRecDepth 100000 in
theorem awake_any (w : World) : Calls Try.prog 13 #[] w fun e w' => e = .returned (.bool true) ∧ Below w.heap.size w w' := by
  have ha := at_any (some ⟨w.heap.size, 0, none⟩) 2 [vk3, vk7] 5 _ (HV.two w vk3 vk7 25)
  rw [show atV [vk3, vk7] 5 = vk3 by decide +kernel, show atB [vk3, vk7] 5 = true by decide +kernel] at ha
  have hB0 := Lib.hid (al0 w (.cells #[.string vk3.key, .string vk3.val, .bool vk3.gone, .int .u64 vk3.ts, .int .i64 vk3.dc, .int .i64 vk3.tx, .string vk7.key, .string vk7.val, .bool vk7.gone, .int .u64 vk7.ts, .int .i64 vk7.dc, .int .i64 vk7.tx] 25))
  simp only [vk3, vk7, vv, List.length_cons, List.length_nil, Nat.zero_add, Nat.reduceAdd] at ha hB0
  replace ha := Lib.hid ha
  go_enter Try.func13, Try.ntmps13
  go_wp2_with (fail)
  refine ha.out.mono ?_
  rintro e w1 ⟨rfl, hB1⟩
  have hfin := Lib.hid (trans0 (trans0 hB0.out hB1) (al0 w1 (.cells #[.string { data := #[107] }, .string { data := #[] }, .bool false, .int .u64 3, .int .i64 0, .int .i64 0] 25)))
  clear hB1
  go_wp2
  go_ret
  exact ⟨rfl, hfin.out⟩
set_option maxRecDepth 100000 in
set_option maxHeartbeats 1000000 in
theorem sees (A : Option Addr) (c : Nat) (l : List Ver) (sn : Int) (w : World) (h : HV w A c l) :
    Calls Try.prog 4 #[.slice A l.length c, .int .u64 sn] w fun e w' => e = .returned (.bool true) ∧ Below w.heap.size w w' := by
  have ha := Lib.hid (at_any A c l sn w h)
  have hb := Lib.hid (fun W (hB : Below w.heap.size w W) => rat_any A c l sn W (h.below hB))
  clear h
  generalize atV l sn = V at *
  generalize atB l sn = Bq at *
  have hq := eql_ver V V
  rw [decide_eq_true rfl] at hq
  cases Bq
  all_goals
    go_enter Try.func4, Try.ntmps4
    go_wp2_with (fail)
    refine ha.out.mono ?_
    rintro e w1 ⟨rfl, hB1⟩
    have hal := al0 w1 (.cells #[.string V.key, .string V.val, .bool V.gone, .int .u64 V.ts, .int .i64 V.dc, .int .i64 V.tx] 25)
    have hx := V6.new w1 V 25
    obtain ⟨W1, hW1⟩ : ∃ W1, w1.alloc (.cells #[.string V.key, .string V.val, .bool V.gone, .int .u64 V.ts, .int .i64 V.dc, .int .i64 V.tx] 25) = W1 := ⟨_, rfl⟩
    rw [hW1] at hal hx
    have hBW := Lib.hid (trans0 hB1 hal)
    replace hW1 := Lib.hid hW1
    replace hx := Lib.hid hx
    clear hal hB1
    go_wp2_with (fail)
    rw [hW1.out]
    refine (hb.out W1 hBW.out).mono ?_
    rintro e w2 ⟨rfl, hB2⟩
    have hal := al0 w2 (.cells #[.string V.key, .string V.val, .bool V.gone, .int .u64 V.ts, .int .i64 V.dc, .int .i64 V.tx] 25)
    have hy := V6.new w2 V 25
    have hx2 := (hx.out.below hB2).below hal
    obtain ⟨W2, hW2⟩ : ∃ W2, w2.alloc (.cells #[.string V.key, .string V.val, .bool V.gone, .int .u64 V.ts, .int .i64 V.dc, .int .i64 V.tx] 25) = W2 := ⟨_, rfl⟩
    rw [hW2] at hal hy hx2
    have hBW2 := Lib.hid (trans0 hBW.out (trans0 hB2 hal))
    replace hW2 := Lib.hid hW2
    replace hy := Lib.hid hy
    replace hx2 := Lib.hid hx2
    clear hal hB2
    go_wp2_with (fail)
    rw [hW2.out]
    refine (awake_any W2).mono ?_
    rintro e w3 ⟨rfl, hB3⟩
    obtain ⟨c0, c1, c2, c3, c4, c5⟩ := hx2.out.below hB3
    obtain ⟨d0, d1, d2, d3, d4, d5⟩ := hy.out.below hB3
    have hfin := Lib.hid (trans0 hBW2.out hB3)
    clear hB3
    go_wp2
    go_ret
    exact ⟨rfl, hfin.out⟩
end Go.Proofs.Ytbmaaonjohcgbaa.chnF
