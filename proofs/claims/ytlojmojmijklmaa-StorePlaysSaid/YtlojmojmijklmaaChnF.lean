/- The contract of the document's At; awake; the statement ChainSees. -/
import Derived.Test.YtlojmojmijklmaaChnE
set_option linter.unusedVariables false
namespace Go.Proofs.Ytlojmojmijklmaa.chnF
open Go.ChangeShapes Go.WideShapes Go.ChangeAt Go.RowKit Go.Deep
open opV chnM gen chnA chnB chnR chnC chnD chnE

set_option maxRecDepth 100000 in
set_option maxHeartbeats 2000000 in
theorem rat_any (A : Option Addr) (c : Nat) (l : List Ver) (sn : Int) (w : World) (h0 : HV w A c l) :
    Calls Try.prog 38 #[.slice A l.length c, .int .u64 sn] w fun e w' => e = .returned (.tuple #[vv (atV l sn), .bool (atB l sn)]) ∧ Below w.heap.size w w' := by
  have hl9 : l.length ≤ 9223372036854775807 := Nat.le_trans h0.le h0.top
  obtain ⟨W, hW⟩ : ∃ W, w.alloc (.cells #[.string { data := #[] }, .string { data := #[] }, .bool false, .int .u64 0, .int .i64 0, .int .i64 0] 35) = W := ⟨_, rfl⟩
  have hz : Hid (R6 w.heap.size default W) := Lib.hid (by rw [← hW]; exact R6.new w default)
  have hBW := Lib.hid (show Below w.heap.size w W by rw [← hW]; exact al0 _ _)
  have h := Lib.hid (h0.below hBW.out)
  have hsn := Lib.hid (seen_any A c l sn W h.out)
  replace hW := Lib.hid hW
  clear h0
  obtain ⟨V, hV⟩ : ∃ V, atV l sn = V := ⟨_, rfl⟩
  obtain ⟨Bq, hBq⟩ : ∃ Bq, atB l sn = Bq := ⟨_, rfl⟩
  rw [hV, hBq]
  replace hV := Lib.hid hV
  replace hBq := Lib.hid hBq
  go_enter Try.func38, Try.ntmps38
  go_wp2_with (fail)
  rw [hW.out]
  refine hsn.out.mono ?_
  rintro e wr ⟨rfl, hB⟩
  have hR := hz.out.below hB
  have hBw := Lib.hid (trans0 hBW.out hB)
  have hcc := Lib.hid (fun (k : Nat) (hk : k < l.length) => (h.out.below hB).at hk)
  clear hsn hB
  rcases seen_spec l sn l.length with ⟨h1, -⟩ | ⟨k, h1, hk, -⟩
  · have e1 : snA l sn = -1 := h1
    have hb : atB l sn = false := by unfold atB; rw [e1]; rfl
    have hv : atV l sn = default := by unfold atV; rw [if_neg (by omega)]
    have hRp := hR.put default
    have hfin := Lib.hid (put6_below hBw.out (Nat.le_refl _) default)
    obtain rfl : Bq = false := by rw [← hBq.out, hb]
    obtain rfl : V = default := by rw [← hV.out, hv]
    rw [e1]
    obtain ⟨z0, z1, z2, z3, z4, z5⟩ := hR.v6
    obtain ⟨f0, f1, f2, f3, f4, f5⟩ := hR.fz
    have hRp := Lib.hid hRp
    clear hR e1 h1 hb hv
    go_wp2
    change bodyPost _ _ _ _ _ (put6 wr w.heap.size default)
    have hRq := hRp.out
    have hfq := hfin.out
    clear hRp hfin z0 z1 z2 z3 z4 z5 f0 f1 f2 f3 f4 f5
    generalize put6 wr w.heap.size default = w9 at *
    obtain ⟨y0, y1, y2, y3, y4, y5⟩ := hRq.v6
    refine bodyPost_ret (v := .tuple #[vv default, .bool false]) ?_ rfl ⟨rfl, hfq⟩
    clear hRq hfq
    simp only [default, Inhabited.default] at y0 y1 y2 y3 y4 y5
    simp [results, Try.results38, go_sem, y0, y1, y2, y3, y4, y5, default, Inhabited.default]
  · have e1 : snA l sn = (k : Nat) := h1
    have hb : atB l sn = true := by unfold atB; rw [e1]; exact decide_eq_true (by omega)
    have hv : atV l sn = nt l k := by unfold atV; rw [if_pos (by omega), e1]; rfl
    obtain ⟨pb, po, rfl, hpb, hc⟩ := hcc.out k hk
    have hk0 : (0 : Int) ≤ (k : Int) := by omega
    have hkI : (k : Int) < (l.length : Int) := by omega
    obtain rfl : Bq = true := by rw [← hBq.out, hb]
    rw [show nt l k = V by rw [← hV.out, hv]] at hc
    rw [e1]
    obtain ⟨c0, c1, c2, c3, c4, c5⟩ := hc
    have hRp := hR.put V
    have hfin := Lib.hid (put6_below hBw.out (Nat.le_refl _) V)
    obtain ⟨z0, z1, z2, z3, z4, z5⟩ := hR.v6
    obtain ⟨f0, f1, f2, f3, f4, f5⟩ := hR.fz
    have hRp := Lib.hid hRp
    clear hR e1 h1 hb hv
    go_wp2
    change bodyPost _ _ _ _ _ (put6 wr w.heap.size V)
    have hRq := hRp.out
    have hfq := hfin.out
    clear hRp hfin z0 z1 z2 z3 z4 z5 f0 f1 f2 f3 f4 f5
    generalize put6 wr w.heap.size V = w9 at *
    obtain ⟨y0, y1, y2, y3, y4, y5⟩ := hRq.v6
    refine bodyPost_ret (v := .tuple #[vv V, .bool true]) ?_ rfl ⟨rfl, hfq⟩
    clear hRq hfq
    simp [results, Try.results38, go_sem, y0, y1, y2, y3, y4, y5]
/-! ### awake -/
theorem HV.two (w : World) (x y : Ver) (t : TypeId) : HV (w.alloc (.cells #[.string x.key, .string x.val, .bool x.gone, .int .u64 x.ts, .int .i64 x.dc, .int .i64 x.tx, .string y.key, .string y.val, .bool y.gone, .int .u64 y.ts, .int .i64 y.dc, .int .i64 y.tx] t)) (some ⟨w.heap.size, 0, none⟩) 2 [x, y] := by
  have h := fun (j : Nat) (u : Value) (hu : (#[.string x.key, .string x.val, .bool x.gone, .int .u64 x.ts, .int .i64 x.dc, .int .i64 x.tx, .string y.key, .string y.val, .bool y.gone, .int .u64 y.ts, .int .i64 y.dc, .int .i64 y.tx] : Array Value)[j]? = some u) =>
    (cell_of_row _ _ j _ t (0, 0) (heap_alloc_new w (.cells #[.string x.key, .string x.val, .bool x.gone, .int .u64 x.ts, .int .i64 x.dc, .int .i64 x.tx, .string y.key, .string y.val, .bool y.gone, .int .u64 y.ts, .int .i64 y.dc, .int .i64 y.tx] t))).trans hu
  refine ⟨.inr ⟨w.heap.size, 0, rfl, by simp, fun i hi => ?_⟩, fun e => (by cases e), by simp, by omega, by simp⟩
  have hi' : i = 0 ∨ i = 1 := by simp at hi; omega
  rcases hi' with rfl | rfl
  · exact ⟨h 0 _ rfl, h 1 _ rfl, h 2 _ rfl, h 3 _ rfl, h 4 _ rfl, h 5 _ rfl⟩
  · exact ⟨h 6 _ rfl, h 7 _ rfl, h 8 _ rfl, h 9 _ rfl, h 10 _ rfl, h 11 _ rfl⟩
theorem HV.one (w : World) (x : Ver) (t : TypeId) : HV (w.alloc (.cells #[.string x.key, .string x.val, .bool x.gone, .int .u64 x.ts, .int .i64 x.dc, .int .i64 x.tx] t)) (some ⟨w.heap.size, 0, none⟩) 1 [x] := by
  refine ⟨.inr ⟨w.heap.size, 0, rfl, by simp, fun i hi => ?_⟩, fun e => (by cases e), by simp, by omega, by simp⟩
  have hi' : i = 0 := by simp at hi; omega
  subst hi'
  exact V6.new w x t
end Go.Proofs.Ytlojmojmijklmaa.chnF
