/- The contract of a store's Get. -/
import Derived.Test.YtlojmojmijklmaaStoP
set_option linter.unusedVariables false
set_option maxRecDepth 100000
namespace Go.Proofs.Ytlojmojmijklmaa.stoG
open Go.ChangeShapes Go.WideShapes Go.ChangeAt Go.RowKit Go.Deep
open opV chnM gen chnA chnB chnR chnE chnG chnJ stoM stoA stoL stoB stoC stoP

set_option maxHeartbeats 2000000 in
theorem get_any {B : Nat → Prop} {S b : Nat} {s : St} (k : ByteArray) (sn : Int) (w : World) (h : SAt B w S b s) (hk : k.size ≤ 140737488351232) :
    Calls Try.prog 17 #[.pointer (some ⟨S, 0, none⟩), .string k, .int .u64 sn] w fun e w' => e = .returned (.tuple #[vv (gtV s k sn), .bool (gtB s k sn), .int .i64 (gtE s sn : Nat)]) ∧ Below w.heap.size w w' := by
  obtain ⟨D, hI⟩ := h
  have hSC : SC S b s.fl w := SIs.cells hI
  obtain ⟨A, c, hlk, hHV, -⟩ := look_all hI k (by unfold maxLen; omega)
  obtain ⟨W, hW⟩ : ∃ W, w.alloc (.cells #[.string { data := #[] }, .string { data := #[] }, .bool false, .int .u64 0, .int .i64 0, .int .i64 0] 35) = W := ⟨_, rfl⟩
  have hz : R6 w.heap.size default W := by rw [← hW]; exact R6.new w default
  have hB := Lib.hid (show Below w.heap.size w W by rw [← hW]; exact al0 _ _)
  obtain ⟨c0, c1⟩ := hSC.below hB.out
  rw [← hW] at c0 c1
  replace hW := Lib.hid hW
  clear hI hSC
  by_cases hs : sn < s.fl
  · have e1 : gtV s k sn = default := by unfold gtV; rw [if_pos hs]
    have e2 : gtB s k sn = false := by unfold gtB; rw [if_pos hs]
    have e3 : (gtE s sn : Int) = 11 := by unfold gtE; rw [if_pos hs]; rfl
    rw [e1, e2, e3]
    obtain ⟨z0, z1, z2, z3, z4, z5⟩ := hz.v6
    obtain ⟨f0, f1, f2, f3, f4, f5⟩ := hz.fz
    clear hz e1 e2 e3 hlk hHV
    go_enter Try.func17, Try.ntmps17
    go_wp2
    rw [hW.out]
    have hB := hB.out
    clear f0 f1 f2 f3 f4 f5 hW
    refine bodyPost_ret (v := .tuple #[vv default, .bool false, .int .i64 11]) ?_ rfl ⟨rfl, hB⟩
    simp [results, Try.results17, go_sem, z0, z1, z2, z3, z4, z5]
  · have e1 : gtV s k sn = atV (of s.ch k) sn := by unfold gtV; rw [if_neg hs]
    have e2 : gtB s k sn = atB (of s.ch k) sn := by unfold gtB; rw [if_neg hs]
    have e3 : (gtE s sn : Int) = 0 := by unfold gtE; rw [if_neg hs]; rfl
    rw [e1, e2, e3]
    have hat := at_any A c (of s.ch k) sn W (hHV.below hB.out)
    have hlkW := hlk W hB.out
    rw [← hW.out] at hlkW
    generalize atV (of s.ch k) sn = V at *
    generalize atB (of s.ch k) sn = Bq at *
    generalize (of s.ch k).length = n at *
    replace hat := Lib.hid hat
    replace hz := Lib.hid hz
    have hd := decide_eq_false hs
    clear e1 e2 e3 hlk hHV hs
    go_enter Try.func17, Try.ntmps17
    go_wp2_with (fail)
    rw [hW.out]
    with_reducible refine hat.out.mono ?_
    rintro e w2 ⟨rfl, hB2⟩
    have hR2 := hz.out.below hB2
    have hBw2 := Lib.hid (trans0 hB.out hB2)
    have hR3 := hR2.below (al0 w2 (.cells #[.string V.key, .string V.val, .bool V.gone, .int .u64 V.ts, .int .i64 V.dc, .int .i64 V.tx] 35))
    have hv3 := V6.new w2 V 35
    have hBw3 := trans0 hBw2.out (al0 w2 (.cells #[.string V.key, .string V.val, .bool V.gone, .int .u64 V.ts, .int .i64 V.dc, .int .i64 V.tx] 35))
    obtain ⟨w3, hw3⟩ : ∃ w3, w2.alloc (.cells #[.string V.key, .string V.val, .bool V.gone, .int .u64 V.ts, .int .i64 V.dc, .int .i64 V.tx] 35) = w3 := ⟨_, rfl⟩
    rw [hw3] at hR3 hv3 hBw3
    replace hw3 := Lib.hid hw3
    clear c0 c1 hlkW hat hB2 hR2
    obtain ⟨a0, a1, a2, a3, a4, a5⟩ := hv3
    obtain ⟨z0, z1, z2, z3, z4, z5⟩ := hR3.v6
    obtain ⟨f0, f1, f2, f3, f4, f5⟩ := hR3.fz
    have hRp := Lib.hid (hR3.put V)
    have hfin := Lib.hid (put6_below hBw3 (Nat.le_refl _) V)
    clear hR3 hBw3
    rw [← hw3.out] at z0 z1 z2 z3 z4 z5 f0 f1 f2 f3 f4 f5
    clear a0 a1 a2 a3 a4 a5
    go_wp2_with (fail)
    rw [hw3.out]
    change bodyPost _ _ _ _ _ (put6 w3 w.heap.size V)
    have hRq := hRp.out
    have hfq := hfin.out
    clear hRp hfin z0 z1 z2 z3 z4 z5 f0 f1 f2 f3 f4 f5
    generalize put6 w3 w.heap.size V = w9 at *
    obtain ⟨y0, y1, y2, y3, y4, y5⟩ := hRq.v6
    refine bodyPost_ret (v := .tuple #[vv V, .bool Bq, .int .i64 0]) ?_ rfl ⟨rfl, hfq⟩
    clear hRq hfq
    simp [results, Try.results17, go_sem, y0, y1, y2, y3, y4, y5]
end Go.Proofs.Ytlojmojmijklmaa.stoG
