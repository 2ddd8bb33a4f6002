/- The document's Load and Get (for StorePlays). -/
import Derived.Test.YtlojmojmijklmaaStoRc
set_option linter.unusedVariables false
set_option maxRecDepth 100000
namespace Go.Proofs.Ytlojmojmijklmaa.stoRd
open Go.ChangeShapes Go.WideShapes Go.ChangeAt Go.RowKit Go.Deep
open opV chnM gen chnA chnB chnR chnE chnF chnG chnK chnT stoM stoA stoB stoC stoRa stoRb stoRc

def DLoad (B : Nat → Prop) (M : Nat) (s : St) (l : List Ver) (w : World) (e : Ending) (w' : World) : Prop :=
  e = .returned (.int .i64 (loN s l l.length : Nat)) ∧ Chg (fun k => k = M) w w' ∧ DAt B w' M (loS s l l.length)
set_option maxHeartbeats 4000000 in
theorem dload_any {B : Nat → Prop} {M : Nat} {s : St} (A : Option Addr) (c : Nat) (l : List Ver) (w : World) (h : DAt B w M s) (hinv : Inv s) (hl : HV w A c l) (hd : l = [] ∨ ∀ y, A = some y → ¬ y.block = M) (hln : ln s.ch + l.length ≤ 60000) :
    Calls Try.prog 16 #[.pointer (some ⟨M, 0, none⟩), .slice A l.length c] w (DLoad B M s l w) := by
  replace h := Lib.hid h
  replace hl := Lib.hid hl
  replace hd := Lib.hid hd
  have hl9 : l.length ≤ 60000 := by omega
  go_enter Try.func16, Try.ntmps16
  go_wp2
  go_loopw [5, 6] (fun t i wr => ∃ j : Nat, j ≤ l.length ∧ t = .int .i64 (loN s l j : Nat) ∧ i = .int .i64 j ∧ Hid (Chg (fun k => k = M) w wr) ∧ Hid (DAt B wr M (loS s l j))) (fun _ i _ => l.length - (intOf i).toNat)
  case atStart => exact ⟨0, by omega, rfl, rfl, Lib.hid (Chg.refl _ _), h⟩
  case round =>
    obtain ⟨j, hj, rfl, rfl, hC, hS⟩ := hrel
    by_cases hlt : j < l.length
    · obtain ⟨pb, po, rfl, hpb, hc⟩ := (hv_chg hl.out hC.out hd.out).at hlt
      have hjI : (j : Int) < (l.length : Int) := by omega
      obtain ⟨hi1, hi2, hi3⟩ := Inv.load hinv l j
      have hput := Lib.hid (dput_any (nt l j) wr hS.out (by have := of_len hi1 (nt l j).key; omega) (by have := len_ln hi1.ne; omega))
      have eS : loS s l (j + 1) = puS (loS s l j) (nt l j) := rfl
      have eN : loN s l (j + 1) = loN s l j + if puE (loS s l j) (nt l j) = 0 then 1 else 0 := rfl
      obtain ⟨c0, c1, c2, c3, c4, c5⟩ := hc
      by_cases hz : puE (loS s l j) (nt l j) = 0
      · rw [if_pos hz] at eN
        have hz' := Lib.hid hz
        clear hz hi1 hS
        generalize nt l j = x at *
        go_wp2_with (fail)
        with_reducible refine hput.out.mono ?_
        rintro e w2 ⟨rfl, hC2, hS2⟩
        rw [hz'.out]
        have hC3 := Lib.hid (hC.out.trans hC2)
        replace hS2 := Lib.hid hS2
        have hn9 : loN s l j ≤ 60000 := by omega
        clear hC2 c0 c1 c2 c3 c4 c5 hput
        go_wp2
        go_roundw
        case rel => exact ⟨j + 1, by omega, by rw [eN]; go_num, by go_num, hC3, by rw [eS]; exact hS2⟩
        case measure => simp [intOf]; omega
      · rw [if_neg hz] at eN
        obtain ⟨E, hE⟩ : ∃ E : Int, ((puE (loS s l j) (nt l j) : Nat) : Int) = E := ⟨_, rfl⟩
        have hzE : (E == 0) = false := by rw [← hE, beq_eq_false_iff_ne]; omega
        replace hE := Lib.hid hE
        clear hz hi1 hS
        generalize nt l j = x at *
        go_wp2_with (fail)
        with_reducible refine hput.out.mono ?_
        rintro e w2 ⟨rfl, hC2, hS2⟩
        rw [hE.out]
        have hC3 := Lib.hid (hC.out.trans hC2)
        replace hS2 := Lib.hid hS2
        clear hC2 c0 c1 c2 c3 c4 c5 hput
        go_wp2
        go_roundw
        case rel => exact ⟨j + 1, by omega, by rw [eN]; go_num, by go_num, hC3, by rw [eS]; exact hS2⟩
        case measure => simp [intOf]; omega
    · obtain rfl : j = l.length := by omega
      have hfin := Lib.hid (show DLoad B M s l w (.returned (.int .i64 (loN s l l.length : Nat))) wr from ⟨rfl, hC.out, hS.out⟩)
      clear hC hS
      go_wp2
      go_ret
      exact hfin.out
set_option maxHeartbeats 4000000 in
theorem dget_any {B : Nat → Prop} {M : Nat} {s : St} (k : ByteArray) (sn : Int) (w : World) (h : DAt B w M s) :
    Calls Try.prog 18 #[.pointer (some ⟨M, 0, none⟩), .string k, .int .u64 sn] w fun e w' => e = .returned (.tuple #[vv (gtV s k sn), .bool (gtB s k sn), .int .i64 (gtE s sn : Nat)]) ∧ Below w.heap.size w w' := by
  obtain ⟨W, hW⟩ : ∃ W, w.alloc (.cells #[.string { data := #[] }, .string { data := #[] }, .bool false, .int .u64 0, .int .i64 0, .int .i64 0] 35) = W := ⟨_, rfl⟩
  have hz : R6 w.heap.size default W := by rw [← hW]; exact R6.new w default
  have hB := Lib.hid (show Below w.heap.size w W by rw [← hW]; exact al0 _ _)
  have hW1 := h.below hB.out
  obtain ⟨A, c, R, hI⟩ := hW1
  obtain ⟨c0, c1⟩ := hI.cells
  rw [← hW] at c0 c1
  have hW2 := Lib.hid (show DAt B W M s from ⟨A, c, R, hI⟩)
  replace hW := Lib.hid hW
  clear hI h
  by_cases hs : sn < s.fl
  · have e1 : gtV s k sn = default := by unfold gtV; rw [if_pos hs]
    have e2 : gtB s k sn = false := by unfold gtB; rw [if_pos hs]
    have e3 : (gtE s sn : Int) = 11 := by unfold gtE; rw [if_pos hs]; rfl
    rw [e1, e2, e3]
    obtain ⟨z0, z1, z2, z3, z4, z5⟩ := hz.v6
    obtain ⟨f0, f1, f2, f3, f4, f5⟩ := hz.fz
    clear hz e1 e2 e3
    go_enter Try.func18, Try.ntmps18
    go_wp2
    rw [hW.out]
    have hB := hB.out
    clear f0 f1 f2 f3 f4 f5 hW
    refine bodyPost_ret (v := .tuple #[vv default, .bool false, .int .i64 11]) ?_ rfl ⟨rfl, hB⟩
    simp [results, Try.results18, go_sem, z0, z1, z2, z3, z4, z5]
  · have e1 : gtV s k sn = atV (of s.ch k) sn := by unfold gtV; rw [if_neg hs]
    have e2 : gtB s k sn = atB (of s.ch k) sn := by unfold gtB; rw [if_neg hs]
    have e3 : (gtE s sn : Int) = 0 := by unfold gtE; rw [if_neg hs]; rfl
    rw [e1, e2, e3]
    have hof := Lib.hid (dof_any k W hW2.out)
    obtain ⟨l, hl⟩ : ∃ l, of s.ch k = l := ⟨_, rfl⟩
    rw [hl] at hof ⊢
    have hat := Lib.hid (fun A c h0 => rat_any A c l sn W h0)
    generalize atV l sn = V at *
    generalize atB l sn = Bq at *
    replace hz := Lib.hid hz
    have hd := decide_eq_false hs
    clear e1 e2 e3 hs hl
    go_enter Try.func18, Try.ntmps18
    go_wp2_with (fail)
    rw [hW.out]
    with_reducible refine hof.out.mono ?_
    rintro e w' ⟨⟨vv', rfl, hDV⟩, rfl⟩
    obtain ⟨A', c', rfl, hHV, -⟩ := hDV
    have hat2 := Lib.hid (hat.out A' c' hHV)
    clear hHV hat hof
    go_wp2_with (fail)
    with_reducible refine hat2.out.mono ?_
    rintro e w2 ⟨rfl, hB2⟩
    have hR2 := hz.out.below hB2
    have hBw2 := Lib.hid (trans0 hB.out hB2)
    have hR3 := hR2.below (al0 w2 (.cells #[.string V.key, .string V.val, .bool V.gone, .int .u64 V.ts, .int .i64 V.dc, .int .i64 V.tx] 35))
    have hv3 := V6.new w2 V 35
    have hBw3 := trans0 hBw2.out (al0 w2 (.cells #[.string V.key, .string V.val, .bool V.gone, .int .u64 V.ts, .int .i64 V.dc, .int .i64 V.tx] 35))
    obtain ⟨w3, hw3⟩ : ∃ w3, w2.alloc (.cells #[.string V.key, .string V.val, .bool V.gone, .int .u64 V.ts, .int .i64 V.dc, .int .i64 V.tx] 35) = w3 := ⟨_, rfl⟩
    rw [hw3] at hR3 hv3 hBw3
    replace hw3 := Lib.hid hw3
    clear c0 c1 hat2 hB2 hR2
    obtain ⟨a0, a1, a2, a3, a4, a5⟩ := hv3
    obtain ⟨z0, z1, z2, z3, z4, z5⟩ := hR3.v6
    obtain ⟨f0, f1, f2, f3, f4, f5⟩ := hR3.fz
    have hRp := Lib.hid (hR3.put V)
    have hfin := Lib.hid (put6_below hBw3 (Nat.le_refl _) V)
    clear hR3 hBw3
    rw [← hw3.out] at z0 z1 z2 z3 z4 z5 f0 f1 f2 f3 f4 f5
    clear a0 a1 a2 a3 a4 a5
    go_wp2_with (fail)
    rw [hw3.out]
    change bodyPost _ _ _ _ _ (put6 w3 w.heap.size V)
    have hRq := hRp.out
    have hfq := hfin.out
    clear hRp hfin z0 z1 z2 z3 z4 z5 f0 f1 f2 f3 f4 f5
    generalize put6 w3 w.heap.size V = w9 at *
    obtain ⟨y0, y1, y2, y3, y4, y5⟩ := hRq.v6
    refine bodyPost_ret (v := .tuple #[vv V, .bool Bq, .int .i64 0]) ?_ rfl ⟨rfl, hfq⟩
    clear hRq hfq
    simp [results, Try.results18, go_sem, y0, y1, y2, y3, y4, y5]
end Go.Proofs.Ytlojmojmijklmaa.stoRd
