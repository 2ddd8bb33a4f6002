/- The contract of a store's Load. -/
import Derived.Test.YtlojmojmijklmaaStoPr
set_option linter.unusedVariables false
set_option maxRecDepth 100000
namespace Go.Proofs.Ytlojmojmijklmaa.stoLo
open Go.ChangeShapes Go.WideShapes Go.ChangeAt Go.RowKit Go.Deep
open opV chnM gen chnA chnB chnR chnE chnG chnJ stoM stoA stoL stoB stoC stoP stoPr

def Loaded (B : Nat → Prop) (S b : Nat) (s : St) (l : List Ver) (w : World) (e : Ending) (w' : World) : Prop :=
  e = .returned (.int .i64 (loN s l l.length : Nat)) ∧ Chg (own2 S b) w w' ∧ SAt B w' S b (loS s l l.length)
set_option maxHeartbeats 2000000 in
theorem load_any {B : Nat → Prop} {S b : Nat} {s : St} (A : Option Addr) (c : Nat) (l : List Ver) (w : World) (h : SAt B w S b s) (hl : HV w A c l) (hd : l = [] ∨ ∀ y, A = some y → ¬ own2 S b y.block) (hln : ln s.ch + l.length ≤ 60000) :
    Calls Try.prog 15 #[.pointer (some ⟨S, 0, none⟩), .slice A l.length c] w (Loaded B S b s l w) := by
  have hinv : Inv s := by obtain ⟨D, h⟩ := h; exact h.inv
  replace h := Lib.hid h
  replace hl := Lib.hid hl
  replace hd := Lib.hid hd
  have hl9 : l.length ≤ 60000 := by omega
  go_enter Try.func15, Try.ntmps15
  go_wp2
  go_loopw [5, 10] (fun t i wr => ∃ j : Nat, j ≤ l.length ∧ t = .int .i64 (loN s l j : Nat) ∧ i = .int .i64 j ∧ Hid (Chg (own2 S b) w wr) ∧ Hid (SAt B wr S b (loS s l j))) (fun _ i _ => l.length - (intOf i).toNat)
  case atStart => exact ⟨0, by omega, rfl, rfl, Lib.hid (Chg.refl _ _), h⟩
  case round =>
    obtain ⟨j, hj, rfl, rfl, hC, hS⟩ := hrel
    by_cases hlt : j < l.length
    · obtain ⟨pb, po, rfl, hpb, hc⟩ := (hv_chg hl.out hC.out hd.out).at hlt
      have hjI : (j : Int) < (l.length : Int) := by omega
      obtain ⟨hi1, hi2, hi3⟩ := Inv.load hinv l j
      have hbx := V6.new wr (nt l j) 35
      have hal := al0 wr (.cells #[.string (nt l j).key, .string (nt l j).val, .bool (nt l j).gone, .int .u64 (nt l j).ts, .int .i64 (nt l j).dc, .int .i64 (nt l j).tx] 35)
      obtain ⟨W1, hW1⟩ : ∃ W1, wr.alloc (.cells #[.string (nt l j).key, .string (nt l j).val, .bool (nt l j).gone, .int .u64 (nt l j).ts, .int .i64 (nt l j).dc, .int .i64 (nt l j).tx] 35) = W1 := ⟨_, rfl⟩
      rw [hW1] at hbx hal
      have hput := Lib.hid (put_any (nt l j) W1 (hS.out.below hal) (by omega))
      have hC1 := Lib.hid (hC.out.then hal)
      have eS : loS s l (j + 1) = puS (loS s l j) (nt l j) := rfl
      have eN : loN s l (j + 1) = loN s l j + if puE (loS s l j) (nt l j) = 0 then 1 else 0 := rfl
      replace hW1 := Lib.hid hW1
      obtain ⟨c0, c1, c2, c3, c4, c5⟩ := hc
      obtain ⟨b0, b1, b2, b3, b4, b5⟩ := hbx
      by_cases hz : puE (loS s l j) (nt l j) = 0
      · rw [if_pos hz] at eN
        have hz' := Lib.hid hz
        clear hz hi1 hal hS hC
        generalize nt l j = x at *
        go_wp2_with (fail)
        rw [hW1.out]
        with_reducible refine hput.out.mono ?_
        rintro e w2 ⟨rfl, hC2, hS2⟩
        rw [hz'.out]
        have hC3 := Lib.hid (hC1.out.trans hC2)
        replace hS2 := Lib.hid hS2
        have hn9 : loN s l j ≤ 60000 := by omega
        clear hC2 c0 c1 c2 c3 c4 c5 b0 b1 b2 b3 b4 b5 hput
        go_wp2
        go_roundw
        case rel => exact ⟨j + 1, by omega, by rw [eN]; go_num, by go_num, hC3, by rw [eS]; exact hS2⟩
        case measure => simp [intOf]; omega
      · rw [if_neg hz] at eN
        have hz' : ((puE (loS s l j) (nt l j) : Int) == 0) = false := by rw [beq_eq_false_iff_ne]; omega
        clear hz hi1 hal hS hC
        generalize hE : puE (loS s l j) (nt l j) = E at *
        replace hE := Lib.hid hE
        generalize nt l j = x at *
        go_wp2_with (fail)
        rw [hW1.out]
        with_reducible refine hput.out.mono ?_
        rintro e w2 ⟨rfl, hC2, hS2⟩
        rw [hE.out]
        have hC3 := Lib.hid (hC1.out.trans hC2)
        replace hS2 := Lib.hid hS2
        clear hC2 c0 c1 c2 c3 c4 c5 b0 b1 b2 b3 b4 b5 hput
        go_wp2
        go_roundw
        case rel => exact ⟨j + 1, by omega, by rw [eN]; rfl, by go_num, hC3, by rw [eS]; exact hS2⟩
        case measure => simp [intOf]; omega
    · obtain rfl : j = l.length := by omega
      go_wp2
      go_ret
      exact ⟨rfl, hC.out, hS.out⟩
end Go.Proofs.Ytlojmojmijklmaa.stoLo
