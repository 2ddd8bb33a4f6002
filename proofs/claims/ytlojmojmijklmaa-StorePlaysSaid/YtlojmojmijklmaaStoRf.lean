/- The document's Drop (for StorePlays). -/
import Derived.Test.YtlojmojmijklmaaStoRe
set_option linter.unusedVariables false
set_option maxRecDepth 100000
namespace Go.Proofs.Ytlojmojmijklmaa.stoRf
open Go.ChangeShapes Go.WideShapes Go.ChangeAt Go.RowKit Go.Deep
open opV chnM gen chnA chnB chnR chnE chnF chnG chnK chnT stoM stoA stoB stoC stoRa stoRb stoRc stoRd stoRe

def drJ (ch : List Ch) (lo hi : ByteArray) (j : Nat) : List Ch := dr (ch.take j) lo hi
theorem drJ_step {ch : List Ch} {lo hi : ByteArray} {j : Nat} (hj : j < ch.length) : drJ ch lo hi (j + 1) = drJ ch lo hi j ++ (if wth (chnM.nt ch j).key lo hi = true then [] else [chnM.nt ch j]) := by
  unfold drJ dr
  rw [List.take_succ_eq_append_getElem hj, List.filter_append]
  have e : chnM.nt ch j = ch[j] := by unfold chnM.nt; simp [List.getD, hj]
  rw [e]
  by_cases h : wth ch[j].key lo hi = true
  · rw [if_pos h]; simp [h]
  · rw [if_neg h]; simp [h]
theorem drJ_len (ch : List Ch) (lo hi : ByteArray) (j : Nat) : (drJ ch lo hi j).length ≤ j := by
  unfold drJ dr
  exact Nat.le_trans (List.length_filter_le _ _) (List.length_take_le _ _)
theorem drJ_all (ch : List Ch) (lo hi : ByteArray) : drJ ch lo hi ch.length = dr ch lo hi := by unfold drJ; rw [List.take_length]
def DDrop (B : Nat → Prop) (M : Nat) (s : St) (lo hi : ByteArray) (w : World) (e : Ending) (w' : World) : Prop :=
  e = .returned (.int .i64 ((al s.ch lo hi).length : Nat)) ∧ Chg (fun k => k = M) w w' ∧ DAt B w' M ⟨dr s.ch lo hi, s.fl⟩
set_option maxHeartbeats 4000000 in
theorem ddrop_any {B : Nat → Prop} {M : Nat} {s : St} (lo hi : ByteArray) (w0 : World) (h0 : DAt B w0 M s) (hln : ln s.ch ≤ 60000) (hcl : s.ch.length ≤ 60000) :
    Calls Try.prog 20 #[.pointer (some ⟨M, 0, none⟩), .string lo, .string hi] w0 (DDrop B M s lo hi w0) := by
  obtain ⟨iC, hiC, hzC0, hzC1, hzC2⟩ := info_parts infoC
  have hal := Lib.hid (dall_any lo hi w0 h0 hln hcl)
  have ha9 : (al s.ch lo hi).length ≤ 60000 := by have := alJ_len s.ch lo hi s.ch.length; rw [alJ_all] at this; omega
  obtain ⟨D, hD⟩ : ∃ D, DDrop B M s lo hi w0 = D := ⟨_, rfl⟩
  rw [hD]
  replace hD := Lib.hid hD
  replace h0 := Lib.hid h0
  obtain ⟨N, hN⟩ : ∃ N, (al s.ch lo hi).length = N := ⟨_, rfl⟩
  rw [hN] at ha9
  replace hN := Lib.hid hN
  go_enter Try.func20, Try.ntmps20
  go_wp2_with (fail)
  with_reducible refine hal.out.mono ?_
  rintro e w ⟨Al, cl, rfl, -, hBl⟩
  rw [hN.out]
  obtain ⟨A, c, R, h⟩ := h0.out.below hBl
  have hle := h.le
  have htop := h.top
  have hlR := h.len
  have hnR : R.length ≤ 60000 := by omega
  have hcM := Lib.hid (fun (X : World) (hB : Below w.heap.size w X) => (h.below hB).cells.1)
  have hat := Lib.hid (fun (j : Nat) (hj : j < R.length) => h.at hj)
  have hst := Lib.hid (fun (j : Nat) (hj : j < R.length) => (show drJ s.ch lo hi (j + 1) = drJ s.ch lo hi j ++ (if wth (ne R j).c.key lo hi = true then [] else [(ne R j).c]) from by rw [drJ_step (by omega), h.nt hj]))
  have hsl := Lib.hid (fun j => drJ_len s.ch lo hi j)
  have hen := Lib.hid (show drJ s.ch lo hi R.length = dr s.ch lo hi from by rw [← hlR]; exact drJ_all s.ch lo hi)
  have hdone := Lib.hid (fun (P : List Ch) (wr : World) (A9 : Option Addr) (c9 : Nat) (R9 : List El) (hs : SI B w P wr A9 c9 R9) => SI.done h hs)
  have hfz : Hid (∀ X, Below w.heap.size w X → X.frozen? ⟨M, 0, none⟩ = false) := Lib.hid (fun X hB => (h.below hB).row.frozen 0)
  have hB0 := Lib.hid hBl
  clear h hal hBl hcl hlR
  go_wp2
  go_loopw [8, 9] (fun o i wr => ∃ (j : Nat) (A9 : Option Addr) (c9 : Nat) (R9 : List El), j ≤ R.length ∧ o = .slice A9 R9.length c9 ∧ i = .int .i64 j ∧ Hid (SI B w (drJ s.ch lo hi j) wr A9 c9 R9)) (fun _ i _ => R.length - (intOf i).toNat)
  case atStart => exact ⟨0, none, 0, [], by omega, rfl, rfl, Lib.hid (SI.start B w)⟩
  case round =>
    obtain ⟨j, A9, c9, R9, hj, rfl, rfl, hI⟩ := hrel
    have c0 := hcM.out wr hI.out.bel
    by_cases hlt : j < R.length
    · obtain ⟨b, off, eA, k0, k1, hdv⟩ := hat.out j hlt
      subst eA
      have hjI : (j : Int) < (R.length : Int) := by omega
      have hs2 := Lib.hid (hst.out j hlt)
      have hR9 : R9.length ≤ j := by rw [hI.out.len]; exact hsl.out j
      generalize ne R j = x at *
      have hx1 := dv_one hdv
      replace hdv := Lib.hid hdv
      have q0 := keep_cell hI.out.bel k0
      have q1 := keep_cell hI.out.bel k1
      have hwi := Lib.hid (rwithin_any x.c.key lo hi wr)
      clear k0 k1 hst hsl hen hat
      cases hq : wth x.c.key lo hi
      · have e := Lib.hid (show drJ s.ch lo hi (j + 1) = drJ s.ch lo hi j ++ [x.c] from hs2.out.trans (by rw [hq]; simp))
        rw [hq] at hwi
        have hls : Hid (R9.length + 1 ≤ maxLen ∧ (R9.length + 1) * 40 ≤ 140737488355328 ∧ w.heap.size ≤ (wr.alloc (.cells #[.string x.c.key, x.v] 84)).heap.size) := Lib.hid ⟨by unfold maxLen; omega, by omega, (bal hI.out.bel _).size⟩
        clear hs2 hcM hdone hfz
        go_wp2_with (first | (go_at_call 45; (with_reducible refine hwi.out.mono ?_); rintro e w' ⟨rfl, rfl⟩) | (at_builtin; refine wpList_gen rfl (.tmp 36) (.tmp 44) 26 rfl w.heap.size 84 iC _ 2 40 Try.underlying26 hiC hzC0 hzC1 hzC2 rfl (by decide) _ R9.length (fE R9) (by rfl) (World.ownsRow.alloc hI.out.own _) (some ⟨_, 0, none⟩) 1 1 [_, _] (by rfl) rfl (stand_at (by simp)) (two_one rfl hx1) hls.out.1 hls.out.2.1 hls.out.2.2 ?_; intro A7 c7 w7 hr7 hg7 hat7; have hI7 := Lib.hid (SI.grow hI.out x hdv.out (al0 _ _) hr7 hg7); clear hr7 hg7 hat7))
        go_roundw
        case rel => exact ⟨j + 1, A7, c7, R9 ++ [x], by omega, by rw [len_e], by go_num, Lib.hid (by rw [e.out]; exact hI7.out)⟩
        case measure => simp [intOf]; omega
      · have e := Lib.hid (show drJ s.ch lo hi (j + 1) = drJ s.ch lo hi j from hs2.out.trans (by rw [hq]; simp))
        rw [hq] at hwi
        clear hs2 hcM hdone hfz
        go_wp2_with (go_at_call 45; (with_reducible refine hwi.out.mono ?_); rintro e w' ⟨rfl, rfl⟩)
        go_roundw
        case rel => exact ⟨j + 1, A9, c9, R9, by omega, rfl, by go_num, Lib.hid (by rw [e.out]; exact hI.out)⟩
        case measure => simp [intOf]; omega
    · obtain rfl : j = R.length := by omega
      have hd := Lib.hid (hdone.out _ wr A9 c9 _ hI.out)
      have f0 := hfz.out wr hI.out.bel
      have hfin := Lib.hid (show DDrop B M s lo hi w0 (.returned (.int .i64 (N : Nat))) (wr.setCell ⟨M, 0, none⟩ (.slice A9 R9.length c9)) from ⟨by rw [hN.out], (Chg.of_below _ hB0.out).trans hd.out.1, by rw [← hen.out]; exact hd.out.2⟩)
      rw [hD.out] at hfin
      clear hI hd hdone hfz hcM hat hst hsl hen hB0
      go_wp2
      exact hfin.out
end Go.Proofs.Ytlojmojmijklmaa.stoRf
