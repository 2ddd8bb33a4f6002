/- The document's Trim: its walk (for StorePlays). -/
import Derived.Test.YtlojmojmijklmaaStoRg
set_option linter.unusedVariables false
set_option maxRecDepth 100000
namespace Go.Proofs.Ytlojmojmijklmaa.stoRh
open Go.ChangeShapes Go.WideShapes Go.ChangeAt Go.RowKit Go.Deep
open opV chnM gen chnA chnB chnR chnE chnF chnG chnK chnT stoM stoA stoB stoC stoRa stoRb stoRc stoRd stoRe stoRf stoRg

def DTrim (B : Nat → Prop) (M : Nat) (s : St) (t : Int) (w : World) (e : Ending) (w' : World) : Prop :=
  e = .returned (.int .i64 (tmN s.ch (tmF s.fl t) : Nat)) ∧ Chg (fun k => k = M) w w' ∧ DAt B w' M ⟨tmC s.ch (tmF s.fl t), tmF s.fl t⟩
abbrev SQ (W : World) (M b o c n : Nat) (A : Option Addr) (f : Int) (v : Value) (w : World) : Prop :=
  w.cell? ⟨M, 0, none⟩ = some (.slice A n c) ∧ w.cell? ⟨M, 1, none⟩ = some (.int .u64 f) ∧ w.cell? ⟨b, o, none⟩ = some v ∧ Below W.heap.size W w
theorem SQ.fo {W w w1 : World} {M b o c n : Nat} {A : Option Addr} {f : Int} {v : Value} (hB : Below w.heap.size w w1) (h : SQ W M b o c n A f v w) : SQ W M b o c n A f v w1 := ⟨keep_cell hB h.1, keep_cell hB h.2.1, keep_cell hB h.2.2.1, trans0 h.2.2.2 hB⟩
set_option maxHeartbeats 8000000 in
theorem dtrim_any {B : Nat → Prop} {M : Nat} {s : St} (t : Int) (w0 : World) (h0 : DAt B w0 M s) (hln : ln s.ch ≤ 60000) (hcl : s.ch.length ≤ 60000) :
    Calls Try.prog 22 #[.pointer (some ⟨M, 0, none⟩), .int .u64 t] w0 (DTrim B M s t w0) := by
  obtain ⟨iC, hiC, hzC0, hzC1, hzC2⟩ := info_parts infoC
  obtain ⟨D, hD⟩ : ∃ D, DTrim B M s t w0 = D := ⟨_, rfl⟩
  rw [hD]
  replace hD := Lib.hid hD
  obtain ⟨f, hf⟩ : ∃ f, tmF s.fl t = f := ⟨_, rfl⟩
  obtain ⟨A0, c0, R0, hI0⟩ := h0
  obtain ⟨a0, a1⟩ := hI0.cells
  have a2 : w0.frozen? ⟨M, 1, none⟩ = false := hI0.row.frozen 1
  replace hI0 := Lib.hid hI0
  go_enter Try.func22, Try.ntmps22
  go_upto_if 15 with (fail)
  go_cut [] from 16 to 19 (fun wx => Hid (Chg (fun k => k = M) w0 wx ∧ DAt B wx M ⟨s.ch, f⟩))
  case first =>
    by_cases hs : s.fl < t
    · have e : f = t := by rw [← hf]; unfold tmF; rw [if_pos hs]
      have hfin := Lib.hid (show Chg (fun k => k = M) w0 (w0.setCell ⟨M, 1, none⟩ (.int .u64 t)) ∧ DAt B (w0.setCell ⟨M, 1, none⟩ (.int .u64 t)) M ⟨s.ch, f⟩ from ⟨Chg.setCell (K := fun k => k = M) (p := ⟨M, 1, none⟩) (Chg.refl _ _) rfl _, A0, c0, R0, by rw [e]; exact DIs.setF hI0.out t⟩)
      clear e hf hI0
      go_wp2
      go_meet
      exact hfin
    · have e : f = s.fl := by rw [← hf]; unfold tmF; rw [if_neg hs]
      have hfin := Lib.hid (show Chg (fun k => k = M) w0 w0 ∧ DAt B w0 M ⟨s.ch, f⟩ from ⟨Chg.refl _ _, A0, c0, R0, by rw [e]; exact hI0.out⟩)
      clear e hf hI0
      go_wp2
      go_meet
      exact hfin
  case rest =>
    obtain ⟨hC0, hW⟩ := hcut.out
    replace hC0 := Lib.hid hC0
    obtain ⟨w, hww⟩ : ∃ w, wc = w := ⟨_, rfl⟩
    subst hww
    obtain ⟨A, c, R, h⟩ := hW
    clear hcut hI0 a0 a1 a2
    have hle := h.le
    have htop := h.top
    have hlR : s.ch.length = R.length := h.len
    have hnR : R.length ≤ 60000 := by omega
    have hcM := Lib.hid (fun (X : World) (hB : Below wc.heap.size wc X) => (h.below hB).cells)
    have hat := Lib.hid (fun (j : Nat) (hj : j < R.length) => h.at hj)
    have hnt := Lib.hid (fun (j : Nat) (hj : j < R.length) => (show chnM.nt s.ch j = (ne R j).c from h.nt hj))
    have hst := Lib.hid (fun (j : Nat) (hj : j < R.length) => (show tcJ s.ch f (j + 1) = tcJ s.ch f j ++ [⟨(ne R j).c.key, trm (ne R j).c.l f⟩] ∧ tnJ s.ch f (j + 1) = tnJ s.ch f j + ((ne R j).c.l.length - (trm (ne R j).c.l f).length) from by rw [tcJ_step (by omega), tnJ_step (by omega), hnt.out j hj]; exact ⟨rfl, rfl⟩))
    have htl : Hid (∀ j, (tcJ s.ch f j).length ≤ j) := Lib.hid (fun j => by unfold tcJ tmC; rw [List.length_map]; exact List.length_take_le _ _)
    have htn := Lib.hid (tnJ_le s.ch f)
    have hll : Hid (∀ j, j < R.length → (ne R j).c.l.length ≤ 60000) := Lib.hid (fun j hj => by
      have h1 := hnt.out j hj
      have h2 := ln_le (ch := s.ch) (c := chnM.nt s.ch j) (by unfold chnM.nt; simp [List.getD, show j < s.ch.length by omega])
      rw [h1] at h2; omega)
    have hen := Lib.hid (show tcJ s.ch f R.length = tmC s.ch f ∧ tnJ s.ch f R.length = tmN s.ch f from by unfold tcJ tnJ; rw [← hlR, List.take_length]; exact ⟨rfl, rfl⟩)
    have hdone := Lib.hid (fun (P : List Ch) (wr : World) (A9 : Option Addr) (c9 : Nat) (R9 : List El) (hs : SJ B wc P wr A9 c9 R9) => SJ.done h hs)
    have hfz : Hid (∀ X, Below wc.heap.size wc X → X.frozen? ⟨M, 0, none⟩ = false) := Lib.hid (fun X hB => (h.below hB).row.frozen 0)
    have hbd := Lib.hid h.bd
    clear h hlR hcl hnt
    go_wp2
    go_loopw [5, 6, 7] (fun n o i wr => ∃ (j : Nat) (A9 : Option Addr) (c9 : Nat) (R9 : List El), j ≤ R.length ∧ n = .int .i64 (tnJ s.ch f j : Nat) ∧ o = .slice A9 R9.length c9 ∧ i = .int .i64 j ∧ Hid (SJ B wc (tcJ s.ch f j) wr A9 c9 R9)) (fun _ _ i _ => R.length - (intOf i).toNat)
    case atStart => exact ⟨0, none, 0, [], by omega, rfl, rfl, rfl, Lib.hid (SJ.start B wc)⟩
    case round =>
      obtain ⟨j, A9, c9, R9, hj, rfl, rfl, rfl, hI⟩ := hrel
      obtain ⟨q0, q1⟩ := hcM.out wr hI.out.bel
      by_cases hlt : j < R.length
      · obtain ⟨b, off, eA, k0, k1, hdv⟩ := hat.out j hlt
        subst eA
        have hjI : (j : Int) < (R.length : Int) := by omega
        have hs2 := Lib.hid (hst.out j hlt)
        have hR9 : R9.length ≤ j := by rw [hI.out.len]; exact htl.out j
        have hn1 : tnJ s.ch f j ≤ 60000 := Nat.le_trans (htn.out j) hln
        have hn2 : tnJ s.ch f (j + 1) ≤ 60000 := Nat.le_trans (htn.out (j + 1)) hln
        have hl9 := hll.out j hlt
        rw [hs2.out.2] at hn2
        generalize ne R j = x at *
        obtain ⟨Ax, cx, ex, hHV, -⟩ := hdv
        have r0 := keep_cell hI.out.bel k0
        have r1 := keep_cell hI.out.bel k1
        rw [ex] at r1
        have htr := Lib.hid (fun (X : World) (hB : Below wr.heap.size wr X) => rtrim_any Ax cx x.c.l f X ((hHV.below hI.out.bel).below hB))
        have hS0 := Lib.hid (show SQ wr M b (off + j * 2 + 1) c R.length (some ⟨b, off, none⟩) f (.slice Ax x.c.l.length cx) wr.drew from ⟨q0, q1, r1, below_drew wr⟩)
        have htm := trm_le x.c.l f
        generalize hm : trm x.c.l f = m at *
        have hm64 : m.length * 64 ≤ 140737488355328 := by omega
        clear k0 k1 hst htl htn hll hen hat hHV hcM hdone hfz
        go_upto_region 8 with (fail)
        go_region_held3 (SQ wr M b (off + j * 2 + 1) c R.length (some ⟨b, off, none⟩) f (.slice Ax x.c.l.length cx))
          (first | with_reducible exact hS0.out | with_reducible assumption | with_reducible exact SQ.fo (by assumption) (by assumption) | (go_must (exact (0 : Nat))) | fail)
          (first
            | (go_at_call 41; ((with_reducible refine (htr.out _ (And.right (And.right (And.right (by assumption))))).mono ?_); rintro e w' ⟨A5, c5, rfl, hG5, hB5⟩; have hG6 := Lib.hid (GV.more hG5 (Below.size (And.right (And.right (And.right hS0.out)))))))
            | fail)
        rename_i hH
        have hI2 := Lib.hid (SJ.below hI.out hH.2.2.2)
        have hlo : Hid (∀ k, BO B (.slice A9 R9.length c9) k → k < wr.heap.size) := Lib.hid (fun k hk => by
          rcases hk with hk | hk
          · have h1 := hbd.out k hk; have h2 := hI.out.bel.size; omega
          · exact (World.ownsRow.lt hI.out.own k hk).2)
        have hx2 := Lib.hid (show DV (BO B (.slice A9 R9.length c9)) w' (.slice A5 m.length c5) m from DV.of_gv hG6.out hm64 hlo.out)
        have y0 := hH.1
        have y1 := keep_cell hH.2.2.2 r0
        have hls : Hid (R9.length + 1 ≤ maxLen ∧ (R9.length + 1) * 40 ≤ 140737488355328 ∧ wc.heap.size ≤ (w'.alloc (.cells #[.string x.c.key, .slice A5 m.length c5] 84)).heap.size) := Lib.hid ⟨by unfold maxLen; omega, by omega, (bal hI2.out.bel _).size⟩
        clear hH hG5 hB5 hG6 hS0 htr hI hlo q0 q1 r0 r1
        go_wp2_with (at_builtin; refine wpList_gen rfl (.tmp 48) (.tmp 59) 26 rfl wc.heap.size 84 iC _ 2 40 Try.underlying26 hiC hzC0 hzC1 hzC2 rfl (by decide) _ R9.length (fE R9) (by rfl) (World.ownsRow.alloc hI2.out.own _) (some ⟨_, 0, none⟩) 1 1 [_, _] (by rfl) rfl (stand_at (by simp)) (two_one rfl rfl) hls.out.1 hls.out.2.1 hls.out.2.2 ?_; intro A7 c7 w7 hr7 hg7 hat7; have hI7 := Lib.hid (SJ.grow hI2.out ⟨⟨x.c.key, m⟩, .slice A5 m.length c5⟩ hx2.out (al0 _ _) hr7 hg7 hat7); clear hr7 hg7 hat7)
        go_roundw
        case rel => exact ⟨j + 1, A7, c7, R9 ++ [⟨⟨x.c.key, m⟩, .slice A5 m.length c5⟩], by omega, by rw [hs2.out.2]; go_num, by rw [len_e], by go_num, Lib.hid (by rw [hs2.out.1]; exact hI7.out)⟩
        case measure => simp [intOf]; omega
      · obtain rfl : j = R.length := by omega
        have hd := Lib.hid (hdone.out _ wr A9 c9 _ hI.out)
        have g0 := hfz.out wr hI.out.bel
        have hfin := Lib.hid (show DTrim B M s t w0 (.returned (.int .i64 (tnJ s.ch f R.length : Nat))) (wr.setCell ⟨M, 0, none⟩ (.slice A9 R9.length c9)) from ⟨by rw [hen.out.2, hf], hC0.out.trans hd.out.1, by rw [hf, ← hen.out.1]; exact hd.out.2⟩)
        rw [hD.out] at hfin
        clear hI hd hdone hfz hcM hat hst htl htn hll hen hbd hC0
        go_wp2
        exact hfin.out
end Go.Proofs.Ytlojmojmijklmaa.stoRh
