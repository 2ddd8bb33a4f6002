/- The document's All (for StorePlays). -/
import Derived.Test.YtlojmojmijklmaaStoRd
set_option linter.unusedVariables false
set_option maxRecDepth 100000
namespace Go.Proofs.Ytlojmojmijklmaa.stoRe
open Go.ChangeShapes Go.WideShapes Go.ChangeAt Go.RowKit Go.Deep
open opV chnM gen chnA chnB chnR chnE chnF chnG chnK chnT stoM stoA stoB stoC stoRa stoRb stoRc stoRd

def alJ (ch : List Ch) (lo hi : ByteArray) (j : Nat) : List Ver := al (ch.take j) lo hi
theorem alJ_step {ch : List Ch} {lo hi : ByteArray} {j : Nat} (hj : j < ch.length) : alJ ch lo hi (j + 1) = alJ ch lo hi j ++ (if wth (chnM.nt ch j).key lo hi = true then (chnM.nt ch j).l else []) := by
  unfold alJ al sp cc
  rw [List.take_succ_eq_append_getElem hj, List.filter_append, List.map_append, List.flatten_append]
  have e : chnM.nt ch j = ch[j] := by unfold chnM.nt; simp [List.getD, hj]
  rw [e]
  by_cases h : wth ch[j].key lo hi = true
  · rw [if_pos h]; simp [h]
  · rw [if_neg h]; simp [h]
theorem alJ_len (ch : List Ch) (lo hi : ByteArray) (j : Nat) : (alJ ch lo hi j).length ≤ ln ch := by
  unfold alJ al sp
  rw [cc_len]
  have h1 := ln_filter (fun c => wth c.key lo hi) (ch.take j)
  have h2 : ln (ch.take j) ≤ ln ch := by
    conv => rhs; rw [← List.take_append_drop j ch]
    rw [ln_app]; omega
  omega
theorem alJ_all (ch : List Ch) (lo hi : ByteArray) : alJ ch lo hi ch.length = al ch lo hi := by unfold alJ; rw [List.take_length]
set_option maxHeartbeats 4000000 in
theorem dall_any {B : Nat → Prop} {M : Nat} {s : St} (lo hi : ByteArray) (w : World) (h : DAt B w M s) (hln : ln s.ch ≤ 60000) (hcl : s.ch.length ≤ 60000) :
    Calls Try.prog 25 #[.pointer (some ⟨M, 0, none⟩), .string lo, .string hi] w (RV (al s.ch lo hi) w) := by
  obtain ⟨iV, hiV, hzV0, hzV1, hzV2⟩ := info_parts infoV
  obtain ⟨A, c, R, h⟩ := h
  have hle := h.le
  have htop := h.top
  have hlR := h.len
  have hnR : R.length ≤ 60000 := by omega
  have hcM := Lib.hid (fun (X : World) (hB : Below w.heap.size w X) => (h.below hB).cells.1)
  have hat := Lib.hid (fun (j : Nat) (hj : j < R.length) => h.at hj)
  have hst := Lib.hid (fun (j : Nat) (hj : j < R.length) => (show alJ s.ch lo hi (j + 1) = alJ s.ch lo hi j ++ (if wth (ne R j).c.key lo hi = true then (ne R j).c.l else []) from by rw [alJ_step (by omega), h.nt hj]))
  have hsl := Lib.hid (fun j => alJ_len s.ch lo hi j)
  have hen := Lib.hid (alJ_all s.ch lo hi)
  rw [hlR] at hen
  clear h
  go_enter Try.func25, Try.ntmps25
  go_wp2
  go_loopw [7, 8] (fun o i wr => ∃ (j : Nat) (A9 : Option Addr) (c9 : Nat) (r : List Ver), j ≤ R.length ∧ o = .slice A9 r.length c9 ∧ i = .int .i64 j ∧ Hid (alJ s.ch lo hi j = r) ∧ Hid (GV wr w.heap.size A9 c9 r) ∧ Hid (Below w.heap.size w wr)) (fun _ i _ => R.length - (intOf i).toNat)
  case atStart => exact ⟨0, none, 0, [], by omega, rfl, rfl, Lib.hid rfl, Lib.hid (GV.nil_ w _), Lib.hid (Below.refl _ _)⟩
  case round =>
    obtain ⟨j, A9, c9, r, hj, rfl, rfl, hr, hG, hB⟩ := hrel
    have c0 := hcM.out wr hB.out
    by_cases hlt : j < R.length
    · obtain ⟨b, off, eA, k0, k1, hdv⟩ := hat.out j hlt
      subst eA
      have hjI : (j : Int) < (R.length : Int) := by omega
      have hs2 := Lib.hid (hst.out j hlt)
      have hr1 : r.length ≤ ln s.ch := by have h1 := hsl.out j; rw [hr.out] at h1; exact h1
      have hr2 : (alJ s.ch lo hi (j + 1)).length ≤ ln s.ch := hsl.out (j + 1)
      rw [hs2.out, hr.out] at hr2
      generalize ne R j = x at *
      obtain ⟨Ax, cx, ex, hHV, -⟩ := hdv
      have q0 := keep_cell hB.out k0
      have q1 := keep_cell hB.out k1
      rw [ex] at q1
      have hHw := Lib.hid (hHV.below hB.out)
      clear k0 k1 hst hsl hen hat hHV
      cases hq : wth x.c.key lo hi
      · have e := Lib.hid (show alJ s.ch lo hi (j + 1) = r from hs2.out.trans (by rw [hq, hr.out]; simp))
        have hwi := Lib.hid (rwithin_any x.c.key lo hi wr)
        rw [hq] at hwi
        clear hs2 hr hcM hr2
        go_wp2_with (go_at_call 45; (with_reducible refine hwi.out.mono ?_); rintro e w' ⟨rfl, rfl⟩)
        go_roundw
        case rel => exact ⟨j + 1, A9, c9, r, by omega, rfl, by go_num, e, hG, hB⟩
        case measure => simp [intOf]; omega
      · have e := Lib.hid (show alJ s.ch lo hi (j + 1) = r ++ x.c.l from hs2.out.trans (by rw [hq, hr.out]; simp))
        have hrx : r.length + x.c.l.length ≤ 60000 := by rw [hq] at hr2; simp at hr2; omega
        have hwi := Lib.hid (rwithin_any x.c.key lo hi wr)
        rw [hq] at hwi
        have hls : Hid (r.length + x.c.l.length ≤ maxLen ∧ (r.length + x.c.l.length) * 64 ≤ 140737488355328 ∧ w.heap.size ≤ wr.heap.size) := Lib.hid ⟨by unfold maxLen; omega, by omega, hB.out.size⟩
        have hst := Lib.hid hHw.out.stand
        have hfl := Lib.hid (fl_len x.c.l)
        have hone := Lib.hid (fl_all x.c.l)
        have hgr := Lib.hid (fun (A8 : Option Addr) (c8 : Nat) (w8 : World) (ho : w8.ownsRow w.heap.size 35 6 (.slice A8 (r.length + x.c.l.length) c8) (r.length + x.c.l.length) (fl r ++ fl x.c.l)) (hg : wr.grownBy w8 (Value.slice A9 r.length c9).ownBlock) => (show GV w8 w.heap.size A8 c8 (r ++ x.c.l) ∧ Below w.heap.size w w8 from ⟨by unfold GV; rw [List.length_append, fl_app]; exact ho, hB.out.grown hg hB.out.size (fun b e => by have := (World.ownsRow.lt hG.out b e).1; omega)⟩))
        clear hs2 hr hcM hr2 hHw
        go_wp2_with (first | (go_at_call 45; (with_reducible refine hwi.out.mono ?_); rintro e w' ⟨rfl, rfl⟩) | (at_builtin; refine wpList_gen rfl (.tmp 29) (.tmp 37) 30 rfl w.heap.size 35 iV _ 6 64 Try.underlying30 hiV hzV0 hzV1 hzV2 rfl (by decide) _ r.length (fl r) (by rfl) hG.out Ax x.c.l.length cx (fl x.c.l) (by rfl) hfl.out hst.out hone.out hls.out.1 hls.out.2.1 hls.out.2.2 ?_; intro A8 c8 w8 hr8 hg8 hat8; obtain ⟨hG8, hB8⟩ := hgr.out A8 c8 w8 hr8 hg8; have hG8 := Lib.hid hG8; have hB8 := Lib.hid hB8; clear hr8 hg8 hat8))
        have hlen : Hid ((r ++ x.c.l).length = r.length + x.c.l.length) := Lib.hid (by simp)
        go_roundw
        case rel => exact ⟨j + 1, A8, c8, r ++ x.c.l, by omega, by rw [hlen.out], by go_num, e, hG8, hB8⟩
        case measure => simp [intOf]; omega
    · obtain rfl : j = R.length := by omega
      have hfin := Lib.hid (show RV (al s.ch lo hi) w (.returned (.slice A9 r.length c9)) wr from ⟨A9, c9, by rw [← hen.out, hr.out], by rw [← hen.out, hr.out]; exact hG.out, hB.out⟩)
      clear hr hG hB hen hst hsl hat hcM
      go_wp2
      go_ret
      exact hfin.out
end Go.Proofs.Ytlojmojmijklmaa.stoRe
