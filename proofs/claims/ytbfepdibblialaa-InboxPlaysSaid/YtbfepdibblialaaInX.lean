/- The document's Complete and Heard. -/
import Derived.Test.YtbfepdibblialaaInV
set_option linter.unusedVariables false
set_option linter.unusedSimpArgs false
set_option maxRecDepth 100000
namespace Go.Proofs.Ytbfepdibblialaa.inX
open Go.ChangeShapes Go.WideShapes Go.ChangeAt Go.RowKit Go.Deep
open opG opV opR chnM gen chnA chnR chnE ordA ordB ordC ordCr ordE2 inM inW inL inN inP inPt inG inD inA inK inQ inR inU inV

section
variable {col : Nat → Nat} {c q : Nat} {S : Bx} {w : World}
theorem done_of {at0 : Int} (h : canDo S at0 = true) : doneS S at0 = { S with done := S.done.set (at0 - S.first).toNat true } := by unfold doneS; rw [if_pos h]
set_option maxHeartbeats 4000000 in
theorem ddone_at (w : World) (h : DocAt col c w q S) (hok : S.ok) (hl : S.lim) (hc : c ≠ 0) (hf : Fresh col w) (at0 : Int) (h1 : -9223372036854775808 ≤ at0) (h2 : at0 ≤ 9223372036854775807) : Calls Try.prog 17 #[.pointer (some ⟨q, 0, none⟩), .int .i64 at0] w fun e w' =>
    e = .returned (.int .i64 (doneE S at0)) ∧ DLv col c q (doneS S at0) w w' := by
  have hst := Lib.hid (fun nn => dlv_stay h hf (bdrN nn (Below.refl w.heap.size w)))
  obtain ⟨Ac, cc, ms, Ad, cd, Ah, ch, h, hr⟩ := h
  obtain ⟨k0, k1, k2, k3, k4, k5⟩ := h.cells
  have a1 := hl.f
  have a2 := hl.c
  have a3 := hok.hd
  have a4 := hok.len
  by_cases hlow : at0 < (S.first : Int)
  · have hcd : canDo S at0 = false := by
      cases hh : canDo S at0 with
      | false => rfl
      | true => rw [canDo_iff] at hh; omega
    have hE : doneE S at0 = 7 := if_neg (by rw [hcd]; simp)
    have hS : doneS S at0 = S := if_neg (by rw [hcd]; simp)
    have hd1 : decide (at0 < (S.first : Int)) = true := decide_eq_true hlow
    rw [hE, hS]
    clear h hok hl hE hS hcd hlow h1 h2 a1 a2 a3 a4 hr
    generalize (S.first : Int) = f at *
    go_enter Try.func17, Try.ntmps17
    go_upto_region 1 with (fail)
    go_quiet (fail)
    go_wp2
    go_ret
    exact ⟨rfl, hst.out _⟩
  · obtain ⟨k, hk⟩ : ∃ k : Nat, at0 - (S.first : Int) = k := ⟨(at0 - S.first).toNat, by omega⟩
    have hkn : (at0 - (S.first : Int)).toNat = k := by omega
    have ew : IntKind.i64.wrap (at0 - (S.first : Int)) = (k : Int) := by rw [← hk]; exact wrap_in _ (by omega) (by omega)
    have hd1 : decide (at0 < (S.first : Int)) = false := decide_eq_false hlow
    have hlow2 : (S.first : Int) ≤ at0 := by omega
    by_cases hhd : S.handed ≤ k
    · have hcd : canDo S at0 = false := by
        cases hh : canDo S at0 with
        | false => rfl
        | true => rw [canDo_iff] at hh; omega
      have hE : doneE S at0 = 7 := if_neg (by rw [hcd]; simp)
      have hS : doneS S at0 = S := if_neg (by rw [hcd]; simp)
      have hd2 : decide (S.handed ≤ k) = true := decide_eq_true hhd
      have hd3 : decide ((S.handed : Int) ≤ (k : Int)) = true := decide_eq_true (by omega)
      rw [hE, hS]
      clear h hok hl hE hS hcd hlow hlow2 h1 h2 a1 a2 a3 a4 hr hk hkn hhd
      generalize (S.first : Int) = f at *
      generalize S.handed = hh at *
      go_enter Try.func17, Try.ntmps17
      go_upto_region 1 with (fail)
      go_quiet (fail)
      go_wp2
      go_ret
      exact ⟨rfl, hst.out _⟩
    · have hd2 : decide (S.handed ≤ k) = false := decide_eq_false hhd
      have hd3 : decide ((S.handed : Int) ≤ (k : Int)) = false := decide_eq_false (by omega)
      have hkl : k < S.done.length := by omega
      have hkI : (k : Int) < (S.done.length : Int) := by omega
      obtain ⟨b, hb⟩ : ∃ b, S.done[k]? = some b := ⟨_, List.getElem?_eq_getElem hkl⟩
      obtain ⟨bb, oo, rfl, hbb, q0, q1⟩ := docM_done h hb
      cases b with
      | true =>
        have hcd : canDo S at0 = false := by
          cases hh : canDo S at0 with
          | false => rfl
          | true => rw [canDo_iff, hkn, hb] at hh; simp at hh
        have hE : doneE S at0 = 7 := if_neg (by rw [hcd]; simp)
        have hS : doneS S at0 = S := if_neg (by rw [hcd]; simp)
        rw [hE, hS]
        clear h hok hl hE hS hcd hlow hlow2 h1 h2 a1 a2 a3 a4 hr hk hkn hhd hb
        generalize (S.first : Int) = f at *
        generalize S.handed = hh at *
        generalize S.done.length = nd at *
        go_enter Try.func17, Try.ntmps17
        go_upto_region 1 with (fail)
        go_quiet (fail)
        go_wp2
        go_ret
        exact ⟨rfl, hst.out _⟩
      | false =>
        have hcd : canDo S at0 = true := by rw [canDo_iff, hkn]; exact ⟨by omega, by omega, hb⟩
        have hE : doneE S at0 = 0 := if_pos hcd
        rw [hE]
        have hS := done_of hcd
        rw [hkn] at hS
        have hld : lead S.done ≤ lead (S.done.set k true) := lead_set _ _
        have hkey := Lib.hid (fun nn => (show (w.drewN nn).cell? ⟨bb, oo + k, none⟩ = some (.bool false) ∧ (w.drewN nn).frozen? ⟨bb, oo + k, none⟩ = false ∧ (w.drewN nn).cell? ⟨q, 3, none⟩ = some (.slice (some ⟨bb, oo, none⟩) S.done.length cd) ∧ (w.drewN nn).cell? ⟨q, 0, none⟩ = some (.int .i64 S.first) from ⟨q0, q1, k3, k0⟩))
        have hset := Lib.hid (fun nn => (show Calls Try.prog 32 #[.pointer (some ⟨q, 0, none⟩)] (((w.drewN nn).setCell ⟨bb, oo + k, none⟩ (.bool true)).drew) (fun e w' => e = .returned (.tuple #[]) ∧ DLv col c q (doneS S at0) w w') from by
          obtain ⟨g1, h1⟩ := (h.below (bdrN nn (Below.refl w.heap.size w))).stD hc hkl true
          have h2 := h1.below (below_drew _)
          refine (settle_any _ h2 hc (by omega) (by omega) (by rw [List.length_set]; omega) (by have := hl.h; omega)).mono ?_
          rintro e w' ⟨rfl, g3, h3⟩
          have hg : Chg col c w w' := (((Chg.of_below col c (bdrN nn (Below.refl w.heap.size w))).tran g1).then (below_drew _)).tran g3
          refine ⟨rfl, col, ⟨Ext.refl _ _, hf.up hg.size, hg⟩, Ac, cc, ms, some ⟨bb, oo, none⟩, cd, Ah, ch, ?_, by rw [hS]; exact hr⟩
          have e1 : S.hearts.foldl (stp ((S.first : Int) + (lead (S.done.set k true) : Nat))) S.g = (doneS S at0).g := by
            rw [hS]
            unfold Bx.g
            simp only
            rw [show ((({ S with done := S.done.set k true } : Bx).ap : Nat) : Int) = (S.first : Int) + (lead (S.done.set k true) : Nat) by unfold Bx.ap; simp only; omega]
            exact got_from_old (fun x hx => hx) (by unfold Bx.ap; omega)
          rw [e1] at h3
          rw [hS] at h3 ⊢
          exact h3))
        generalize doneS S at0 = S' at *
        clear h hok hl hE hS hcd hlow hlow2 h1 h2 a1 a2 a3 a4 hr hk hkn hhd hb hld hst
        generalize (S.first : Int) = f at *
        generalize S.handed = hh at *
        generalize S.done.length = nd at *
        go_enter Try.func17, Try.ntmps17
        go_upto_region 1 with (fail)
        go_quiet (fail)
        obtain ⟨e1, e2, e3, e4⟩ := hkey.out nq
        have hs4 := Lib.hid (hset.out nq)
        clear k0 k1 k2 k3 k4 k5 q0 q1 hkey hset
        generalize w.drewN nq = W2 at *
        go_upto_region 3 with (fail)
        go_region
        all_goals
          go_wp2_with (fail)
          with_reducible refine hs4.out.mono ?_
          rintro e w5 ⟨rfl, hL⟩
          replace hL := Lib.hid hL
          go_wp2
          go_ret
          exact ⟨rfl, hL.out⟩
set_option maxHeartbeats 4000000 in
theorem dheart_at (w : World) (h : DocAt col c w q S) (hok : S.ok) (hl : S.lim) (hc : c ≠ 0) (hf : Fresh col w) (t n : Int) : Calls Try.prog 19 #[.pointer (some ⟨q, 0, none⟩), .int .u64 t, .int .i64 n] w fun e w' =>
    e = .returned (.tuple #[]) ∧ DLv col c q (heartS S t n) w w' := by
  obtain ⟨Ac, cc, ms, Ad, cd, Ah, ch, h, hr⟩ := h
  obtain ⟨k0, k1, k2, k3, k4, k5⟩ := h.cells
  obtain ⟨iH, hiH, hzH0, hzH1, hzH2⟩ := info_parts infoH
  have hpl := h.row.lt
  have hwh := Lib.hid h.wh
  have a3 := hl.h
  have hend := Lib.hid (fun (o : Obj) (w7 : World) A' c' (hw : Win w7 0 65 2 A' (S.hearts.length + 1) c' (hv S.hearts ++ cH (t, n))) (hg : (w.alloc o).grownBy w7 (Value.slice Ah S.hearts.length ch).ownBlock) (hat : (Value.slice A' (S.hearts.length + 1) c').ownBlock = (Value.slice Ah S.hearts.length ch).ownBlock ∨ (Value.slice A' (S.hearts.length + 1) c').ownBlock = some (w.alloc o).heap.size) => (show w7.cell? ⟨q, 4, none⟩ = some (.slice Ah S.hearts.length ch) ∧ w7.frozen? ⟨q, 4, none⟩ = false ∧ Calls Try.prog 32 #[.pointer (some ⟨q, 0, none⟩)] (w7.setCell ⟨q, 4, none⟩ (.slice A' (S.hearts.length + 1) c')) (fun e w' => e = .returned (.tuple #[]) ∧ DLv col c q (heartS S t n) w w') from by
    have hB := al0 w o
    have hll : (S.hearts ++ [(t, n)]).length = S.hearts.length + 1 := by simp
    rw [← hv_one, ← hv_app] at hw
    rw [← hll] at hw hat ⊢
    obtain ⟨z1, z2, col', hC, h'⟩ := (h.below hB).grh hc (hf.up hB.size) hg hw hat
    refine ⟨z1, z2, (settle_any _ h' hc (by omega) (by have := hl.f; omega) (by have := hok.len; have := hl.c; omega) (by rw [hll]; omega)).mono ?_⟩
    rintro e w' ⟨rfl, g3, h3⟩
    refine ⟨rfl, col', ((Cn.below hf hB).trans hC).trans ⟨Ext.refl _ _, hC.2.1.up g3.size, g3⟩, Ac, cc, ms, Ad, cd, A', c', ?_, hr⟩
    have e1 : (S.hearts ++ [(t, n)]).foldl (stp ((S.first : Int) + (lead S.done : Nat))) S.g = (heartS S t n).g := by
      have e2 : (S.first : Int) + (lead S.done : Nat) = ((heartS S t n).ap : Nat) := by show (S.first : Int) + (lead S.done : Nat) = ((S.first + lead S.done : Nat) : Int); omega
      rw [e2]
      unfold Bx.g
      exact got_from_old (fun x hx => List.mem_append_left _ hx) (by show ((S.first + lead S.done : Nat) : Int) ≤ ((S.first + lead S.done : Nat) : Int); omega)
    rw [e1] at h3
    exact h3))
  generalize heartS S t n = S' at *
  clear h hok hl hr hf hc
  generalize S.hearts = hs at *
  go_enter Try.func19, Try.ntmps19
  go_wp2_with (at_builtin; go_must (refine wpList_win rfl (.tmp 10) (.tmp 14) 47 rfl 0 65 iH _ 2 16 Try.underlying47 hiH hzH0 hzH1 hzH2 rfl (by decide) Ah hs.length ch (hv hs) (by rfl) (hwh.out.below (al0 _ _)) (some ⟨_, 0, none⟩) 1 1 (cH (t, n)) (by rfl) rfl (stand_new _ _ _ _) (cH_one (t, n)) (by unfold maxLen; omega) (by omega) (Nat.zero_le _) ?_); intro A2 c2 w8 hw hg hat; obtain ⟨y1, y2, hS⟩ := hend.out _ _ _ _ hw hg hat; replace hS := Lib.hid hS; clear hw hg hat)
  with_reducible refine hS.out.mono ?_
  rintro e w5 ⟨rfl, hL⟩
  replace hL := Lib.hid hL
  clear hS hend hwh y1 y2 k0 k1 k2 k3 k4 k5
  go_wp2
  go_end0
  exact ⟨rfl, hL.out⟩
end
end Go.Proofs.Ytbfepdibblialaa.inX
