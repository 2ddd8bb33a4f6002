/- The program's Done and Heart. -/
import Derived.Test.YtbfepdibblialaaInG
set_option linter.unusedVariables false
set_option linter.unusedSimpArgs false
set_option maxRecDepth 100000
namespace Go.Proofs.Ytbfepdibblialaa.inD
open Go.ChangeShapes Go.WideShapes Go.ChangeAt Go.RowKit Go.Deep
open opV chnM gen chnA chnR chnE ordA ordB ordC inM inW inL inN inP inPt inG

theorem lead_take : ∀ (l : List Bool) (k : Nat), lead (l.take k) = min k (lead l)
  | _, 0 => by simp [lead]
  | [], k + 1 => by simp [lead]
  | true :: l, k + 1 => by rw [List.take_succ_cons]; simp only [lead]; rw [lead_take l k]; omega
  | false :: l, k + 1 => by simp [lead]
theorem lead_0 {l : List Bool} (h : l[0]? = some false) : lead l = 0 := by
  cases l with
  | nil => rfl
  | cons b l => simp at h; subst h; rfl
section
variable {S : Bx} {at0 : Int}
theorem canDo_iff : canDo S at0 = true ↔ ((S.first : Int) ≤ at0 ∧ at0 < (S.first : Int) + S.handed ∧ S.done[(at0 - S.first).toNat]? = some false) := by unfold canDo; rw [decide_eq_true_eq]
theorem outs_at (hok : S.ok) {k : Nat} (hk : k < S.outs.length) : S.outs[k]? = S.done[k + lead S.done]? := by
  rw [hok.outs_len] at hk
  unfold Bx.outs
  rw [List.getElem?_drop, List.getElem?_take, if_pos (by omega)]
  congr 1
  omega
theorem wrap_low (x : Int) (h1 : -18446744073709551616 ≤ x) (h2 : x < -9223372036854775808) : IntKind.i64.wrap x = x + 18446744073709551616 := by
  have e : x % (18446744073709551616 : Int) = x + 18446744073709551616 := by omega
  have e2 : ¬ (x + 18446744073709551616 ≥ (9223372036854775808 : Int)) := by omega
  show (if (true && decide (x % (18446744073709551616 : Int) ≥ (9223372036854775808 : Int))) = true then x % (18446744073709551616 : Int) - 18446744073709551616 else x % (18446744073709551616 : Int)) = _
  rw [e, decide_eq_false e2]
  rfl
/-- where the place stands among those that are out -/
theorem way (hok : S.ok) (hl : S.lim) (h1 : -9223372036854775808 ≤ at0) (h2 : at0 ≤ 9223372036854775807) :
    (canDo S at0 = true ∧ ∃ k : Nat, IntKind.i64.wrap (at0 - S.ap) = k ∧ k < S.outs.length ∧ S.outs[k]? = some false ∧ (at0 - S.first).toNat = k + lead S.done) ∨
    (canDo S at0 = false ∧ (IntKind.i64.wrap (at0 - S.ap) < 0 ∨ (0 ≤ IntKind.i64.wrap (at0 - S.ap) ∧ (S.outs.length : Int) ≤ IntKind.i64.wrap (at0 - S.ap)) ∨ ∃ k : Nat, IntKind.i64.wrap (at0 - S.ap) = k ∧ k < S.outs.length ∧ S.outs[k]? = some true)) := by
  have hlo := hok.outs_len
  have hlh := hok.lh
  have hd := hok.hd
  have hln := hok.len
  obtain ⟨a1, a2, a3⟩ := hl
  have hap : (S.ap : Int) = S.first + lead S.done := by unfold Bx.ap; omega
  have hw : IntKind.i64.wrap (at0 - S.ap) = at0 - S.ap ∨ (at0 - S.ap < -9223372036854775808 ∧ 4611686018427387904 ≤ IntKind.i64.wrap (at0 - S.ap)) := by
    by_cases h : -9223372036854775808 ≤ at0 - S.ap
    · exact .inl (wrap_in _ h (by omega))
    · right
      rw [wrap_low _ (by omega) (by omega)]
      omega
  generalize IntKind.i64.wrap (at0 - S.ap) = wi at *
  by_cases hc : canDo S at0 = true
  · left
    refine ⟨hc, ?_⟩
    rw [canDo_iff] at hc
    obtain ⟨c1, c2, c3⟩ := hc
    have hge : lead S.done ≤ (at0 - S.first).toNat := by
      rcases Nat.lt_or_ge (at0 - S.first).toNat (lead S.done) with h | h
      · rw [lead_lt h] at c3; cases c3
      · exact h
    refine ⟨(at0 - S.first).toNat - lead S.done, by omega, by omega, ?_, by omega⟩
    rw [outs_at hok (by omega), ← c3]
    congr 1
    omega
  · right
    have hc' : canDo S at0 = false := by simpa using hc
    refine ⟨hc', ?_⟩
    by_cases h0 : wi < 0
    · exact .inl h0
    · by_cases hge : (S.outs.length : Int) ≤ wi
      · exact .inr (.inl ⟨by omega, hge⟩)
      · right; right
        have hwi : wi = at0 - S.ap := by omega
        refine ⟨wi.toNat, by omega, by omega, ?_⟩
        rw [outs_at hok (by omega)]
        have hlt : wi.toNat + lead S.done < S.done.length := by omega
        have e : (at0 - S.first).toNat = wi.toNat + lead S.done := by omega
        rw [canDo_iff, e] at hc
        rw [List.getElem?_eq_getElem hlt] at hc ⊢
        cases hb : S.done[wi.toNat + lead S.done] with
        | true => rfl
        | false => exact absurd ⟨by omega, by omega, by rw [hb]⟩ hc
/-- what is out behind it -/
theorem done_outs (hok : S.ok) (hc : canDo S at0 = true) {k : Nat} (hk : k < S.outs.length) (he : (at0 - S.first).toNat = k + lead S.done) :
    (doneS S at0).ap = S.ap + lead (S.outs.set k true) ∧ (doneS S at0).outs = (S.outs.set k true).drop (lead (S.outs.set k true)) := by
  have hS : doneS S at0 = { S with done := S.done.set (k + lead S.done) true } := by unfold doneS; rw [if_pos hc, he]
  have hok' := ok_done hok at0
  have hlh := hok'.lh
  rw [hS] at hok' hlh ⊢
  simp only at hlh
  have hL := lead_set S.done (k + lead S.done)
  have hlo := hok.outs_len
  have hx : S.outs.set k true = ((S.done.set (k + lead S.done) true).take S.handed).drop (lead S.done) := by
    unfold Bx.outs
    apply List.ext_getElem?
    intro i
    rw [List.getElem?_set, List.getElem?_drop, List.getElem?_take, List.getElem?_drop, List.getElem?_take, List.getElem?_set]
    have hlen : ((S.done.take S.handed).drop (lead S.done)).length = S.outs.length := rfl
    have hln := hok.len
    have hd := hok.hd
    rw [hlen]
    by_cases hki : k = i
    · subst hki
      rw [if_pos rfl, if_pos hk, if_pos (by omega), if_pos (by omega), if_pos (by omega)]
    · rw [if_neg hki, if_neg (by omega : ¬ k + lead S.done = lead S.done + i)]
  have hlx : lead (S.outs.set k true) = lead (S.done.set (k + lead S.done) true) - lead S.done := by
    rw [hx, lead_drop _ _ (by rw [lead_take]; have := hok.lh; omega), lead_take]
    omega
  refine ⟨by unfold Bx.ap; simp only; omega, ?_⟩
  rw [hx, List.drop_drop, ← hx, hlx]
  unfold Bx.outs
  simp only
  congr 1
  omega
end
section
variable {col : Nat → Nat} {c p : Nat} {S : Bx}
theorem doneS_box {col' : Nat → Nat} {w w' : World} {Ao Ai : Option Addr} {co ci mb n : Nat} {ms : List MR} {D : DM} {at0 : Int} {k : Nat} (hok : S.ok) (hcd : canDo S at0 = true) (hk : k < S.outs.length) (he : (at0 - S.first).toNat = k + lead S.done)
    (hr : ms.map MR.r = S.came.drop S.handed) (hn : n ≤ S.hearts.length) (hC : Cn c col w col' w') (h : BoxM col' c w' p ((S.ap : Int) + lead (S.outs.set k true)) Ao co ((S.outs.set k true).drop (lead (S.outs.set k true))) Ai ci ms mb n D (gotF S.hearts ((S.ap : Int) + lead (S.outs.set k true)))) (hm : MapRel S.hearts ((S.ap : Int) + lead (S.outs.set k true)) (gotF S.hearts ((S.ap : Int) + lead (S.outs.set k true))) D) : Lv col c p (doneS S at0) w w' := by
  obtain ⟨e1, e2⟩ := done_outs hok hcd hk he
  have e3 : (doneS S at0).hearts = S.hearts := by unfold doneS; split <;> rfl
  have e4 : (doneS S at0).came.drop (doneS S at0).handed = S.came.drop S.handed := by unfold doneS; split <;> rfl
  have e5 : (((doneS S at0).ap : Nat) : Int) = (S.ap : Int) + lead (S.outs.set k true) := by rw [e1]; omega
  refine ⟨col', hC, Ao, co, Ai, ci, ms, mb, n, D, ?_, by rw [e4]; exact hr, by rw [e3]; exact hn, ?_⟩
  · unfold Bx.g; rw [e5, e2, e3]; exact h
  · unfold Bx.g; rw [e5, e3]; exact hm
set_option maxHeartbeats 4000000 in
theorem done_at (w : World) (h : BoxAt col c w p S) (hok : S.ok) (hl : S.lim) (hc : c ≠ 0) (hf : Fresh col w) (at0 : Int) (h1 : -9223372036854775808 ≤ at0) (h2 : at0 ≤ 9223372036854775807) : Calls Try.prog 16 #[.pointer (some ⟨p, 0, none⟩), .int .i64 at0] w fun e w' =>
    e = .returned (.int .i64 (doneE S at0)) ∧ Lv col c p (doneS S at0) w w' := by
  have hst := Lib.hid (lv_stay h hf (Below.refl _ _))
  obtain ⟨Ao, co, Ai, ci, ms, mb, n, D, h, hr, hn, hmr⟩ := h
  obtain ⟨k0, k1, k2, k3, k4⟩ := h.cells
  have hlo := hok.outs_len
  have hhd := hok.hd
  obtain ⟨ew, hew⟩ : ∃ z, IntKind.i64.wrap (at0 - (S.ap : Int)) = z := ⟨_, rfl⟩
  have hwy := way hok hl h1 h2
  rw [hew] at hwy
  rcases hwy with ⟨hcd, k, rfl, hk, hx, he⟩ | ⟨hcd, hway⟩
  · have hE : doneE S at0 = 0 := if_pos hcd
    rw [hE]
    obtain ⟨bb, oo, rfl, hbb, q0, q1⟩ := boxM_out h hx
    obtain ⟨hg4, h4⟩ := h.stO hc hk true
    have hkI : (k : Int) < (S.outs.length : Int) := by omega
    have hf4 := hf.up hg4.size
    have hcases : (∃ b, (S.outs.set k true)[0]? = some b) := by
      have : 0 < (S.outs.set k true).length := by rw [List.length_set]; omega
      exact ⟨_, List.getElem?_eq_getElem this⟩
    have hfin := Lib.hid (fun col' w' A co' D' (hC : Cn c col w col' w') hb hm => doneS_box (p := p) (Ao := A) (co := co') (Ai := Ai) (ci := ci) (D := D') (mb := mb) hok hcd hk he hr hn hC hb hm)
    obtain ⟨b0, hb0⟩ := hcases
    have hr0 := (boxM_out h4 hb0)
    obtain ⟨_, _, heq, _, q2, _⟩ := hr0
    cases heq
    rw [Nat.add_zero] at q2
    have hgo := Lib.hid (goOn_any _ S.hearts h4 hc hf4 hmr rfl (by omega) (by have := hl.f; have := hl.c; have := hok.lh; unfold Bx.ap; omega) (by rw [List.length_set]; have := hl.c; omega) (by have := hl.h; omega))
    cases b0 with
    | true =>
      have hfin2 := Lib.hid (fun w' (hG : GoneOn col c p S.ap (S.outs.set k true) Ai ci ms mb n S.hearts (w.setCell ⟨bb, oo + k, none⟩ (.bool true)) w') => (by
        obtain ⟨c2, A2, co2, D2, z1, z2, z3⟩ := hG
        exact hfin.out c2 w' A2 co2 D2 (Cn.trans ⟨Ext.refl _ _, hf4, hg4⟩ z1) z2 z3 : Lv col c p (doneS S at0) w w'))
      obtain ⟨W4, hW4⟩ : ∃ W4, w.setCell ⟨bb, oo + k, none⟩ (.bool true) = W4 := ⟨_, rfl⟩
      have j1 := h4.cells.2.1
      rw [List.length_set] at j1
      rw [hW4] at hgo hfin2 q2 j1
      clear hst h hr hn hmr hok hl hlo hhd hx he hg4 h4 hf4 hfin hb0 hcd hE h1 h2 hf hc
      have hI0 : (0 : Int) < (S.outs.length : Int) := by omega
      generalize S.outs.length = nx at *
      generalize (S.ap : Int) = ap at *
      go_enter Try.func16, Try.ntmps16
      go_upto_region 7 with (fail)
      clear hW4 k0 k1 k2 k3 k4 q0 q1
      go_wp2_with (fail)
      with_reducible refine hgo.out.mono ?_
      rintro e w5 ⟨rfl, hG⟩
      have hL := Lib.hid (hfin2.out _ hG)
      clear hG hfin2 hgo
      go_wp2
      go_ret
      exact ⟨rfl, hL.out⟩
    | false =>
      have hld := lead_0 hb0
      rw [hld] at hfin
      have hL := Lib.hid (hfin.out col _ (some ⟨bb, oo, none⟩) co D ⟨Ext.refl _ _, hf4, hg4⟩ (by rw [show (S.ap : Int) + ((0 : Nat) : Int) = S.ap by omega, List.drop_zero]; exact h4) (by rw [show (S.ap : Int) + ((0 : Nat) : Int) = S.ap by omega]; exact hmr))
      obtain ⟨W4, hW4⟩ : ∃ W4, w.setCell ⟨bb, oo + k, none⟩ (.bool true) = W4 := ⟨_, rfl⟩
      have j1 := h4.cells.2.1
      rw [List.length_set] at j1
      rw [hW4] at hL q2 j1
      clear hst h hr hn hmr hok hl hlo hhd hx he hg4 h4 hf4 hfin hb0 hcd hE h1 h2 hf hc hgo
      have hI0 : (0 : Int) < (S.outs.length : Int) := by omega
      generalize S.outs.length = nx at *
      generalize (S.ap : Int) = ap at *
      go_enter Try.func16, Try.ntmps16
      go_upto_region 7 with (fail)
      clear hW4 k0 k1 k2 k3 k4 q0 q1
      go_wp2
      go_ret
      exact ⟨rfl, hL.out⟩
  · have hE : doneE S at0 = 7 := if_neg (by rw [hcd]; simp)
    have hS : doneS S at0 = S := if_neg (by rw [hcd]; simp)
    rw [hE]
    rw [hS]
    have hq : (ew < 0) ∨ (¬ ew < 0 ∧ (S.outs.length : Int) ≤ ew) ∨ ∃ (k : Nat) (bb oo : Nat), ew = k ∧ (k : Int) < (S.outs.length : Int) ∧ Ao = some ⟨bb, oo, none⟩ ∧ w.cell? ⟨bb, oo + k, none⟩ = some (.bool true) := by
      rcases hway with h0 | ⟨h0, h3⟩ | ⟨k, rfl, hk, hx⟩
      · exact .inl h0
      · exact .inr (.inl ⟨by omega, h3⟩)
      · obtain ⟨bb, oo, rfl, hbb, q0, q1⟩ := boxM_out h hx
        exact .inr (.inr ⟨k, bb, oo, rfl, by omega, rfl, q0⟩)
    clear h hr hn hmr hok hl hlo hhd hway hcd hE hS h1 h2 hf hc
    generalize S.outs.length = nx at *
    generalize (S.ap : Int) = ap at *
    rcases hq with h0 | ⟨h0, h3⟩ | ⟨k, bb, oo, rfl, hk, rfl, q0⟩
    all_goals
      go_enter Try.func16, Try.ntmps16
      go_wp2
      go_ret
      exact ⟨rfl, hst.out⟩
theorem heartS_box {col' : Nat → Nat} {w w' : World} {Ao Ai : Option Addr} {co ci mb n' : Nat} {ms : List MR} {D' : DM} {t k g' : Int} (hC : Cn c col w col' w') (h : BoxM col' c w' p S.ap Ao co S.outs Ai ci ms mb n' D' g') (hr : ms.map MR.r = S.came.drop S.handed) (hn : n' ≤ S.hearts.length + 1)
    (hg : g' = stp S.ap S.g (t, k)) (hm : MapRel (S.hearts ++ [(t, k)]) S.ap g' D') : Lv col c p (heartS S t k) w w' := by
  have e2 : (heartS S t k).g = g' := by unfold Bx.g heartS; rw [hg]; exact got_app _ _ _
  exact ⟨col', hC, Ao, co, Ai, ci, ms, mb, n', D', by rw [e2]; exact h, hr, by unfold heartS; simpa using hn, by rw [e2]; exact hm⟩
theorem stp_in {ap g t k : Int} (h : k ≤ ap) : max g t = stp ap g (t, k) := by unfold stp; simp only; split <;> omega
theorem stp_out {ap g t k : Int} (h : ¬ k ≤ ap) : g = stp ap g (t, k) := by unfold stp; simp only; rw [if_neg (by omega)]
set_option maxHeartbeats 4000000 in
theorem heart_at (w : World) (h : BoxAt col c w p S) (hok : S.ok) (hl : S.lim) (hc : c ≠ 0) (hf : Fresh col w) (t k : Int) (ht : 0 ≤ t) (ht9 : t < 18446744073709551616) (h1 : -9223372036854775808 ≤ k) (h2 : k ≤ 9223372036854775807) : Calls Try.prog 18 #[.pointer (some ⟨p, 0, none⟩), .int .u64 t, .int .i64 k] w fun e w' =>
    e = .returned (.tuple #[]) ∧ Lv col c p (heartS S t k) w w' := by
  obtain ⟨Ao, co, Ai, ci, ms, mb, n, D, h, hr, hn, hmr⟩ := h
  obtain ⟨k0, k1, k2, k3, k4⟩ := h.cells
  have f4 := h.fz 4
  by_cases hk : k ≤ (S.ap : Int)
  · obtain ⟨g2, b2⟩ := h.setG hc (max S.g t)
    have hL := Lib.hid (heartS_box ⟨Ext.refl _ _, hf.up g2.size, g2⟩ b2 hr (by omega) (stp_in hk) (mapRel_now hmr (x := (t, k)) hk))
    clear h hr hn hmr hok hl h1 h2 hf hc g2 b2 ht ht9
    generalize S.g = g at *
    generalize (S.ap : Int) = ap at *
    go_enter Try.func18, Try.ntmps18
    go_wp2
    go_end0
    exact ⟨rfl, hL.out⟩
  · by_cases hg : S.g < t
    · have hwk : (Lit.int .i64 k).wf = true := by simp [Lit.wf, IntKind.min, IntKind.max, IntKind.bits, IntKind.signed]; omega
      have hkey := Maps.keyOf_int_mk Try.underlying3 hwk
      obtain ⟨cv, hlk, hat, hwc⟩ := World.ownsMap.lookup_int (w := w.drew) h.mp law3 Try.underlying57 Try.underlying27 (Try.zeroValue27 _) hkey
      have hcv := hm_look hat
      have hwv : (Lit.int .u64 (max cv t)).wf = true := by simp [Lit.wf, IntKind.min, IntKind.max, IntKind.bits, IntKind.signed] at hwc ⊢; omega
      obtain ⟨w5, hup, hm5, ht5⟩ := World.ownsMap.store (w := w.drew) (val := .int .u64 (max cv t)) h.mp law3 Try.underlying57 (by have := hl.h; unfold maxLen; omega) hkey (plainElem_int Try.underlying27 hwv)
      obtain ⟨g5, b5⟩ := (h.below (below_drew w)).turned hc ht5.grown hm5
      have hg5 := (Chg.of_below col c (below_drew w)).tran g5
      have hL := Lib.hid (heartS_box ⟨Ext.refl _ _, hf.up hg5.size, hg5⟩ b5 hr (by omega) (stp_out hk) (mapRel_put hmr h.mp.isMap (x := (t, k)) (by show (S.ap : Int) < k; omega) ht hcv))
      clear h hr hn hmr hok hl h1 h2 hf hc ht ht9 hm5 ht5 g5 b5 hg5 hwk hkey hat hwc hcv hwv
      generalize S.g = g at *
      generalize (S.ap : Int) = ap at *
      go_enter Try.func18, Try.ntmps18
      go_upto_region 4 with (fail)
      go_region
      all_goals
        go_wp2
        go_end0
        exact ⟨rfl, hL.out⟩
    · have hL := Lib.hid (heartS_box ⟨Ext.refl _ _, hf, Chg.refl _ _ _⟩ h hr (by omega) (stp_out hk) (mapRel_less hmr (x := (t, k)) (by show t ≤ S.g; omega)))
      clear h hr hn hmr hok hl h1 h2 hf hc ht ht9
      generalize S.g = g at *
      generalize (S.ap : Int) = ap at *
      go_enter Try.func18, Try.ntmps18
      go_wp2
      go_end0
      exact ⟨rfl, hL.out⟩
end
end Go.Proofs.Ytbfepdibblialaa.inD
