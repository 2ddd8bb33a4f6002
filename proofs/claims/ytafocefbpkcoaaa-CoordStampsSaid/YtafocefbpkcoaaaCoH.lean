/- The law's told. -/
import Derived.Test.YtafocefbpkcoaaaCoA
import Derived.Test.YtafocefbpkcoaaaCoDa
import Derived.Test.YtafocefbpkcoaaaCoB
set_option linter.unusedVariables false
set_option linter.unusedSimpArgs false
set_option maxRecDepth 100000
namespace Go.Proofs.Ytafocefbpkcoaaa.coH
open Go.ChangeShapes Go.WideShapes Go.ChangeAt Go.RowKit Go.Deep
open opG opV chnM gen chnA chnR chnE ordA ordC coG coO coM coP coL coN coB coK coV coE coF coW coT coA

set_option maxHeartbeats 2000000 in
theorem told_any (w : World) (A : Option Addr) (c : Nat) (rs : List SR) (h : Rd shS w A c rs) (hn : rs.length ≤ 1000) :
    Calls Try.prog 12 #[.slice A rs.length c] w fun e w' => ∃ A' c', e = .returned (.slice A' rs.length c') ∧ coG.Own coD.shD w' w.heap.size A' c' rs ∧ Below w.heap.size w w' := by
  obtain ⟨iV, hiV, hzV0, hzV1, hzV2⟩ := info_parts coDs.infoX
  have hcap := h.le
  have htop := h.top
  replace h := Lib.hid h
  go_enter Try.func12, Try.ntmps12
  go_wp2
  go_loopw [8, 3] (fun i s wr => ∃ (j : Nat) (A1 : Option Addr) (c1 : Nat), j ≤ rs.length ∧ i = .int .i64 j ∧ s = .slice A1 j c1 ∧ Hid (coG.Own coD.shD wr w.heap.size A1 c1 (rs.take j) ∧ Below w.heap.size w wr)) (fun i _ _ => rs.length - (intOf i).toNat)
  case atStart => exact ⟨0, none, 0, by omega, rfl, rfl, Lib.hid ⟨coG.Own.nil_ _ _ _, Below.refl _ _⟩⟩
  case round =>
    obtain ⟨j, A1, c1, hj, rfl, rfl, hX⟩ := hrel
    by_cases hlt : j < rs.length
    · have hjI : (j : Int) < (rs.length : Int) := by omega
      obtain ⟨r, hr⟩ : ∃ r, rs[j]? = some r := ⟨_, List.getElem?_eq_getElem hlt⟩
      obtain ⟨hG, hB⟩ := hX.out
      have hrd := h.out.step hB (Nat.le_refl _)
      obtain ⟨pb, po, rfl, hpb, hc⟩ := hrd.at_ hr
      have c0 : wr.cell? ⟨pb, po + j * 2, none⟩ = some (.int .i64 r.node) := hc 0 _ rfl
      have k1 : wr.cell? ⟨pb, po + j * 2 + 1, none⟩ = some (.slice r.A r.vs.length r.c) := hc 1 _ rfl
      have hl1 : (rs.take j).length = j := by simp; omega
      have hL1 : rs.take (j + 1) = rs.take j ++ [r] := by rw [List.take_succ_eq_append_getElem hlt, (List.getElem?_eq_some_iff.1 hr).2]
      obtain ⟨W1, hW1⟩ : ∃ W1, wr.alloc (.cells #[.int .i64 r.node, .slice r.A r.vs.length r.c] 61) = W1 := ⟨_, rfl⟩
      have hB1 : Below wr.heap.size wr W1 := by rw [← hW1]; exact al0 _ _
      obtain ⟨b0, b1, -⟩ := P2.cells (show P2 wr.heap.size r W1 by rw [← hW1]; exact P2.new wr r)
      have hal := al0 W1 (.cells #[.int .i64 r.node, .slice r.A r.vs.length r.c] 62)
      have hown := Lib.hid (show (W1.alloc (.cells #[.int .i64 r.node, .slice r.A r.vs.length r.c] 62)).ownsRow w.heap.size 62 2 (.slice A1 j c1) j (coD.shD.fl (rs.take j)) from by
        have := (hG.below hB1).below hal
        unfold coG.Own at this
        rw [hl1] at this
        exact this)
      have hend := Lib.hid (fun A9 c9 w9 (ho : w9.ownsRow w.heap.size 62 2 (.slice A9 (j + 1) c9) (j + 1) (coD.shD.fl (rs.take j) ++ cS r)) (hg : (W1.alloc (.cells #[.int .i64 r.node, .slice r.A r.vs.length r.c] 62)).grownBy w9 (Value.slice A1 j c1).ownBlock) => (by
        rw [hL1]
        exact ⟨Own.of_app (l' := [r]) hl1 rfl (Shape.fl_one _ _).symm ho, grown_below (trans0 (trans0 hB hB1) hal) hg (fun k e => (hG.lt (k := k) (by rw [hl1]; exact e)).1) (Nat.le_trans hB.size (Nat.le_trans hB1.size hal.size))⟩ : coG.Own coD.shD w9 w.heap.size A9 c9 (rs.take (j + 1)) ∧ Below w.heap.size w w9))
      have hlt9 := Lib.hid (show j + 1 ≤ maxLen ∧ (j + 1) * 32 ≤ 140737488355328 ∧ w.heap.size ≤ (W1.alloc (.cells #[.int .i64 r.node, .slice r.A r.vs.length r.c] 62)).heap.size from ⟨by unfold maxLen; omega, by omega, Nat.le_trans hB.size (Nat.le_trans hB1.size hal.size)⟩)
      replace hW1 := Lib.hid hW1
      clear hX hG hB hrd hc hL1 hl1 hr hB1 hal
      go_upto_region 5 with (fail)
      rw [hW1.out]
      clear hW1 c0 k1
      go_wp2_with (at_builtin; refine wpList_gen rfl (.tmp 12) (.tmp 18) 37 rfl w.heap.size 62 iV _ 2 32 Try.underlying37 hiV hzV0 hzV1 hzV2 rfl (by decide) (.slice A1 j c1) j (coD.shD.fl (rs.take j)) (by rfl) hown.out (some ⟨W1.heap.size, 0, none⟩) 1 1 (cS r) (by rfl) rfl (stand_new _ _ _ _) (cS_one _) hlt9.out.1 hlt9.out.2.1 hlt9.out.2.2 ?_; intro A9 c9 w9 hr9 hg9 hat9; have hF := Lib.hid (hend.out A9 c9 w9 hr9 hg9); clear hr9 hg9 hat9)
      go_roundw
      case rel => exact ⟨j + 1, A9, c9, by omega, by go_num, rfl, hF⟩
      case measure => simp [intOf]; omega
    · obtain rfl : j = rs.length := by omega
      have hjI : ¬ (rs.length : Int) < (rs.length : Int) := by omega
      have hG := hX.out
      rw [List.take_length] at hG
      clear hX
      go_wp2
      go_ret
      exact ⟨_, _, rfl, hG.1, hG.2⟩
end Go.Proofs.Ytafocefbpkcoaaa.coH
