/- The program's Writes, end, Close. -/
import Derived.Test.YtnicomhodnfggaaSeK
set_option linter.unusedVariables false
set_option linter.unusedSimpArgs false
set_option maxRecDepth 100000
namespace Go.Proofs.Ytnicomhodnfggaa.seV
open Go.ChangeShapes Go.WideShapes Go.ChangeAt Go.RowKit Go.Deep
open opV chnM gen chnA chnR chnE seM seI ordC seL seN seB seK

theorem gv_made (w : World) : GV (w.alloc (.cells #[] 41)) w.heap.size (some ⟨w.heap.size, 0, none⟩) 0 [] :=
  ⟨rfl, .inr ⟨w.heap.size, 0, #[], rfl, Nat.le_refl _, heap_alloc_new w _, Nat.le_refl _, by unfold maxLen; omega, rfl, rfl⟩⟩
theorem clone_row (A : Option Addr) (c : Nat) (l : List Ver) (w : World) (h : HV w A c l) :
    Calls Try.prog 33 #[.slice A l.length c] w (RV l w) := by
  obtain ⟨iV, hiV, hzV0, hzV1, hzV2⟩ := info_parts infoV
  rcases A with _ | x
  · obtain rfl : c = 0 := h.nil_ rfl
    have h0 : l.length = 0 := by have := h.le; omega
    have hl : l = [] := List.eq_nil_of_length_eq_zero h0
    subst hl
    have hq := fun w : World => Lib.run_eql_slice_nil (P := Try.prog) w 27 41 none 0 0 0 0 Try.underlying27
    clear h hiV
    go_enter Try.func33, Try.ntmps33
    go_wp2
    go_ret
    exact ⟨none, 0, rfl, GV.nil_ _ _, Below.refl _ _⟩
  · have hm := Lib.hid (gv_made w)
    have hs := h.sm
    have hst := Lib.hid ((h.below (al0 w (.cells #[] 41))).stand)
    have hfl := Lib.hid (show (fl l).length = l.length * 6 from fl_len l)
    have hall := Lib.hid (fl_all l)
    have hls : Hid (0 + l.length ≤ maxLen ∧ (0 + l.length) * 64 ≤ 140737488355328) := Lib.hid ⟨by unfold maxLen; omega, by omega⟩
    have hq := fun w : World => Lib.run_eql_slice_nil (P := Try.prog) w 27 41 (some x) l.length c 0 0 Try.underlying27
    have hend := Lib.hid (fun A9 c9 w9 (h9 : w9.ownsRow w.heap.size 41 6 (.slice A9 (0 + l.length) c9) (0 + l.length) ([] ++ fl l)) (hg : (w.alloc (.cells #[] 41)).grownBy w9 (Value.slice (some ⟨w.heap.size, 0, none⟩) 0 0).ownBlock) => (by
      rw [Nat.zero_add] at h9
      have hB : Below w.heap.size w w9 := ⟨hg.os, hg.tape, hg.output, by have := hg.size; simp at this; omega, fun k hk => (hg.block k (by simp; omega) (by simp [Value.ownBlock]; omega)).trans ((al0 w _).block k hk)⟩
      exact ⟨A9, c9, rfl, h9, hB⟩ : RV l w (.returned (.slice A9 l.length c9)) w9))
    clear h hs
    go_enter Try.func33, Try.ntmps33
    go_wp2_with (at_builtin; refine wpList_gen rfl (.tmp 5) (.tmp 6) 27 rfl w.heap.size 41 iV _ 6 64 Try.underlying27 hiV hzV0 hzV1 hzV2 rfl (by decide) _ 0 [] (by rfl) hm.out (some x) l.length c (fl l) (by rfl) hfl.out hst.out hall.out hls.out.1 hls.out.2 (by simp) ?_; intro A9 c9 w9 hr9 hg9 hat9; have hF := Lib.hid (hend.out A9 c9 w9 hr9 hg9); clear hr9 hg9 hat9)
    go_ret
    exact hF.out
section
variable {col : Nat → Nat} {c p : Nat} {S : Ss}
theorem writes_at (w : World) (h : SesAt col c w p S) (hok : S.ok) : Calls Try.prog 24 #[.pointer (some ⟨p, 0, none⟩)] w (RV S.ws w) := by
  obtain ⟨A, cw, mb, n, D, h, hr⟩ := h
  obtain ⟨k0, k1, k2, k3, k4⟩ := h.cells
  have hb := Lib.hid (clone_row A cw S.ws w (h.ro.hv (by have := hok.le; omega)))
  clear h hr
  go_enter Try.func24, Try.ntmps24
  go_wp2_with (go_at_call 33; (with_reducible refine (hb.out).mono ?_); rintro e w' ⟨A9, c9, rfl, hG, hB⟩)
  go_ret
  exact ⟨A9, c9, rfl, hG, hB⟩
theorem ses_end {A : Option Addr} {cw mb n : Nat} {D : DM} {sn la : Int} {op : Bool} {ws : List Ver} {w : World} (h : SesM col c w p sn la op A cw ws mb n D) (hc : c ≠ 0) :
    Chg col c w ((w.setCell ⟨p, 2, none⟩ (.bool false)).setCell ⟨p, 3, none⟩ (.slice none 0 0)) ∧ SesM col c ((w.setCell ⟨p, 2, none⟩ (.bool false)).setCell ⟨p, 3, none⟩ (.slice none 0 0)) p sn la false none 0 [] mb n D := by
  obtain ⟨g1, h1⟩ := h.setOp hc false
  obtain ⟨g2, h2⟩ := h1.setNil hc
  exact ⟨g1.tran g2, h2⟩
theorem end_any {A : Option Addr} {cw mb n : Nat} {D : DM} {sn la : Int} {op : Bool} {ws : List Ver} (w : World) (h : SesM col c w p sn la op A cw ws mb n D) (hc : c ≠ 0) : Calls Try.prog 32 #[.pointer (some ⟨p, 0, none⟩)] w fun e w' =>
    e = .returned (.tuple #[]) ∧ Chg col c w w' ∧ SesM col c w' p sn la false none 0 [] mb n D := by
  obtain ⟨k0, k1, k2, k3, k4⟩ := h.cells
  have f2 := h.fz 2
  have f3 := h.fz 3
  have hfin := Lib.hid (ses_end h hc)
  clear h
  go_enter Try.func32, Try.ntmps32
  go_wp2
  go_end0
  exact ⟨rfl, hfin.out⟩
theorem close_at (w : World) (h : SesAt col c w p S) (hc : c ≠ 0) (hf : Fresh col w) (hok : S.ok) : Calls Try.prog 15 #[.pointer (some ⟨p, 0, none⟩)] w fun e w' =>
    e = .returned (.int .i64 (clE S)) ∧ Lv col c p (clS S) w w' := by
  cases hop : S.op with
  | false =>
    have hE : clE S = 17 := by unfold clE; rw [hop]; rfl
    have hS : clS S = S := by unfold clS; have := hok.cl hop; cases S; simp only at hop this; rw [hop, this]
    rw [hE, hS]
    have hfin := Lib.hid (lv_stay h hf (Below.refl _ _))
    obtain ⟨A, cw, mb, n, D, h, hr⟩ := h
    obtain ⟨k0, k1, k2, k3, k4⟩ := h.cells
    rw [hop] at k2
    clear h hr
    go_enter Try.func15, Try.ntmps15
    go_wp2
    go_ret
    exact ⟨rfl, hfin.out⟩
  | true =>
    have hE : clE S = 0 := by unfold clE; rw [hop]; rfl
    rw [hE]
    obtain ⟨A, cw, mb, n, D, h, hr, hn⟩ := h
    obtain ⟨k0, k1, k2, k3, k4⟩ := h.cells
    rw [hop] at k2
    have hfin := Lib.hid (fun w' (hg : Chg col c w w') (h' : SesM col c w' p S.snap S.last false none 0 [] mb n D) => (⟨col, ⟨Ext.refl _ _, hf.up hg.size, hg⟩, none, 0, mb, n, D, h', hr, hn⟩ : Lv col c p (clS S) w w'))
    have hen := Lib.hid (end_any w h hc)
    clear h hr
    go_enter Try.func15, Try.ntmps15
    go_wp2_with (go_at_call 32; (with_reducible refine (hen.out).mono ?_); rintro e w' ⟨rfl, hg, h'⟩)
    go_ret
    exact ⟨rfl, hfin.out _ hg h'⟩
end
end Go.Proofs.Ytnicomhodnfggaa.seV
