/- A net of the call's own; awake; NetFull. -/
import Derived.Test.YtggoaglcffdcnaaNetT
import Derived.Lib.SlBytesConst
namespace Go.Proofs.Ytggoaglcffdcnaa.netK
open Go.ChangeShapes Go.WideShapes Go.ChangeAt Go.RowKit Go.Deep
open numM rowA byt numA numB numC netA netB netC netD netE netG netS netT

/-- a net of the call's own, in a world behind w -/
def Mine (w : World) (p : Nat) (s : Ns) (wr : World) : Prop := ∃ col, NetAt col 1 wr p s ∧ Below w.heap.size w wr ∧ ∀ i, i < w.heap.size → col i = 0
section
variable {w w1 w2 : World} {p : Nat} {s : Ns} {f t : Int}
theorem Mine.new {e : Ending} (h : Newd w e w1) : Mine w w.heap.size nsZ w1 := by
  obtain ⟨-, hB, -, hc⟩ := h
  exact ⟨fun k => if k < w.heap.size then 0 else 1, hc _ 1 (if_neg (Nat.lt_irrefl _)), hB, fun i hi => if_pos hi⟩
theorem Mine.below (h : Mine w p s w1) (hB : Below w1.heap.size w1 w2) : Mine w p s w2 := by
  obtain ⟨col, h1, h3, h4⟩ := h
  exact ⟨col, h1.below hB, h3.trans (hB.mono h3.size), h4⟩
theorem Mine.bel (h : Mine w p s w1) : Below w.heap.size w w1 := by obtain ⟨col, h1, h3, h4⟩ := h; exact h3
theorem Mine.done {col : Nat → Nat} {s' : Ns} (h3 : Below w.heap.size w w1) (h4 : ∀ i, i < w.heap.size → col i = 0) (hg : Cg (fun b => col b = 1) w1 w2) (hn : NetAt (recol col w1 1) 1 w2 p s') : Mine w p s' w2 := by
  have hs := h3.size
  refine ⟨_, hn, h3.trans (hg.below hs fun k hk e => by rw [h4 k hk] at e; cases e), fun i hi => ?_⟩
  rw [rec_ext col w1 1 i (by omega)]; exact h4 i hi
theorem Mine.did {col : Nat → Nat} {s' : Ns} {E : Nat} {e : Ending} (h3 : Below w.heap.size w w1) (h4 : ∀ i, i < w.heap.size → col i = 0) (h : Did col 1 p E s' w1 e w2) : e = .returned (.int .i64 E) ∧ Mine w p s' w2 := ⟨h.1, Mine.done h3 h4 h.2.1 h.2.2⟩
theorem mine_send (A : Option Addr) (cap : Nat) (l : List Nat) (h : Mine w p s w1) (hw : IsWay f t) (hb : BL w1 A l.length l) (hnone : A = none → l.length = 0) (hl : l.length ≤ 100000) (hcn : s.lost < 1000000) :
    Calls Try.prog 20 #[.pointer (some ⟨p, 0, none⟩), .int .i64 f, .int .i64 t, .slice A l.length cap] w1 fun e w' => e = .returned (.int .i64 (sndE s (wn f t))) ∧ Mine w p (sndS s (wn f t) l) w' := by
  obtain ⟨col, h1, h3, h4⟩ := h
  exact (send_ok A cap l w1 h1 hw hb hnone hl hcn).mono fun e w' hd => Mine.did h3 h4 hd
theorem mine_len (h : Mine w p s w1) (hw : IsWay f t) : Calls Try.prog 12 #[.pointer (some ⟨p, 0, none⟩), .int .i64 f, .int .i64 t] w1 fun e w' => e = .returned (.int .i64 (s.row (wn f t)).length) ∧ w1 = w' := by
  obtain ⟨col, h1, h3, h4⟩ := h
  exact len_ok w1 h1 hw
theorem mine_lost (h : Mine w p s w1) : Calls Try.prog 11 #[.pointer (some ⟨p, 0, none⟩)] w1 fun e w' => e = .returned (.int .i64 s.lost) ∧ w1 = w' := by
  obtain ⟨col, h1, h3, h4⟩ := h
  exact lost_any w1 h1
theorem mine_twice (i : Nat) (h : Mine w p s w1) (hw : IsWay f t) (hi : i < (s.row (wn f t)).length) :
    Calls Try.prog 21 #[.pointer (some ⟨p, 0, none⟩), .int .i64 f, .int .i64 t, .int .i64 i] w1 fun e w' => e = .returned (.int .i64 (twE s (wn f t))) ∧ Mine w p (twS s (wn f t) i) w' := by
  obtain ⟨col, h1, h3, h4⟩ := h
  exact (twice_ok i w1 h1 hw hi).mono fun e w' hd => Mine.did h3 h4 hd
theorem mine_back (i : Nat) (h : Mine w p s w1) (hw : IsWay f t) (hi : i < (s.row (wn f t)).length) :
    Calls Try.prog 22 #[.pointer (some ⟨p, 0, none⟩), .int .i64 f, .int .i64 t, .int .i64 i] w1 fun e w' => e = .returned (.int .i64 (0 : Nat)) ∧ Mine w p (backS s (wn f t) i) w' := by
  obtain ⟨col, h1, h3, h4⟩ := h
  exact (back_ok i w1 h1 hw hi).mono fun e w' hd => Mine.did h3 h4 hd
theorem mine_bad (h : Mine w p s w1) (hw : ¬ IsWay f t) : Bad (.pointer (some ⟨p, 0, none⟩)) f t := by
  have := h
  exact .inr ⟨⟨p, rfl⟩, hw⟩
end
theorem one120 (w : World) : BL (w.alloc (.cells #[.int .u8 120] 5 (1, 2))) (some ⟨w.heap.size, 0, none⟩) [120].length [120] := by
  refine ⟨rfl, by simp, by simp, .inr ⟨w.heap.size, 0, rfl, by simp, fun i hi => ?_⟩⟩
  obtain rfl : i = 0 := by simp at hi; omega
  exact World.cell?_alloc_mark w #[.int .u8 120] 5 (1, 2) 0
set_option maxRecDepth 100000 in
set_option maxHeartbeats 1000000 in
theorem awake_any (w : World) : Calls Try.prog 16 #[] w fun e w' => e = .returned (.bool true) ∧ Below w.heap.size w w' := by
  have kc := fun (w : World) (C : Array Value) (n c : Nat) => Lib.run_convert_bytes_const (P := Try.prog) w 30 5 C n c Try.underlying30 Try.underlying5
  have hw : Hid (IsWay 1 2) := Lib.hid (by decide)
  go_enter Try.func16, Try.ntmps16
  go_wp2_with (fail)
  refine (new_any w).mono ?_
  rintro e w1 hN
  obtain rfl := hN.1
  have hM := Mine.new hN
  clear hN
  have hb2 := Lib.hid (one120 w1)
  have hM2 := Lib.hid (hM.below (al0 w1 (.cells #[.int .u8 120] 5 (1, 2))))
  clear hM
  have hsend := mine_send (some ⟨w1.heap.size, 0, none⟩) 1 [120] hM2.out hw.out hb2.out (by intro e; cases e) (by decide) (by decide)
  change Calls _ _ _ _ (fun e w' => e = .returned (.int .i64 0) ∧ Mine w w.heap.size (sndS nsZ 23 [120]) w') at hsend
  replace hsend := Lib.hid hsend
  clear hM2 hb2
  go_wp2_with (fail)
  refine hsend.out.mono ?_
  rintro e w3 ⟨rfl, hM3⟩
  clear hsend
  have hlen := mine_len hM3 hw.out
  change Calls _ _ _ _ (fun e w' => e = .returned (.int .i64 1) ∧ w3 = w') at hlen
  have hfin := Lib.hid hM3.bel
  replace hlen := Lib.hid hlen
  clear hM3
  go_wp2_with (fail)
  refine hlen.out.mono ?_
  rintro e w4 ⟨rfl, rfl⟩
  go_wp2
  go_ret
  exact ⟨rfl, hfin.out⟩
end Go.Proofs.Ytggoaglcffdcnaa.netK
