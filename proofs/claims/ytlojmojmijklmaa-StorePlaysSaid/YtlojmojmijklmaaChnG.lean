/- The contracts of Trim, in the program and in the document's own answer; the statement ChainTrims. -/
import Derived.Test.YtlojmojmijklmaaChnF
set_option linter.unusedVariables false
namespace Go.Proofs.Ytlojmojmijklmaa.chnG
open Go.ChangeShapes Go.WideShapes Go.ChangeAt Go.RowKit Go.Deep
open opV chnM gen chnA chnB chnR chnC chnD chnE chnF

theorem six_one {v0 v1 v2 v3 v4 v5 : Value} (h0 : v0.oneCell' = true) (h1 : v1.oneCell' = true) (h2 : v2.oneCell' = true) (h3 : v3.oneCell' = true) (h4 : v4.oneCell' = true) (h5 : v5.oneCell' = true) : ∀ u ∈ [v0, v1, v2, v3, v4, v5], u.oneCell' = true := by
  intro u hu
  simp only [List.mem_cons, List.not_mem_nil, or_false] at hu
  rcases hu with rfl | rfl | rfl | rfl | rfl | rfl <;> assumption
/-- A row of the call's own has grown by one. -/
theorem grow_on {W X X1 w9 : World} {A A9 : Option Addr} {c c9 base : Nat} {k : List Ver} {x : Ver} (hW : Below W.heap.size W X) (hG : GV X base A c k) (hb : W.heap.size ≤ base) (hB : Below X.heap.size X X1)
    (ho : w9.ownsRow base 35 6 (.slice A9 (k.length + 1) c9) (k.length + 1) (fl k ++ [.string x.key, .string x.val, .bool x.gone, .int .u64 x.ts, .int .i64 x.dc, .int .i64 x.tx])) (hg : X1.grownBy w9 (Value.slice A k.length c).ownBlock) :
    GV w9 base A9 c9 (k ++ [x]) ∧ Below W.heap.size W w9 := by
  have hl : (k ++ [x]).length = k.length + 1 := by simp
  refine ⟨?_, (trans0 hW hB).grown hg (trans0 hW hB).size (fun b e => by have := (World.ownsRow.lt hG b e).1; omega)⟩
  unfold GV
  rw [hl, fl_app, fl_one]
  exact ho
theorem stand_at {w : World} {ys : List Value} {t : TypeId} {m n : Nat} (h : n = w.heap.size) : Stand (w.alloc (.cells ys.toArray t)) (some ⟨n, 0, none⟩) m ys := h ▸ stand_new w ys t m
theorem len_on {k : List Ver} {x : Ver} : (k ++ [x]).length = k.length + 1 := by simp
set_option maxRecDepth 100000 in
set_option maxHeartbeats 2000000 in
theorem trim_any_f (A : Option Addr) (c : Nat) (l : List Ver) (sn : Int) (w : World) (h : HV w A c l) (hq : atB l sn = false) :
    Calls Try.prog 35 #[.slice A l.length c, .int .u64 sn] w (TV (l.length - (trm l sn).length) (trm l sn) w) := by
  have hl9 : l.length ≤ 9223372036854775807 := Nat.le_trans h.le h.top
  have hsm := h.sm
  obtain ⟨iV, hiV, hzV0, hzV1, hzV2⟩ := info_parts infoV
  have ha := at_any A c l sn w h
  rw [hq] at ha
  have hkp : Hid (∀ x, keep l sn x = true) := Lib.hid (fun x => by unfold keep; rw [hq]; rfl)
  have htr := Lib.hid (show trm l sn = l.filter (keep l sn) from rfl)
  have htl := Lib.hid (trm_le l sn)
  obtain ⟨tr, htr'⟩ : ∃ tr, trm l sn = tr := ⟨_, rfl⟩
  rw [htr'] at htr htl ⊢
  clear htr'
  generalize keep l sn = p at *
  generalize atV l sn = V at *
  replace ha := Lib.hid ha
  replace h := Lib.hid h
  clear hq
  go_enter Try.func35, Try.ntmps35
  go_wp2_with (fail)
  refine ha.out.mono ?_
  rintro e w1 ⟨rfl, hB1⟩
  have hal := al0 w1 (.cells #[.string V.key, .string V.val, .bool V.gone, .int .u64 V.ts, .int .i64 V.dc, .int .i64 V.tx] 35)
  have hx0 := V6.new w1 V 35
  obtain ⟨W, hW⟩ : ∃ W, w1.alloc (.cells #[.string V.key, .string V.val, .bool V.gone, .int .u64 V.ts, .int .i64 V.dc, .int .i64 V.tx] 35) = W := ⟨_, rfl⟩
  rw [hW] at hal hx0
  have hBW := Lib.hid (trans0 hB1 hal)
  have hx0 := Lib.hid hx0
  replace hW := Lib.hid hW
  clear hal hB1 ha
  go_wp2
  rw [hW.out]
  have hb := Lib.hid hBW.out.size
  generalize w1.heap.size = bs at *
  go_loopw [8, 19] (fun s i wr => ∃ (j : Nat) (k : List Ver) (A' : Option Addr) (c' : Nat), j ≤ l.length ∧ s = .slice A' k.length c' ∧ i = .int .i64 j ∧ Hid (k = (l.take j).filter p) ∧ Hid (GV wr W.heap.size A' c' k) ∧ Hid (Below W.heap.size W wr)) (fun _ i _ => l.length - (intOf i).toNat)
  case atStart => exact ⟨0, [], none, 0, by omega, rfl, rfl, Lib.hid rfl, Lib.hid (GV.nil_ _ _), Lib.hid (Below.refl _ _)⟩
  case round =>
    obtain ⟨j, k, A', c', hj, rfl, rfl, hk, hG, hB⟩ := hrel
    by_cases hlt : j < l.length
    · obtain ⟨pb, po, rfl, hpb, hc⟩ := ((h.out.below hBW.out).below hB.out).at hlt
      have hjI : (j : Int) < (l.length : Int) := by omega
      have hft := Lib.hid (filt_take (p := p) hlt)
      have hkl : k.length ≤ j := by rw [hk.out]; exact filt_len
      have hpx := Lib.hid (hkp.out (nt l j))
      generalize nt l j = x at *
      have hal := al0 wr (.cells #[.string x.key, .string x.val, .bool x.gone, .int .u64 x.ts, .int .i64 x.dc, .int .i64 x.tx] 35)
      have hbx := V6.new wr x 35
      have hb6 := (hx0.out.below hB.out).below hal
      obtain ⟨W1, hW1⟩ : ∃ W1, wr.alloc (.cells #[.string x.key, .string x.val, .bool x.gone, .int .u64 x.ts, .int .i64 x.dc, .int .i64 x.tx] 35) = W1 := ⟨_, rfl⟩
      rw [hW1] at hal hbx hb6
      have hS := Lib.hid (show V6 wr.heap.size 0 x W1 ∧ V6 bs 0 V W1 from ⟨hbx, hb6⟩)
      have hB1 := Lib.hid hal
      obtain ⟨c0, c1, c2, c3, c4, c5⟩ := hc
      have hpx : Hid (p x = true) := Lib.hid hpx.out
      obtain ⟨d0, d1, d2, d3, d4, d5⟩ := hS.out.1
      have hB2 : Hid (Below wr.heap.size wr W1) := hB1
      obtain ⟨w2, hw2⟩ : ∃ w2, w2 = W1 := ⟨_, rfl⟩
      rw [← hw2] at hB2
      rw [← hW1] at d0 d1 d2 d3 d4 d5
      replace hw2 := Lib.hid (hw2.trans hW1.symm)
      rw [hw2.out] at hB2
      have hx := Lib.hid (trans0 hB.out hB2.out)
      have hGx := Lib.hid (hG.out.below hB2.out)
      have hls : Hid (k.length + 1 ≤ maxLen ∧ (k.length + 1) * 64 ≤ 140737488355328 ∧ W.heap.size ≤ ((wr.alloc (.cells #[.string x.key, .string x.val, .bool x.gone, .int .u64 x.ts, .int .i64 x.dc, .int .i64 x.tx] 35)).alloc (.cells #[.string x.key, .string x.val, .bool x.gone, .int .u64 x.ts, .int .i64 x.dc, .int .i64 x.tx] 35)).heap.size) := Lib.hid ⟨by unfold maxLen; omega, by omega, (bal hx.out _).size⟩
      have hk2 := Lib.hid (show k ++ [x] = (l.take (j + 1)).filter p by rw [hft.out, hpx.out, ← hk.out]; rfl)
      clear hW1 hS hB1 hal hbx hb6
      clear hft hk hpx hkl hsm
      go_wp2_with (at_builtin; go_must (refine wpList_gen rfl (.tmp 31) (.tmp 33) 30 rfl W.heap.size 35 iV _ 6 64 Try.underlying30 hiV hzV0 hzV1 hzV2 rfl (by decide) _ k.length (fl k) (by rfl) (World.ownsRow.alloc hGx.out _) (some ⟨_, 0, none⟩) 1 1 [_, _, _, _, _, _] (by rfl) rfl (stand_at (by simp)) (six_one rfl rfl rfl rfl rfl rfl) hls.out.1 hls.out.2.1 hls.out.2.2 ?_); intro A9 c9 w9 hr9 hg9 hat9; obtain ⟨hG9, hB9⟩ := grow_on hx.out hGx.out (Nat.le_refl _) (al0 _ _) hr9 hg9; have hG9' := Lib.hid hG9; have hB9' := Lib.hid hB9; clear hr9 hg9 hat9 hG9 hB9)
      go_roundw
      case rel => exact ⟨j + 1, k ++ [x], A9, c9, by omega, by rw [len_on], by go_num, hk2, hG9', hB9'⟩
      case measure => simp [intOf]; omega
    · obtain rfl : j = l.length := by omega
      rw [List.take_length, ← htr.out] at hk
      obtain rfl := hk.out
      have hfin := Lib.hid (show TV (l.length - k.length) k w (.returned (.tuple #[.slice A' k.length c', .int .i64 ((l.length - k.length : Nat) : Int)])) wr from ⟨A', c', rfl, hG.out.more hb.out, trans0 hBW.out hB.out⟩)
      have hkl : k.length ≤ l.length := htl.out
      rw [show (((l.length - k.length : Nat) : Int)) = (l.length : Int) - (k.length : Int) by omega] at hfin
      clear hk hG hB
      go_wp2
      go_ret2
      exact hfin.out
set_option maxRecDepth 100000 in
set_option maxHeartbeats 2000000 in
theorem trim_any_t (A : Option Addr) (c : Nat) (l : List Ver) (sn : Int) (w : World) (h : HV w A c l) (hq : atB l sn = true) :
    Calls Try.prog 35 #[.slice A l.length c, .int .u64 sn] w (TV (l.length - (trm l sn).length) (trm l sn) w) := by
  have hl9 : l.length ≤ 9223372036854775807 := Nat.le_trans h.le h.top
  have hsm := h.sm
  obtain ⟨iV, hiV, hzV0, hzV1, hzV2⟩ := info_parts infoV
  have ha := at_any A c l sn w h
  rw [hq] at ha
  have hkp : Hid (∀ x, keep l sn x = !lt x (atV l sn)) := Lib.hid (fun x => by unfold keep; rw [hq]; rfl)
  have htr := Lib.hid (show trm l sn = l.filter (keep l sn) from rfl)
  have htl := Lib.hid (trm_le l sn)
  obtain ⟨tr, htr'⟩ : ∃ tr, trm l sn = tr := ⟨_, rfl⟩
  rw [htr'] at htr htl ⊢
  clear htr'
  generalize keep l sn = p at *
  generalize atV l sn = V at *
  replace ha := Lib.hid ha
  replace h := Lib.hid h
  clear hq
  go_enter Try.func35, Try.ntmps35
  go_wp2_with (fail)
  refine ha.out.mono ?_
  rintro e w1 ⟨rfl, hB1⟩
  have hal := al0 w1 (.cells #[.string V.key, .string V.val, .bool V.gone, .int .u64 V.ts, .int .i64 V.dc, .int .i64 V.tx] 35)
  have hx0 := V6.new w1 V 35
  obtain ⟨W, hW⟩ : ∃ W, w1.alloc (.cells #[.string V.key, .string V.val, .bool V.gone, .int .u64 V.ts, .int .i64 V.dc, .int .i64 V.tx] 35) = W := ⟨_, rfl⟩
  rw [hW] at hal hx0
  have hBW := Lib.hid (trans0 hB1 hal)
  have hx0 := Lib.hid hx0
  replace hW := Lib.hid hW
  clear hal hB1 ha
  go_wp2
  rw [hW.out]
  have hb := Lib.hid hBW.out.size
  generalize w1.heap.size = bs at *
  go_loopw [8, 19] (fun s i wr => ∃ (j : Nat) (k : List Ver) (A' : Option Addr) (c' : Nat), j ≤ l.length ∧ s = .slice A' k.length c' ∧ i = .int .i64 j ∧ Hid (k = (l.take j).filter p) ∧ Hid (GV wr W.heap.size A' c' k) ∧ Hid (Below W.heap.size W wr)) (fun _ i _ => l.length - (intOf i).toNat)
  case atStart => exact ⟨0, [], none, 0, by omega, rfl, rfl, Lib.hid rfl, Lib.hid (GV.nil_ _ _), Lib.hid (Below.refl _ _)⟩
  case round =>
    obtain ⟨j, k, A', c', hj, rfl, rfl, hk, hG, hB⟩ := hrel
    by_cases hlt : j < l.length
    · obtain ⟨pb, po, rfl, hpb, hc⟩ := ((h.out.below hBW.out).below hB.out).at hlt
      have hjI : (j : Int) < (l.length : Int) := by omega
      have hft := Lib.hid (filt_take (p := p) hlt)
      have hkl : k.length ≤ j := by rw [hk.out]; exact filt_len
      have hpx := Lib.hid (hkp.out (nt l j))
      generalize nt l j = x at *
      have hal := al0 wr (.cells #[.string x.key, .string x.val, .bool x.gone, .int .u64 x.ts, .int .i64 x.dc, .int .i64 x.tx] 35)
      have hbx := V6.new wr x 35
      have hb6 := (hx0.out.below hB.out).below hal
      obtain ⟨W1, hW1⟩ : ∃ W1, wr.alloc (.cells #[.string x.key, .string x.val, .bool x.gone, .int .u64 x.ts, .int .i64 x.dc, .int .i64 x.tx] 35) = W1 := ⟨_, rfl⟩
      rw [hW1] at hal hbx hb6
      have hS := Lib.hid (show V6 wr.heap.size 0 x W1 ∧ V6 bs 0 V W1 from ⟨hbx, hb6⟩)
      have hB1 := Lib.hid hal
      obtain ⟨c0, c1, c2, c3, c4, c5⟩ := hc
      have hcall := Lib.hid (below_any x V)
      rw [show lt x V = !p x by rw [hpx.out]; simp] at hcall
      obtain ⟨d0, d1, d2, d3, d4, d5⟩ := hS.out.1
      obtain ⟨e0, e1, e2, e3, e4, e5⟩ := hS.out.2
      rw [← hW1] at d0 d1 d2 d3 d4 d5 e0 e1 e2 e3 e4 e5
      clear hal hbx hb6
      replace hW1 := Lib.hid hW1
      clear hpx
      cases hpx : p x with
      | true =>
      rw [hpx] at hcall
      replace hpx := Lib.hid hpx
      go_wp2_with (fail)
      rw [hW1.out]
      refine (hcall.out W1).mono ?_
      rintro e w2 ⟨rfl, hB2⟩
      clear d0 d1 d2 d3 d4 d5 e0 e1 e2 e3 e4 e5
      obtain ⟨d0, d1, d2, d3, d4, d5⟩ := hS.out.1.below hB2
      have hB2 := Lib.hid (trans0 hB1.out hB2)
      clear hS hB1 hcall
      have hx := Lib.hid (trans0 hB.out hB2.out)
      have hGx := Lib.hid (hG.out.below hB2.out)
      have hls : Hid (k.length + 1 ≤ maxLen ∧ (k.length + 1) * 64 ≤ 140737488355328 ∧ W.heap.size ≤ (w2.alloc (.cells #[.string x.key, .string x.val, .bool x.gone, .int .u64 x.ts, .int .i64 x.dc, .int .i64 x.tx] 35)).heap.size) := Lib.hid ⟨by unfold maxLen; omega, by omega, (bal hx.out _).size⟩
      have hk2 := Lib.hid (show k ++ [x] = (l.take (j + 1)).filter p by rw [hft.out, hpx.out, ← hk.out]; rfl)
      clear hft hk hpx hkl hsm
      go_wp2_with (at_builtin; go_must (refine wpList_gen rfl (.tmp 31) (.tmp 33) 30 rfl W.heap.size 35 iV _ 6 64 Try.underlying30 hiV hzV0 hzV1 hzV2 rfl (by decide) _ k.length (fl k) (by rfl) (World.ownsRow.alloc hGx.out _) (some ⟨_, 0, none⟩) 1 1 [_, _, _, _, _, _] (by rfl) rfl (stand_at (by simp)) (six_one rfl rfl rfl rfl rfl rfl) hls.out.1 hls.out.2.1 hls.out.2.2 ?_); intro A9 c9 w9 hr9 hg9 hat9; obtain ⟨hG9, hB9⟩ := grow_on hx.out hGx.out (Nat.le_refl _) (al0 _ _) hr9 hg9; have hG9' := Lib.hid hG9; have hB9' := Lib.hid hB9; clear hr9 hg9 hat9 hG9 hB9)
      go_roundw
      case rel => exact ⟨j + 1, k ++ [x], A9, c9, by omega, by rw [len_on], by go_num, hk2, hG9', hB9'⟩
      case measure => simp [intOf]; omega
      | false =>
      rw [hpx] at hcall
      have hk2 := Lib.hid (show k = (l.take (j + 1)).filter p by rw [hft.out, hpx, ← hk.out]; simp)
      clear hpx
      go_wp2_with (fail)
      rw [hW1.out]
      refine (hcall.out W1).mono ?_
      rintro e w2 ⟨rfl, hB2⟩
      have hB2 := Lib.hid (trans0 hB1.out hB2)
      clear d0 d1 d2 d3 d4 d5 e0 e1 e2 e3 e4 e5
      have hx := Lib.hid (trans0 hB.out hB2.out)
      have hGx := Lib.hid (hG.out.below hB2.out)
      clear hft hk hkl hsm hS hB1 hcall
      go_wp2
      go_roundw
      case rel => exact ⟨j + 1, k, A', c', by omega, rfl, by go_num, hk2, hGx, hx⟩
      case measure => simp [intOf]; omega
    · obtain rfl : j = l.length := by omega
      rw [List.take_length, ← htr.out] at hk
      obtain rfl := hk.out
      have hfin := Lib.hid (show TV (l.length - k.length) k w (.returned (.tuple #[.slice A' k.length c', .int .i64 ((l.length - k.length : Nat) : Int)])) wr from ⟨A', c', rfl, hG.out.more hb.out, trans0 hBW.out hB.out⟩)
      have hkl : k.length ≤ l.length := htl.out
      rw [show (((l.length - k.length : Nat) : Int)) = (l.length : Int) - (k.length : Int) by omega] at hfin
      clear hk hG hB
      go_wp2
      go_ret2
      exact hfin.out
set_option maxRecDepth 100000 in
set_option maxHeartbeats 2000000 in
theorem rtrim_any_f (A : Option Addr) (c : Nat) (l : List Ver) (sn : Int) (w : World) (h : HV w A c l) (hq : atB l sn = false) :
    Calls Try.prog 41 #[.slice A l.length c, .int .u64 sn] w (TV (l.length - (trm l sn).length) (trm l sn) w) := by
  have hl9 : l.length ≤ 9223372036854775807 := Nat.le_trans h.le h.top
  have hsm := h.sm
  obtain ⟨iV, hiV, hzV0, hzV1, hzV2⟩ := info_parts infoV
  have ha := seen_any A c l sn w h
  have hkp : Hid (∀ x, keep l sn x = true) := Lib.hid (fun x => by unfold keep; rw [hq]; rfl)
  have hq1 : snA l sn = -1 := by
    have h0 : ¬ 0 ≤ snA l sn := of_decide_eq_false hq
    have h1 := (seen_bd l sn l.length).1
    unfold snA at *; omega
  rw [hq1] at ha
  clear hq1
  have htr := Lib.hid (show trm l sn = l.filter (keep l sn) from rfl)
  have htl := Lib.hid (trm_le l sn)
  obtain ⟨tr, htr'⟩ : ∃ tr, trm l sn = tr := ⟨_, rfl⟩
  rw [htr'] at htr htl ⊢
  clear htr'
  generalize keep l sn = p at *
  replace ha := Lib.hid ha
  replace h := Lib.hid h
  clear hq
  go_enter Try.func41, Try.ntmps41
  go_wp2_with (fail)
  refine ha.out.mono ?_
  rintro e W ⟨rfl, hBW⟩
  have hb := Lib.hid hBW.size
  replace hBW := Lib.hid hBW
  clear ha
  go_wp2
  go_loopw [7, 8] (fun s i wr => ∃ (j : Nat) (k : List Ver) (A' : Option Addr) (c' : Nat), j ≤ l.length ∧ s = .slice A' k.length c' ∧ i = .int .i64 j ∧ Hid (k = (l.take j).filter p) ∧ Hid (GV wr W.heap.size A' c' k) ∧ Hid (Below W.heap.size W wr)) (fun _ i _ => l.length - (intOf i).toNat)
  case atStart => exact ⟨0, [], none, 0, by omega, rfl, rfl, Lib.hid rfl, Lib.hid (GV.nil_ _ _), Lib.hid (Below.refl _ _)⟩
  case round =>
    obtain ⟨j, k, A', c', hj, rfl, rfl, hk, hG, hB⟩ := hrel
    by_cases hlt : j < l.length
    · obtain ⟨pb, po, rfl, hpb, hc⟩ := ((h.out.below hBW.out).below hB.out).at hlt
      have hjI : (j : Int) < (l.length : Int) := by omega
      have hft := Lib.hid (filt_take (p := p) hlt)
      have hkl : k.length ≤ j := by rw [hk.out]; exact filt_len
      have hpx := Lib.hid (hkp.out (nt l j))
      generalize nt l j = x at *
      have hpx : Hid (p x = true) := Lib.hid hpx.out
      have hc' := hc
      obtain ⟨c0, c1, c2, c3, c4, c5⟩ := hc'
      go_wp2
      go_quiet (fail)
      have hB2 := Lib.hid (bdrN nq (Below.refl wr.heap.size wr))
      have hcc := Lib.hid (V6.below hc hB2.out)
      clear hc c0 c1 c2 c3 c4 c5
      generalize wr.drewN nq = w2 at *
      obtain ⟨c0, c1, c2, c3, c4, c5⟩ := hcc.out
      have hx := Lib.hid (trans0 hB.out hB2.out)
      have hGx := Lib.hid (hG.out.below hB2.out)
      have hls : Hid (k.length + 1 ≤ maxLen ∧ (k.length + 1) * 64 ≤ 140737488355328 ∧ W.heap.size ≤ (w2.alloc (.cells #[.string x.key, .string x.val, .bool x.gone, .int .u64 x.ts, .int .i64 x.dc, .int .i64 x.tx] 35)).heap.size) := Lib.hid ⟨by unfold maxLen; omega, by omega, (bal hx.out _).size⟩
      have hk2 := Lib.hid (show k ++ [x] = (l.take (j + 1)).filter p by rw [hft.out, hpx.out, ← hk.out]; rfl)
      clear hft hk hpx hkl hsm
      go_wp2_with (at_builtin; go_must (refine wpList_gen rfl (.tmp 32) (.tmp 37) 30 rfl W.heap.size 35 iV _ 6 64 Try.underlying30 hiV hzV0 hzV1 hzV2 rfl (by decide) _ k.length (fl k) (by rfl) (World.ownsRow.alloc hGx.out _) (some ⟨_, 0, none⟩) 1 1 [_, _, _, _, _, _] (by rfl) rfl (stand_at (by simp)) (six_one rfl rfl rfl rfl rfl rfl) hls.out.1 hls.out.2.1 hls.out.2.2 ?_); intro A9 c9 w9 hr9 hg9 hat9; obtain ⟨hG9, hB9⟩ := grow_on hx.out hGx.out (Nat.le_refl _) (al0 _ _) hr9 hg9; have hG9' := Lib.hid hG9; have hB9' := Lib.hid hB9; clear hr9 hg9 hat9 hG9 hB9)
      go_roundw
      case rel => exact ⟨j + 1, k ++ [x], A9, c9, by omega, by rw [len_on], by go_num, hk2, hG9', hB9'⟩
      case measure => simp [intOf]; omega
    · obtain rfl : j = l.length := by omega
      rw [List.take_length, ← htr.out] at hk
      obtain rfl := hk.out
      have hfin := Lib.hid (show TV (l.length - k.length) k w (.returned (.tuple #[.slice A' k.length c', .int .i64 ((l.length - k.length : Nat) : Int)])) wr from ⟨A', c', rfl, hG.out.more hb.out, trans0 hBW.out hB.out⟩)
      have hkl : k.length ≤ l.length := htl.out
      rw [show (((l.length - k.length : Nat) : Int)) = (l.length : Int) - (k.length : Int) by omega] at hfin
      clear hk hG hB
      go_wp2
      go_ret2
      exact hfin.out
set_option maxRecDepth 100000 in
set_option maxHeartbeats 2000000 in
theorem rtrim_any_t (A : Option Addr) (c : Nat) (l : List Ver) (sn : Int) (w : World) (h : HV w A c l) (hq : atB l sn = true) :
    Calls Try.prog 41 #[.slice A l.length c, .int .u64 sn] w (TV (l.length - (trm l sn).length) (trm l sn) w) := by
  have hl9 : l.length ≤ 9223372036854775807 := Nat.le_trans h.le h.top
  have hsm := h.sm
  obtain ⟨iV, hiV, hzV0, hzV1, hzV2⟩ := info_parts infoV
  have ha := seen_any A c l sn w h
  have hkp : Hid (∀ x, keep l sn x = !lt x (atV l sn)) := Lib.hid (fun x => by unfold keep; rw [hq]; rfl)
  obtain ⟨q, hq1, hq2, hq3⟩ : ∃ q : Nat, snA l sn = q ∧ q < l.length ∧ atV l sn = nt l q := by
    have h0 : 0 ≤ snA l sn := of_decide_eq_true hq
    have h1 := (seen_bd l sn l.length).2
    exact ⟨(snA l sn).toNat, by omega, by unfold snA; unfold snA at h0; omega, by unfold atV; rw [if_pos h0]⟩
  rw [hq1] at ha
  have hq0 : (0 : Int) ≤ (q : Int) := by omega
  have hqI : (q : Int) < (l.length : Int) := by omega
  rw [hq3] at hkp
  clear hq1 hq3
  have htr := Lib.hid (show trm l sn = l.filter (keep l sn) from rfl)
  have htl := Lib.hid (trm_le l sn)
  obtain ⟨tr, htr'⟩ : ∃ tr, trm l sn = tr := ⟨_, rfl⟩
  rw [htr'] at htr htl ⊢
  clear htr'
  generalize keep l sn = p at *
  replace ha := Lib.hid ha
  replace h := Lib.hid h
  clear hq
  go_enter Try.func41, Try.ntmps41
  go_wp2_with (fail)
  refine ha.out.mono ?_
  rintro e W ⟨rfl, hBW⟩
  have hb := Lib.hid hBW.size
  replace hBW := Lib.hid hBW
  clear ha
  go_wp2
  go_loopw [7, 8] (fun s i wr => ∃ (j : Nat) (k : List Ver) (A' : Option Addr) (c' : Nat), j ≤ l.length ∧ s = .slice A' k.length c' ∧ i = .int .i64 j ∧ Hid (k = (l.take j).filter p) ∧ Hid (GV wr W.heap.size A' c' k) ∧ Hid (Below W.heap.size W wr)) (fun _ i _ => l.length - (intOf i).toNat)
  case atStart => exact ⟨0, [], none, 0, by omega, rfl, rfl, Lib.hid rfl, Lib.hid (GV.nil_ _ _), Lib.hid (Below.refl _ _)⟩
  case round =>
    obtain ⟨j, k, A', c', hj, rfl, rfl, hk, hG, hB⟩ := hrel
    by_cases hlt : j < l.length
    · obtain ⟨pb, po, rfl, hpb, hc⟩ := ((h.out.below hBW.out).below hB.out).at hlt
      have hjI : (j : Int) < (l.length : Int) := by omega
      have hft := Lib.hid (filt_take (p := p) hlt)
      have hkl : k.length ≤ j := by rw [hk.out]; exact filt_len
      have hpx := Lib.hid (hkp.out (nt l j))
      obtain ⟨pb2, po2, ea, -, hcq⟩ := ((h.out.below hBW.out).below hB.out).at hq2
      simp only [Option.some.injEq, Addr.mk.injEq, and_true] at ea
      obtain ⟨rfl, rfl⟩ := ea
      generalize nt l j = x at *
      generalize nt l q = V at *
      have hS : Hid (S2 pb (po + j * 6) pb (po + q * 6) x V wr.drew ∧ Below wr.heap.size wr wr.drew) := Lib.hid ⟨⟨hc, hcq⟩, below_drew _⟩
      have hcall := Lib.hid (rless_any x V)
      rw [show lt x V = !p x by rw [hpx.out]; simp] at hcall
      clear hpx hcq
      obtain ⟨c0, c1, c2, c3, c4, c5⟩ := hc
      cases hpx : p x with
      | true =>
      rw [hpx] at hcall
      replace hpx := Lib.hid hpx
      go_wp2
      go_region_held3 (fun w' => S2 pb (po + j * 6) pb (po + q * 6) x V w' ∧ Below wr.heap.size wr w')
        (first | with_reducible exact hS.out | with_reducible assumption | with_reducible exact ⟨S2.below (And.left (by assumption)) (by assumption), trans0 (And.right (by assumption)) (by assumption)⟩ | fail)
        (first
          | (go_at_call 56; ((with_reducible refine (hcall.out _).mono ?_); rintro e w' ⟨rfl, hB9⟩)) | fail)
      rename_i hHeld
      clear hS hcall c0 c1 c2 c3 c4 c5
      obtain ⟨⟨hcc, -⟩, hB2⟩ := hHeld
      replace hB2 := Lib.hid hB2
      obtain ⟨c0, c1, c2, c3, c4, c5⟩ := hcc
      have hx := Lib.hid (trans0 hB.out hB2.out)
      have hGx := Lib.hid (hG.out.below hB2.out)
      have hls : Hid (k.length + 1 ≤ maxLen ∧ (k.length + 1) * 64 ≤ 140737488355328 ∧ W.heap.size ≤ (w'.alloc (.cells #[.string x.key, .string x.val, .bool x.gone, .int .u64 x.ts, .int .i64 x.dc, .int .i64 x.tx] 35)).heap.size) := Lib.hid ⟨by unfold maxLen; omega, by omega, (bal hx.out _).size⟩
      have hk2 := Lib.hid (show k ++ [x] = (l.take (j + 1)).filter p by rw [hft.out, hpx.out, ← hk.out]; rfl)
      clear hft hk hpx hkl hsm
      go_wp2_with (at_builtin; go_must (refine wpList_gen rfl (.tmp 32) (.tmp 37) 30 rfl W.heap.size 35 iV _ 6 64 Try.underlying30 hiV hzV0 hzV1 hzV2 rfl (by decide) _ k.length (fl k) (by rfl) (World.ownsRow.alloc hGx.out _) (some ⟨_, 0, none⟩) 1 1 [_, _, _, _, _, _] (by rfl) rfl (stand_at (by simp)) (six_one rfl rfl rfl rfl rfl rfl) hls.out.1 hls.out.2.1 hls.out.2.2 ?_); intro A9 c9 w9 hr9 hg9 hat9; obtain ⟨hG9, hB9⟩ := grow_on hx.out hGx.out (Nat.le_refl _) (al0 _ _) hr9 hg9; have hG9' := Lib.hid hG9; have hB9' := Lib.hid hB9; clear hr9 hg9 hat9 hG9 hB9)
      go_roundw
      case rel => exact ⟨j + 1, k ++ [x], A9, c9, by omega, by rw [len_on], by go_num, hk2, hG9', hB9'⟩
      case measure => simp [intOf]; omega
      | false =>
      rw [hpx] at hcall
      have hk2 := Lib.hid (show k = (l.take (j + 1)).filter p by rw [hft.out, hpx, ← hk.out]; simp)
      clear hpx hft hk hkl hsm
      go_wp2
      go_region_held3 (fun w' => S2 pb (po + j * 6) pb (po + q * 6) x V w' ∧ Below wr.heap.size wr w')
        (first | with_reducible exact hS.out | with_reducible assumption | with_reducible exact ⟨S2.below (And.left (by assumption)) (by assumption), trans0 (And.right (by assumption)) (by assumption)⟩ | fail)
        (first
          | (go_at_call 56; ((with_reducible refine (hcall.out _).mono ?_); rintro e w' ⟨rfl, hB9⟩)) | fail)
      rename_i hHeld
      clear hS hcall c0 c1 c2 c3 c4 c5
      have hx := Lib.hid (trans0 hB.out hHeld.2)
      have hGx := Lib.hid (hG.out.below hHeld.2)
      clear hHeld
      go_wp2
      go_roundw
      case rel => exact ⟨j + 1, k, A', c', by omega, rfl, by go_num, hk2, hGx, hx⟩
      case measure => simp [intOf]; omega
    · obtain rfl : j = l.length := by omega
      rw [List.take_length, ← htr.out] at hk
      obtain rfl := hk.out
      have hfin := Lib.hid (show TV (l.length - k.length) k w (.returned (.tuple #[.slice A' k.length c', .int .i64 ((l.length - k.length : Nat) : Int)])) wr from ⟨A', c', rfl, hG.out.more hb.out, trans0 hBW.out hB.out⟩)
      have hkl : k.length ≤ l.length := htl.out
      rw [show (((l.length - k.length : Nat) : Int)) = (l.length : Int) - (k.length : Int) by omega] at hfin
      clear hk hG hB
      go_wp2
      go_ret2
      exact hfin.out
theorem trim_any (A : Option Addr) (c : Nat) (l : List Ver) (sn : Int) (w : World) (h : HV w A c l) :
    Calls Try.prog 35 #[.slice A l.length c, .int .u64 sn] w (TV (l.length - (trm l sn).length) (trm l sn) w) := by
  cases hq : atB l sn
  · exact trim_any_f A c l sn w h hq
  · exact trim_any_t A c l sn w h hq
theorem rtrim_any (A : Option Addr) (c : Nat) (l : List Ver) (sn : Int) (w : World) (h : HV w A c l) :
    Calls Try.prog 41 #[.slice A l.length c, .int .u64 sn] w (TV (l.length - (trm l sn).length) (trm l sn) w) := by
  cases hq : atB l sn
  · exact rtrim_any_f A c l sn w h hq
  · exact rtrim_any_t A c l sn w h hq
end Go.Proofs.Ytlojmojmijklmaa.chnG
