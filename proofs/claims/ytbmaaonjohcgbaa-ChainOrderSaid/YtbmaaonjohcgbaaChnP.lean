/- The contracts of Join, in the program and in the document's own answer. -/
import Derived.Test.YtbmaaonjohcgbaaChnOg
import Derived.Test.YtbmaaonjohcgbaaChnL
set_option linter.unusedVariables false
namespace Go.Proofs.Ytbmaaonjohcgbaa.chnP
open Go.ChangeShapes Go.WideShapes Go.ChangeAt Go.RowKit Go.Deep
open opV chnM gen chnA chnB chnR chnC chnD chnE chnF chnG chnI chnJ chnK chnL chnN chnO chnOg

theorem joi_3 {a b r : List Ver} {j : Nat} (h : joi a b j = some r) (he : putE r (nt b j) = 3) : joi a b (j + 1) = none := by
  show (match joi a b j with | none => none | some r => _) = none
  rw [h]; simp only; rw [if_pos he]
theorem joi_0 {a b r : List Ver} {j : Nat} (h : joi a b j = some r) (he : putE r (nt b j) = 0) : joi a b (j + 1) = some (put r (nt b j)) := by
  show (match joi a b j with | none => none | some r => _) = _
  rw [h]; simp only; rw [if_neg (by omega), if_pos he]
theorem joi_8 {a b r : List Ver} {j : Nat} (h : joi a b j = some r) (he : putE r (nt b j) = 8) : joi a b (j + 1) = some r := by
  show (match joi a b j with | none => none | some r => _) = _
  rw [h]; simp only; rw [if_neg (by omega), if_neg (by omega)]
theorem joi_bad {a b : List Ver} {j : Nat} (h : joi a b j = none) (hj : j ≤ b.length) : joiE a b = 3 ∧ joiL a b = [] := by
  have := joi_none h hj
  unfold joiE joiL; rw [this]; exact ⟨rfl, rfl⟩
theorem joi_good {a b r : List Ver} (h : joi a b b.length = some r) : joiE a b = 0 ∧ joiL a b = r := by
  unfold joiE joiL; rw [h]; exact ⟨rfl, rfl⟩
theorem put_ins (r : List Ver) (x : Ver) : put r x = insA r (putI r x) x := rfl
set_option maxRecDepth 100000 in
set_option maxHeartbeats 4000000 in
theorem join_any (A : Option Addr) (c : Nat) (a : List Ver) (B : Option Addr) (d : Nat) (b : List Ver) (w : World) (ha : HV w A c a) (hb : HV w B d b) (h9 : a.length + b.length ≤ 1000) :
    Calls Try.prog 21 #[.slice A a.length c, .slice B b.length d] w (TV (joiE a b) (joiL a b) w) := by
  have hcn : Hid (Calls Try.prog 27 #[.slice (some ⟨w.heap.size, 0, none⟩) 1 1] (w.alloc (.cells #[.slice A a.length c] 22)) fun e w' => ∃ A' c', e = .returned (.slice A' a.length c') ∧ GV w' w.heap.size A' c' a ∧ Below w.heap.size w w') := Lib.hid (by
    have hp := PR.new1 (w := w) ⟨A, c, a⟩ 22 ha
    have hct : cat [⟨A, c, a⟩] = a := by unfold cat; simp
    have h := concat_any w.heap.size 0 _ _ hp (by simp) (by rw [hct]; omega)
    rw [hct] at h
    refine h.mono ?_
    rintro e w' ⟨A', c', rfl, hG, hB⟩
    have hal := al0 w (.cells #[.slice A a.length c] 22)
    exact ⟨A', c', rfl, hG.more hal.size, trans0 hal hB⟩)
  obtain ⟨E, hE⟩ : ∃ E, joiE a b = E := ⟨_, rfl⟩
  obtain ⟨R, hR⟩ : ∃ R, joiL a b = R := ⟨_, rfl⟩
  rw [hE, hR]
  replace hE := Lib.hid hE
  replace hR := Lib.hid hR
  replace hb := Lib.hid hb
  clear ha
  go_enter Try.func21, Try.ntmps21
  go_wp2_with (fail)
  refine hcn.out.mono ?_
  rintro e W ⟨A0, c0, rfl, hG0, hB0⟩
  replace hG0 := Lib.hid hG0
  replace hB0 := Lib.hid hB0
  clear hcn
  go_wp2
  go_loopw [6, 16] (fun s i wr => ∃ (j : Nat) (r : List Ver) (A' : Option Addr) (c' : Nat), j ≤ b.length ∧ s = .slice A' r.length c' ∧ i = .int .i64 j ∧ Hid (joi a b j = some r) ∧ Hid (GV wr w.heap.size A' c' r) ∧ Hid (Below w.heap.size w wr)) (fun _ i _ => b.length - (intOf i).toNat)
  case atStart => exact ⟨0, a, A0, c0, by omega, rfl, rfl, Lib.hid rfl, hG0, hB0⟩
  case round =>
    clear hG0 hB0
    obtain ⟨j, r, A', c', hj, rfl, rfl, hk, hG, hB⟩ := hrel
    by_cases hlt : j < b.length
    · obtain ⟨pb, po, rfl, hpb, hc⟩ := (hb.out.below hB.out).at hlt
      have hjI : (j : Int) < (b.length : Int) := by omega
      have hrl : r.length ≤ a.length + j := joi_len hk.out
      have h3 := Lib.hid (fun he : putE r (nt b j) = 3 => joi_3 hk.out he)
      have h0 := Lib.hid (fun he : putE r (nt b j) = 0 => joi_0 hk.out he)
      have h8 := Lib.hid (fun he : putE r (nt b j) = 8 => joi_8 hk.out he)
      generalize nt b j = x at *
      have hal := al0 wr (.cells #[.string x.key, .string x.val, .bool x.gone, .int .u64 x.ts, .int .i64 x.dc, .int .i64 x.tx] 25)
      have hbx := V6.new wr x 25
      obtain ⟨W1, hW1⟩ : ∃ W1, wr.alloc (.cells #[.string x.key, .string x.val, .bool x.gone, .int .u64 x.ts, .int .i64 x.dc, .int .i64 x.tx] 25) = W1 := ⟨_, rfl⟩
      rw [hW1] at hal hbx
      have hG1 := hG.out.below hal
      have hpl := place_any A' c' r x W1 (hG1.hv (by omega))
      have hB1 := Lib.hid (trans0 hB.out hal)
      replace hG1 := Lib.hid hG1
      have hbxf := Lib.hid hbx
      rw [← hW1] at hbx
      obtain ⟨b0, b1, b2, b3, b4, b5⟩ := hbx
      obtain ⟨c0, c1, c2, c3, c4, c5⟩ := hc
      replace hW1 := Lib.hid hW1
      clear hal
      rcases putE_cases r x with he | he | he
      · rw [he, show plI r x = putI r x by unfold plI; rw [if_pos he]] at hpl
        have hk2 := Lib.hid (h0.out he)
        have hil := putI_le r x
        have hpi := Lib.hid (put_ins r x)
        replace hpl := Lib.hid hpl
        clear h3 h0 h8 he hk
        go_wp2_with (fail)
        rw [hW1.out]
        refine hpl.out.mono ?_
        rintro e w2 ⟨rfl, hB2⟩
        clear b0 b1 b2 b3 b4 b5 c0 c1 c2 c3 c4 c5 hpl
        obtain ⟨b0, b1, b2, b3, b4, b5⟩ := hbxf.out.below hB2
        have hG2 := Lib.hid (hG1.out.below hB2)
        have hB2' := Lib.hid (trans0 hB1.out hB2)
        have hin : Hid (Calls Try.prog 31 #[.slice A' r.length c', .int .i64 (putI r x : Nat), .slice (some ⟨w2.heap.size, 0, none⟩) 1 1] (w2.alloc (.cells #[.string x.key, .string x.val, .bool x.gone, .int .u64 x.ts, .int .i64 x.dc, .int .i64 x.tx] 25)) fun e w' => ∃ A9 c9, e = .returned (.slice A9 (put r x).length c9) ∧ GV w' w.heap.size A9 c9 (put r x) ∧ Below w.heap.size w w') := Lib.hid (by
          have hal2 := al0 w2 (.cells #[.string x.key, .string x.val, .bool x.gone, .int .u64 x.ts, .int .i64 x.dc, .int .i64 x.tx] 25)
          have hG3 := hG2.out.below hal2
          have hB3 := trans0 hB2'.out hal2
          have h := ins_any w.heap.size A' c' r (putI r x) x w2.heap.size _ hG3 hil (heap_alloc_new w2 _) (fun e => by have := (World.ownsRow.lt hG2.out _ e).2; omega) (by omega) hB3.size
          refine h.mono ?_
          rintro e w' ⟨A9, c9, rfl, hG9, hg9⟩
          refine ⟨A9, c9, by rw [hpi.out, ins_len hil], by rw [hpi.out]; exact hG9, hB3.grown hg9 hB3.size (fun k e => (World.ownsRow.lt hG3 k e).1)⟩)
        generalize put r x = r9 at *
        generalize putI r x = i9 at *
        clear hB2 hG1 hB1 hbxf hG2 hB2' hG hB hil hrl hpi
        go_wp2_with (fail)
        refine hin.out.mono ?_
        rintro e w9 ⟨A9, c9, rfl, hG9, hB9⟩
        replace hG9 := Lib.hid hG9
        replace hB9 := Lib.hid hB9
        clear hin b0 b1 b2 b3 b4 b5
        go_wp2
        go_roundw
        case rel => exact ⟨j + 1, r9, A9, c9, by omega, rfl, by go_num, hk2, hG9, hB9⟩
        case measure => simp [intOf]; omega
      · rw [he, show plI r x = 0 by unfold plI; rw [if_neg (by omega)]] at hpl
        have hk2 := Lib.hid (joi_bad (h3.out he) (by omega))
        obtain rfl : E = 3 := by rw [← hE.out]; exact hk2.out.1
        obtain rfl : R = [] := by rw [← hR.out]; exact hk2.out.2
        replace hpl := Lib.hid hpl
        clear h3 h0 h8 he hk hk2
        go_wp2_with (fail)
        rw [hW1.out]
        refine hpl.out.mono ?_
        rintro e w2 ⟨rfl, hB2⟩
        have hfin := Lib.hid (trans0 hB1.out hB2)
        clear b0 b1 b2 b3 b4 b5 c0 c1 c2 c3 c4 c5 hpl hB2
        go_wp2
        go_ret2
        exact ⟨none, 0, rfl, GV.nil_ _ _, hfin.out⟩
      · rw [he, show plI r x = 0 by unfold plI; rw [if_neg (by omega)]] at hpl
        have hk2 := Lib.hid (h8.out he)
        replace hpl := Lib.hid hpl
        clear h3 h0 h8 he hk
        go_wp2_with (fail)
        rw [hW1.out]
        refine hpl.out.mono ?_
        rintro e w2 ⟨rfl, hB2⟩
        have hG9 := Lib.hid (hG1.out.below hB2)
        have hB9 := Lib.hid (trans0 hB1.out hB2)
        clear b0 b1 b2 b3 b4 b5 c0 c1 c2 c3 c4 c5 hpl hB2 hG1 hB1 hbxf
        go_wp2
        go_roundw
        case rel => exact ⟨j + 1, r, A', c', by omega, rfl, by go_num, hk2, hG9, hB9⟩
        case measure => simp [intOf]; omega
    · obtain rfl : j = b.length := by omega
      have hk2 := joi_good hk.out
      obtain rfl : E = 0 := by rw [← hE.out]; exact hk2.1
      obtain rfl : R = r := by rw [← hR.out]; exact hk2.2
      have hfin := Lib.hid (show TV 0 R w (.returned (.tuple #[.slice A' R.length c', .int .i64 (0 : Nat)])) wr from ⟨A', c', rfl, hG.out, hB.out⟩)
      clear hk hG hB hk2
      go_wp2
      go_ret2
      exact hfin.out
/-- an empty row, made here -/
theorem emp_own (w : World) (base : Nat) (h : base ≤ w.heap.size) : (w.alloc (.cells #[] 25)).ownsRow base 25 6 (.slice (some ⟨w.heap.size, 0, none⟩) 0 0) 0 [] :=
  ⟨rfl, .inr ⟨w.heap.size, 0, #[], rfl, h, heap_alloc_new w _, by omega, by unfold maxLen; omega, rfl, rfl⟩⟩
/-- A copy of what came in is made out of an empty row. -/
theorem copied {w X w9 : World} {A9 : Option Addr} {c9 g : Nat} {a : List Ver} (hX : Below w.heap.size w X) (hgb : w.heap.size ≤ g) (ho : w9.ownsRow w.heap.size 25 6 (.slice A9 a.length c9) a.length (fl a)) (hg : X.grownBy w9 (Value.slice (some ⟨g, 0, none⟩) 0 0).ownBlock) :
    GV w9 w.heap.size A9 c9 a ∧ Below w.heap.size w w9 := ⟨ho, hX.grown hg hX.size (fun k e => by cases e; exact hgb)⟩
set_option maxRecDepth 100000 in
set_option maxHeartbeats 4000000 in
theorem rjoin_any (A : Option Addr) (c : Nat) (a : List Ver) (B : Option Addr) (d : Nat) (b : List Ver) (w : World) (ha : HV w A c a) (hb : HV w B d b) (h9 : a.length + b.length ≤ 1000) :
    Calls Try.prog 22 #[.slice A a.length c, .slice B b.length d] w (TV (joiE a b) (joiL a b) w) := by
  obtain ⟨iV, hiV, hzV0, hzV1, hzV2⟩ := info_parts infoV
  obtain ⟨E, hE⟩ : ∃ E, joiE a b = E := ⟨_, rfl⟩
  obtain ⟨R, hR⟩ : ∃ R, joiL a b = R := ⟨_, rfl⟩
  rw [hE, hR]
  have hal := al0 w (.cells #[] 25)
  have hst := Lib.hid (ha.below hal).stand
  have hone := Lib.hid (fl_all a)
  have hfl := Lib.hid (fl_len a)
  have hls : Hid (0 + a.length ≤ maxLen ∧ (0 + a.length) * 64 ≤ 140737488355328) := Lib.hid ⟨by unfold maxLen; omega, by omega⟩
  have hemp := Lib.hid (emp_own w w.heap.size (Nat.le_refl _))
  have hls2 := Lib.hid hal.size
  have hcop := Lib.hid (fun (A9 : Option Addr) (c9 : Nat) (w9 : World) (ho : w9.ownsRow w.heap.size 25 6 (.slice A9 a.length c9) a.length (fl a)) (hg : (w.alloc (.cells #[] 25)).grownBy w9 (Value.slice (some ⟨w.heap.size, 0, none⟩) 0 0).ownBlock) => copied hal (Nat.le_refl _) ho hg)
  replace hE := Lib.hid hE
  replace hR := Lib.hid hR
  replace hb := Lib.hid hb
  clear ha hal
  go_enter Try.func22, Try.ntmps22
  go_wp2_with (at_builtin; refine wpList_gen rfl (.tmp 10) (.tmp 11) 22 rfl w.heap.size 25 iV _ 6 64 Try.underlying22 hiV hzV0 hzV1 hzV2 rfl (by decide) _ 0 [] (by rfl) hemp.out A a.length c (fl a) (by rfl) hfl.out hst.out hone.out hls.out.1 hls.out.2 hls2.out ?_; intro A0 c0 W hr0 hg0 hat0; simp only [Nat.zero_add, List.nil_append] at hr0 ⊢; obtain ⟨hG0, hB0⟩ := hcop.out A0 c0 W hr0 hg0; have hG0 := Lib.hid hG0; have hB0 := Lib.hid hB0; clear hr0 hg0 hat0)
  go_loopw [6, 7] (fun s i wr => ∃ (j : Nat) (r : List Ver) (A' : Option Addr) (c' : Nat), j ≤ b.length ∧ s = .slice A' r.length c' ∧ i = .int .i64 j ∧ Hid (joi a b j = some r) ∧ Hid (GV wr w.heap.size A' c' r) ∧ Hid (Below w.heap.size w wr)) (fun _ i _ => b.length - (intOf i).toNat)
  case atStart => exact ⟨0, a, A0, c0, by omega, rfl, rfl, Lib.hid rfl, hG0, hB0⟩
  case round =>
    clear hG0 hB0 hst hone hfl hls hls2 hemp hcop
    obtain ⟨j, r, A', c', hj, rfl, rfl, hk, hG, hB⟩ := hrel
    by_cases hlt : j < b.length
    · obtain ⟨pb, po, rfl, hpb, hc⟩ := (hb.out.below hB.out).at hlt
      have hjI : (j : Int) < (b.length : Int) := by omega
      have hrl : r.length ≤ a.length + j := joi_len hk.out
      have h3 := Lib.hid (fun he : putE r (nt b j) = 3 => joi_3 hk.out he)
      have h0 := Lib.hid (fun he : putE r (nt b j) = 0 => joi_0 hk.out he)
      have h8 := Lib.hid (fun he : putE r (nt b j) = 8 => joi_8 hk.out he)
      generalize nt b j = x at *
      have hpu := rput_any A' c' r x wr (hG.out.hv (by omega)) (by omega)
      obtain ⟨c0, c1, c2, c3, c4, c5⟩ := hc
      rcases putE_cases r x with he | he | he
      · rw [he, show putL r x = put r x by unfold putL; rw [if_pos he]] at hpu
        have hk2 := Lib.hid (h0.out he)
        replace hpu := Lib.hid hpu
        clear h3 h0 h8 he hk
        generalize put r x = r9 at *
        go_wp2_with (fail)
        refine hpu.out.mono ?_
        rintro e w2 ⟨A9, c9, rfl, hG9, hB9⟩
        have hG9 := Lib.hid (hG9.more hB.out.size)
        have hB9 := Lib.hid (trans0 hB.out hB9)
        clear c0 c1 c2 c3 c4 c5 hpu hG hB
        go_wp2
        go_roundw
        case rel => exact ⟨j + 1, r9, A9, c9, by omega, rfl, by go_num, hk2, hG9, hB9⟩
        case measure => simp [intOf]; omega
      · rw [he, show putL r x = [] by unfold putL; rw [if_neg (by omega)]] at hpu
        have hk2 := Lib.hid (joi_bad (h3.out he) (by omega))
        obtain rfl : E = 3 := by rw [← hE.out]; exact hk2.out.1
        obtain rfl : R = [] := by rw [← hR.out]; exact hk2.out.2
        replace hpu := Lib.hid hpu
        clear h3 h0 h8 he hk hk2
        go_wp2_with (fail)
        refine hpu.out.mono ?_
        rintro e w2 ⟨A9, c9, rfl, hG9, hB9⟩
        have hfin := Lib.hid (trans0 hB.out hB9)
        clear c0 c1 c2 c3 c4 c5 hpu hG hB hG9 hB9
        go_wp2
        go_ret2
        exact ⟨none, 0, rfl, GV.nil_ _ _, hfin.out⟩
      · rw [he, show putL r x = [] by unfold putL; rw [if_neg (by omega)]] at hpu
        have hk2 := Lib.hid (h8.out he)
        replace hpu := Lib.hid hpu
        clear h3 h0 h8 he hk
        go_wp2_with (fail)
        refine hpu.out.mono ?_
        rintro e w2 ⟨A9, c9, rfl, -, hB9⟩
        have hG9 := Lib.hid (hG.out.below hB9)
        have hB9 := Lib.hid (trans0 hB.out hB9)
        clear c0 c1 c2 c3 c4 c5 hpu hG hB
        go_wp2
        go_roundw
        case rel => exact ⟨j + 1, r, A', c', by omega, rfl, by go_num, hk2, hG9, hB9⟩
        case measure => simp [intOf]; omega
    · obtain rfl : j = b.length := by omega
      have hk2 := joi_good hk.out
      obtain rfl : E = 0 := by rw [← hE.out]; exact hk2.1
      obtain rfl : R = r := by rw [← hR.out]; exact hk2.2
      have hfin := Lib.hid (show TV 0 R w (.returned (.tuple #[.slice A' R.length c', .int .i64 (0 : Nat)])) wr from ⟨A', c', rfl, hG.out, hB.out⟩)
      clear hk hG hB hk2
      go_wp2
      go_ret2
      exact hfin.out
end Go.Proofs.Ytbmaaonjohcgbaa.chnP
