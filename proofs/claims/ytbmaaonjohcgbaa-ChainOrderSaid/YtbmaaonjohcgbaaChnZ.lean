/- The statement ChainOrder. -/
import Derived.Test.YtbmaaonjohcgbaaChnS
import Derived.Test.YtbmaaonjohcgbaaChnZm
import Derived.Test.YtbmaaonjohcgbaaOpS
import Derived.Laws.Bits64
import Derived.Deep.RegionLaw
set_option linter.unusedVariables false
namespace Go.Proofs.Ytbmaaonjohcgbaa.chnZ
open Go.ChangeShapes Go.WideShapes Go.ChangeAt Go.RowKit Go.Deep
open opV opG opS chnM gen chnA chnB chnR chnC chnD chnE chnF chnG chnI chnJ chnK chnL chnN chnO chnOg chnP chnT chnS chnZm

theorem set_six {xs : List Value} {a : Nat} (v0 v1 v2 v3 v4 v5 : Value) (h : a + 6 ≤ xs.length) : ((((((xs.set a v0).set (a + 1) v1).set (a + 2) v2).set (a + 3) v3).set (a + 4) v4).set (a + 5) v5) = xs.take a ++ ([v0, v1, v2, v3, v4, v5] ++ xs.drop (a + 6)) := by
  apply List.ext_getElem
  · simp; omega
  · intro i h1 h2
    simp only [List.length_set] at h1
    simp only [List.getElem_set]
    rcases Nat.lt_or_ge i a with h3 | h3
    · rw [if_neg (by omega), if_neg (by omega), if_neg (by omega), if_neg (by omega), if_neg (by omega), if_neg (by omega), List.getElem_append_left (by simp; omega), List.getElem_take]
    · rw [List.getElem_append_right (by simp; omega)]
      have hl : (xs.take a).length = a := by simp; omega
      simp only [hl]
      rcases Nat.lt_or_ge i (a + 6) with h4 | h4
      · have : i = a ∨ i = a + 1 ∨ i = a + 2 ∨ i = a + 3 ∨ i = a + 4 ∨ i = a + 5 := by omega
        rcases this with rfl | rfl | rfl | rfl | rfl | rfl <;> simp
      · rw [if_neg (by omega), if_neg (by omega), if_neg (by omega), if_neg (by omega), if_neg (by omega), if_neg (by omega), List.getElem_append_right (by simp; omega), List.getElem_drop]
        congr 1
        simp; omega
theorem fl_set {m : List Ver} {i : Nat} {v : Ver} (hi : i < m.length) :
    (((((((fl m).set (i * 6) (.string v.key)).set (i * 6 + 1) (.string v.val)).set (i * 6 + 2) (.bool v.gone)).set (i * 6 + 3) (.int .u64 v.ts)).set (i * 6 + 4) (.int .i64 v.dc)).set (i * 6 + 5) (.int .i64 v.tx)) = fl (m.set i v) := by
  rw [set_six _ _ _ _ _ _ (by rw [fl_len]; omega), List.set_eq_take_append_cons_drop, if_pos hi, fl_app, fl_cons, fl_take, fl_drop]
  rw [show (i + 1) * 6 = i * 6 + 6 by omega]
  rfl
/-- a version is laid at place i of a row of the call's own -/
abbrev putAt (w : World) (g o : Nat) (v : Ver) : World := (((((w.setCell ⟨g, o, none⟩ (.string v.key)).setCell ⟨g, o + 1, none⟩ (.string v.val)).setCell ⟨g, o + 2, none⟩ (.bool v.gone)).setCell ⟨g, o + 3, none⟩ (.int .u64 v.ts)).setCell ⟨g, o + 4, none⟩ (.int .i64 v.dc)).setCell ⟨g, o + 5, none⟩ (.int .i64 v.tx)
/-- the row in another order -/
structure Ow (W : World) (L : List Ver) (A : Option Addr) (c : Nat) (m : List Ver) (X : World) : Prop where
  pm : Pm L m
  own : X.ownsRow W.heap.size 25 6 (.slice A L.length c) L.length (fl m)
  bel : Below W.heap.size W X
section
variable {W X X1 : World} {L m : List Ver} {A : Option Addr} {g c i k : Nat} {v : Ver}
theorem Ow.lt (h : Ow W L (some ⟨g, 0, none⟩) c m X) : W.heap.size ≤ g ∧ g < X.heap.size := World.ownsRow.lt h.own g rfl
theorem Ow.below (h : Ow W L A c m X) (hB : Below X.heap.size X X1) : Ow W L A c m X1 := ⟨h.pm, own_block h.own fun k e => hB.block k (World.ownsRow.lt h.own k e).2, trans0 h.bel hB⟩
theorem Ow.drew (h : Ow W L A c m X) : Ow W L A c m X.drew := ⟨h.pm, h.own, h.bel.drew⟩
theorem Ow.gv (h : Ow W L A c m X) : GV X W.heap.size A c m := by
  unfold GV; rw [h.pm.len]; exact h.own
theorem Ow.some_ (h : Ow W L A c m X) (hl : 0 < L.length) : ∃ g, A = some ⟨g, 0, none⟩ := by
  rcases h.own.2 with ⟨e, h0⟩ | ⟨g, _, _, e, _⟩
  · omega
  · simp only [Value.slice.injEq] at e
    exact ⟨g, e.1⟩
theorem Ow.v6 (h : Ow W L (some ⟨g, 0, none⟩) c m X) (hi : i < L.length) (hs : L.length ≤ 1000) : V6 g (i * 6) (nt m i) X := by
  have hv := h.gv.hv (by rw [h.pm.len]; omega)
  obtain ⟨b, off, e, _, hc⟩ := hv.at (i := i) (by rw [h.pm.len]; exact hi)
  simp only [Option.some.injEq, Addr.mk.injEq, and_true] at e
  obtain ⟨rfl, rfl⟩ := e
  rw [Nat.zero_add] at hc
  exact hc
theorem Ow.fz (h : Ow W L (some ⟨g, 0, none⟩) c m X) (o : Nat) : X.frozen? ⟨g, o, none⟩ = false := World.ownsRow.frozenAt h.own o
theorem stored6 {n base : Nat} {xs : List Value} (h : X.ownsRow base 25 6 (.slice (some ⟨g, 0, none⟩) n c) n xs) (o : Nat) (v : Ver) :
    (putAt X g o v).ownsRow base 25 6 (.slice (some ⟨g, 0, none⟩) n c) n ((((((xs.set o (.string v.key)).set (o + 1) (.string v.val)).set (o + 2) (.bool v.gone)).set (o + 3) (.int .u64 v.ts)).set (o + 4) (.int .i64 v.dc)).set (o + 5) (.int .i64 v.tx)) :=
  ((((((h.stored o _).1.stored (o + 1) _).1.stored (o + 2) _).1.stored (o + 3) _).1.stored (o + 4) _).1.stored (o + 5) _).1
theorem putAt_below {B : Nat} {w0 w : World} (h : Below B w0 w) (hg : B ≤ g) (o : Nat) (v : Ver) : Below B w0 (putAt w g o v) :=
  (((((h.setCell (p := ⟨g, o, none⟩) hg _).setCell (p := ⟨g, o + 1, none⟩) hg _).setCell (p := ⟨g, o + 2, none⟩) hg _).setCell (p := ⟨g, o + 3, none⟩) hg _).setCell (p := ⟨g, o + 4, none⟩) hg _).setCell (p := ⟨g, o + 5, none⟩) hg _
theorem Ow.swap (h : Ow W L (some ⟨g, 0, none⟩) c m X) (hi : i < L.length) (hk : k < L.length) : Ow W L (some ⟨g, 0, none⟩) c (sws m i k) (putAt (putAt X g (i * 6) (nt m k)) g (k * 6) (nt m i)) := by
  have hl := h.pm.len
  refine ⟨h.pm.swap (by omega) (by omega), ?_, putAt_below (putAt_below h.bel h.lt.1 _ _) h.lt.1 _ _⟩
  have h1 := stored6 h.own (i * 6) (nt m k)
  rw [fl_set (by omega)] at h1
  have h2 := stored6 h1 (k * 6) (nt m i)
  rw [fl_set (by simp; omega)] at h2
  exact h2
end
theorem pick (s : Int) (n : Nat) (h0 : 0 < n) (h4 : n ≤ 40) : ∃ i : Nat, i < n ∧ wrap64 ((IntKind.u64.wrap s).tmod (n : Int)) = (i : Int) := by
  have h1 : 0 ≤ IntKind.u64.wrap s := by rw [IntKind.wrap_u64]; omega
  have h2 := Int.emod_lt_of_pos (IntKind.u64.wrap s) (show (0 : Int) < (n : Int) by omega)
  have h3 := Int.emod_nonneg (IntKind.u64.wrap s) (show (n : Int) ≠ 0 by omega)
  rw [Int.tmod_eq_emod_of_nonneg h1]
  generalize IntKind.u64.wrap s % (n : Int) = q at *
  refine ⟨q.toNat, by omega, ?_⟩
  unfold wrap64
  omega
set_option maxRecDepth 100000 in
set_option maxHeartbeats 8000000 in
theorem order_ (A : Option Addr) (c : Nat) (l0 : List Ver) (D : Option Addr) (len cap : Nat) (zs : List Sw) (w : World) (h : HV w A c l0) (hz : Rs w QSw 2 D len zs) :
    Calls Try.prog 7 #[.slice A l0.length c, .slice D len cap] w fun e w' => e = .returned (.bool true) ∧ Below w.heap.size w w' := by
  obtain ⟨iV, hiV, hzV0, hzV1, hzV2⟩ := info_parts infoV
  have hof := Lib.hid (lof_any A c l0 w h)
  have hc := ofL_chain l0
  have hl := ofL_len l0
  have hlen9 := hz.2.1
  have hcell := Lib.hid (fun (j : Nat) (hj : j < len) => (show ∃ b off, D = some ⟨b, off, none⟩ ∧ b < w.heap.size ∧ QSw w b (off + j * 2) (zs.getD j default) by
    rcases hz.2.2 with h0 | ⟨b, off, e, h3, h4⟩
    · omega
    · exact ⟨b, off, e, h3, h4 j hj⟩))
  clear h hz
  generalize ofL l0 = L at *
  have hm0 : Hid (L.length * 64 ≤ 140737488355328) := Lib.hid (by omega)
  have hpm := Lib.hid (Pm.self hc)
  have hend := Lib.hid (fun m r (hP : Pm L m) (hr : Pr m m.length r) => Pr.end_ hc hP hr)
  have hclt := Lib.hid (fun k (hk : k + 1 < L.length) => chain_lt hc (Nat.lt_succ_self k) hk)
  have hfl := Lib.hid (fl_len L)
  have hone := Lib.hid (fl_all L)
  have hls : Hid (0 + L.length ≤ maxLen ∧ (0 + L.length) * 64 ≤ 140737488355328) := Lib.hid ⟨by unfold maxLen; omega, by omega⟩
  clear hc
  go_enter Try.func7, Try.ntmps7
  go_wp2_with (fail)
  with_reducible refine hof.out.mono ?_
  rintro e W ⟨A1, c1, rfl, hG1, hB1⟩
  have hv1 := Lib.hid (hG1.hv hm0.out)
  replace hB1 := Lib.hid hB1
  clear hG1 hof
  have hal := al0 W (.cells #[] 25)
  have hst := Lib.hid (hv1.out.below hal).stand
  have hemp := Lib.hid (emp_own W W.heap.size (Nat.le_refl _))
  have hls2 := Lib.hid hal.size
  have hcop := Lib.hid (fun (A9 : Option Addr) (c9 : Nat) (w9 : World) (ho : w9.ownsRow W.heap.size 25 6 (.slice A9 L.length c9) L.length (fl L)) (hg : (W.alloc (.cells #[] 25)).grownBy w9 (Value.slice (some ⟨W.heap.size, 0, none⟩) 0 0).ownBlock) => copied hal (Nat.le_refl _) ho hg)
  clear hal
  go_wp2_with (at_builtin; refine wpList_gen rfl (.tmp 18) (.tmp 19) 22 rfl W.heap.size 25 iV _ 6 64 Try.underlying22 hiV hzV0 hzV1 hzV2 rfl (by decide) _ 0 [] (by rfl) hemp.out A1 L.length c1 (fl L) (by rfl) hfl.out hst.out hone.out hls.out.1 hls.out.2 hls2.out ?_; intro A3 c3 w3 hr3 hg3 hat3; simp only [Nat.zero_add, List.nil_append] at hr3 ⊢; obtain ⟨hG3, hB3⟩ := hcop.out A3 c3 w3 hr3 hg3; have hG3 := Lib.hid hG3; have hB3 := Lib.hid hB3; clear hr3 hg3 hat3)
  clear hst hemp hls2 hcop hls hone hfl hiV hzV0 hzV1 hzV2
  have hO := Lib.hid (show ∃ m, Ow W L A3 c3 m w3 from ⟨L, hpm.out, hG3.out, hB3.out⟩)
  clear hG3 hB3 hpm
  go_loopw [23] (fun i wr => ∃ j : Nat, j ≤ len ∧ i = .int .i64 j ∧ Hid (∃ m, Ow W L A3 c3 m wr)) (fun i _ => len - (intOf i).toNat)
  case atStart => exact ⟨0, by omega, rfl, hO⟩
  case round =>
    clear hO
    obtain ⟨j, hj, rfl, hO⟩ := hrel
    by_cases hlt : j < len
    · obtain ⟨m, hO⟩ := hO.out
      obtain ⟨pb, po, rfl, hpb, hs0, hs1⟩ := hcell.out j hlt
      have hjI : (j : Int) < (len : Int) := by omega
      have hs0 := keep_cell (trans0 hB1.out hO.bel) hs0
      have hs1 := keep_cell (trans0 hB1.out hO.bel) hs1
      generalize zs.getD j default = s at *
      obtain ⟨sa, sb⟩ := s
      simp only at hs0 hs1
      have hal := al0 wr (.cells #[.int .i64 sa, .int .i64 sb] 41)
      have e0 := cell_of_row _ _ 0 #[.int .i64 sa, .int .i64 sb] 41 (0, 0) (heap_alloc_new wr (.cells #[.int .i64 sa, .int .i64 sb] 41))
      have e1 := cell_of_row _ _ 1 #[.int .i64 sa, .int .i64 sb] 41 (0, 0) (heap_alloc_new wr (.cells #[.int .i64 sa, .int .i64 sb] 41))
      have hO1 := Lib.hid (hO.below hal)
      clear hO hal
      by_cases hne : 0 < L.length
      · obtain ⟨g, rfl⟩ := hO1.out.some_ hne
        have hlI : (0 : Int) < (L.length : Int) := by omega
        go_wp2
        go_quiet (fail)
        go_wp2
        have hO2 := Lib.hid (hO1.out.below (bdrN nq (Below.refl _ _)))
        obtain ⟨i, hi, ei⟩ := pick sa L.length hne hl
        obtain ⟨k, hk, ek⟩ := pick sb L.length hne hl
        rw [ei, ek]
        clear ei ek hO1 e0 e1 hs0 hs1
        generalize (wr.alloc (.cells #[.int .i64 sa, .int .i64 sb] 41)).drewN nq = wb at *
        have hiI : (i : Int) < (L.length : Int) := by omega
        have hkI : (k : Int) < (L.length : Int) := by omega
        have hL9 : L.length ≤ 1000 := by omega
        obtain ⟨c0, c1', c2, c3', c4, c5⟩ := hO2.out.v6 hi hL9
        obtain ⟨d0, d1, d2, d3, d4, d5⟩ := hO2.out.v6 hk hL9
        have hfz := hO2.out.fz
        have hst := Lib.hid (show Ow W L (some ⟨g, 0, none⟩) c3 (sws m i k) (putAt (putAt wb g (i * 6) (nt m k)) g (k * 6) (nt m i)) ∧ Ow W L (some ⟨g, 0, none⟩) c3 (sws m i k) (putAt (putAt wb.drew g (i * 6) (nt m k)) g (k * 6) (nt m i)) from ⟨hO2.out.swap hi hk, hO2.out.drew.swap hi hk⟩)
        clear hO2
        by_cases hik : i = k
        · subst hik
          generalize sws m i i = m9 at *
          generalize nt m i = x at *
          clear d0 d1 d2 d3 d4 d5
          go_region
          all_goals
            go_wp2
            go_roundw
            case rel => exact ⟨j + 1, by omega, by go_num, Lib.hid ⟨m9, by with_reducible exact hst.out.1.drew⟩⟩
            case measure => simp [intOf]; omega
        · have hki : ¬ k = i := fun e => hik e.symm
          have hda1 : ¬ i * 6 + 1 = k * 6 := by omega
          have hdb1 : ¬ i * 6 = k * 6 + 1 := by omega
          have hdc1 : ¬ k * 6 + 1 = i * 6 := by omega
          have hdd1 : ¬ k * 6 = i * 6 + 1 := by omega
          have hda2 : ¬ i * 6 + 2 = k * 6 := by omega
          have hdb2 : ¬ i * 6 = k * 6 + 2 := by omega
          have hdc2 : ¬ k * 6 + 2 = i * 6 := by omega
          have hdd2 : ¬ k * 6 = i * 6 + 2 := by omega
          have hda3 : ¬ i * 6 + 3 = k * 6 := by omega
          have hdb3 : ¬ i * 6 = k * 6 + 3 := by omega
          have hdc3 : ¬ k * 6 + 3 = i * 6 := by omega
          have hdd3 : ¬ k * 6 = i * 6 + 3 := by omega
          have hda4 : ¬ i * 6 + 4 = k * 6 := by omega
          have hdb4 : ¬ i * 6 = k * 6 + 4 := by omega
          have hdc4 : ¬ k * 6 + 4 = i * 6 := by omega
          have hdd4 : ¬ k * 6 = i * 6 + 4 := by omega
          have hda5 : ¬ i * 6 + 5 = k * 6 := by omega
          have hdb5 : ¬ i * 6 = k * 6 + 5 := by omega
          have hdc5 : ¬ k * 6 + 5 = i * 6 := by omega
          have hdd5 : ¬ k * 6 = i * 6 + 5 := by omega
          generalize sws m i k = m9 at *
          generalize nt m i = x at *
          generalize nt m k = y at *
          go_region
          all_goals
            go_wp2
            go_roundw
            case rel => exact ⟨j + 1, by omega, by go_num, Lib.hid ⟨m9, by with_reducible exact hst.out.1.drew⟩⟩
            case measure => simp [intOf]; omega
      · have hlI : ¬ (0 : Int) < (L.length : Int) := by omega
        go_wp2
        go_roundw
        case rel => exact ⟨j + 1, by omega, by go_num, Lib.hid ⟨m, hO1.out⟩⟩
        case measure => simp [intOf]; omega
    · obtain rfl : j = len := by omega
      obtain ⟨m, hO⟩ := hO.out
      have hml := hO.pm.len
      have hvm := Lib.hid (hO.gv.hv (by rw [hml]; exact hm0.out))
      have hv1 := Lib.hid (hv1.out.below hO.bel)
      have hBw := Lib.hid (trans0 hB1.out hO.bel)
      have hzero := Lib.hid (fun j r (hr : Pr m j r) (hj : j < m.length) => hr.zero hO.pm hj)
      have hstep := Lib.hid (fun j r (hr : Pr m j r) (hj : j < m.length) => hr.step hO.pm hj)
      have hfe := Lib.hid (fun r (hr : Pr m L.length r) => hend.out m r hO.pm (by rw [hml]; exact hr))
      replace hml := Lib.hid hml
      clear hO hend hcell
      go_wp2
      obtain ⟨wm, hwm⟩ : ∃ wm : World, wm = wr := ⟨_, rfl⟩
      subst hwm
      go_loopw [10, 63] (fun s i wr => ∃ (j : Nat) (r : List Ver) (A' : Option Addr) (c' : Nat), j ≤ L.length ∧ s = .slice A' r.length c' ∧ i = .int .i64 j ∧ Hid (Pr m j r) ∧ Hid (GV wr wm.heap.size A' c' r) ∧ Hid (Below wm.heap.size wm wr)) (fun _ i _ => L.length - (intOf i).toNat)
      case atStart => exact ⟨0, [], none, 0, by omega, rfl, rfl, Lib.hid (Pr.nil_ m), Lib.hid (GV.nil_ _ _), Lib.hid (Below.refl _ _)⟩
      case round =>
        obtain ⟨j, r, A', c', hj, rfl, rfl, hr, hG, hB⟩ := hrel
        by_cases hlt : j < L.length
        · obtain ⟨pb, po, rfl, hpb, hcx⟩ := (hvm.out.below hB.out).at (i := j) (by rw [hml.out]; exact hlt)
          have hjI : (j : Int) < (L.length : Int) := by omega
          have hrl := hr.out.le
          have hz := hzero.out j r hr.out (by rw [hml.out]; exact hlt)
          have hs2 := Lib.hid (hstep.out j r hr.out (by rw [hml.out]; exact hlt))
          generalize nt m j = x at *
          have hal := al0 wr (.cells #[.string x.key, .string x.val, .bool x.gone, .int .u64 x.ts, .int .i64 x.dc, .int .i64 x.tx] 25)
          have hbx := V6.new wr x 25
          obtain ⟨W1, hW1⟩ : ∃ W1, wr.alloc (.cells #[.string x.key, .string x.val, .bool x.gone, .int .u64 x.ts, .int .i64 x.dc, .int .i64 x.tx] 25) = W1 := ⟨_, rfl⟩
          rw [hW1] at hal
          have hB1' := Lib.hid (trans0 hB.out hal)
          have hpu := put_any A' c' r x W1 ((hG.out.below hal).hv (by omega)) (by omega)
          rw [hz, show putL r x = put r x by unfold putL; rw [if_pos hz]] at hpu
          replace hpu := Lib.hid hpu
          replace hW1 := Lib.hid hW1
          obtain ⟨b0, b1, b2, b3, b4, b5⟩ := hbx
          obtain ⟨c0, c1', c2, c3', c4, c5⟩ := hcx
          clear hz hal hG hr
          generalize put r x = r9 at *
          go_wp2_with (fail)
          rw [hW1.out]
          with_reducible refine hpu.out.mono ?_
          rintro e w9 ⟨A9, c9, rfl, hG9, hB9⟩
          have hG9 := Lib.hid (hG9.more hB1'.out.size)
          have hB9 := Lib.hid (trans0 hB1'.out hB9)
          clear b0 b1 b2 b3 b4 b5 c0 c1' c2 c3' c4 c5 hpu hB1' hB
          go_wp2
          go_roundw
          case rel => exact ⟨j + 1, r9, A9, c9, by omega, rfl, by go_num, hs2, hG9, hB9⟩
          case measure => simp [intOf]; omega
        · obtain rfl : j = L.length := by omega
          have hrL : r = L := hfe.out r hr.out
          subst hrL
          obtain ⟨L, hLr⟩ : ∃ L, L = r := ⟨_, rfl⟩
          subst hLr
          have hva := Lib.hid (hG.out.hv hm0.out)
          have hv1 := Lib.hid (hv1.out.below hB.out)
          have hBw := Lib.hid (trans0 hBw.out hB.out)
          clear hr hG hB hzero hstep hfe hvm
          clear hml
          go_wp2
          obtain ⟨wz, hwz⟩ : ∃ wz : World, wz = wr := ⟨_, rfl⟩
          subst hwz
          go_loopw [15] (fun i wr => ∃ q : Nat, 1 ≤ q ∧ q ≤ L.length + 1 ∧ i = .int .i64 q ∧ Hid (Below wz.heap.size wz wr)) (fun i _ => L.length + 1 - (intOf i).toNat)
          case atStart => exact ⟨1, by omega, by omega, rfl, Lib.hid (Below.refl _ _)⟩
          case round =>
            obtain ⟨q, hq1, hq, rfl, hB⟩ := hrel
            by_cases hlt : q < L.length
            · obtain ⟨k, hkq⟩ : ∃ k : Nat, q = k + 1 := ⟨q - 1, by omega⟩
              obtain ⟨pb, po, rfl, hpb, hc0⟩ := (hva.out.below hB.out).at (i := k) (by omega)
              obtain ⟨pb2, po2, ea, -, hc1⟩ := (hva.out.below hB.out).at hlt
              simp only [Option.some.injEq, Addr.mk.injEq, and_true] at ea
              obtain ⟨rfl, rfl⟩ := ea
              have hkI : (q : Int) < (L.length : Int) := by omega
              have hkJ : (k : Int) < (L.length : Int) := by omega
              have g0 : (0 : Int) ≤ (q : Int) - 1 := by omega
              have g1 : (q : Int) - 1 < (L.length : Int) := by omega
              have g2 : ((q : Int) - 1).toNat = q - 1 := by omega
              have g3 : (1 : Int) ≤ (q : Int) := by omega
              have g4 : (0 : Int) < (q : Int) := by omega
              have g5 : (q : Int) < (L.length : Int) + 1 := by omega
              have g6 : (q : Int) ≤ (L.length : Int) := by omega
              have g7 : 0 < q := by omega
              obtain rfl : k = q - 1 := by omega
              have hw : IntKind.i64.wrap ((q : Int) - 1) = (q : Int) - 1 := wrap_in _ (by omega) (by omega)
              have hlt2 := hclt.out (q - 1) (by omega)
              rw [Nat.succ_eq_add_one, show q - 1 + 1 = q by omega] at hlt2
              clear hkq hkJ
              generalize nt L (q - 1) = x at *
              generalize nt L q = y at *
              have hlc := Lib.hid (less_any (x.ts, x.dc, x.tx) (y.ts, y.dc, y.tx))
              rw [show isAhead (x.ts, x.dc, x.tx) (y.ts, y.dc, y.tx) = true from hlt2] at hlc
              have hS : Hid (S2 pb (po + (q - 1) * 6) pb (po + q * 6) x y wr.drew ∧ Below wr.heap.size wr wr.drew) := Lib.hid ⟨⟨hc0, hc1⟩, below_drew _⟩
              clear hlt2
              obtain ⟨c0, c1', c2, c3', c4, c5⟩ := hc0
              obtain ⟨d0, d1, d2, d3, d4, d5⟩ := hc1
              go_wp2
              go_region_held3 (fun w' => S2 pb (po + (q - 1) * 6) pb (po + q * 6) x y w' ∧ Below wr.heap.size wr w')
                (first | with_reducible exact hS.out | with_reducible assumption | with_reducible exact ⟨S2.below (And.left (by assumption)) (by assumption), trans0 (And.right (by assumption)) (by assumption)⟩ | fail)
                (first
                  | (go_at_call 25; ((with_reducible refine (rof_any _ _).mono ?_); rintro e w' ⟨rfl, hB9⟩))
                  | (go_at_call 24; ((with_reducible refine (hlc.out _).mono ?_); rintro e w' ⟨rfl, hB9⟩)) | fail)
              all_goals
                rename_i hHeld
                have hB' := Lib.hid (trans0 hB.out hHeld.2)
                clear hB hHeld hlc hS c0 c1' c2 c3' c4 c5 d0 d1 d2 d3 d4 d5
                go_wp2
                go_roundw
                case rel => exact ⟨q + 1, by omega, by omega, by go_num, hB'⟩
                case measure => simp [intOf]; omega
            · have hkI : ¬ (q : Int) < (L.length : Int) := by omega
              have hva := hva.out.below hB.out
              have hv1 := hv1.out.below hB.out
              have hBw := Lib.hid (trans0 hBw.out hB.out)
              have hsv := Lib.hid (fun X (hX : Below wr.heap.size wr X) => samevers A' c' L A1 c1 L X (hva.below hX) (hv1.below hX))
              simp only [decide_true] at hsv
              clear hva hv1 hB
              go_wp2_with (fail)
              with_reducible refine (awake_any wr).mono ?_
              rintro e w8 ⟨rfl, hB8⟩
              have hs8 := Lib.hid (hsv.out w8 hB8)
              have hB8' := Lib.hid (trans0 hBw.out hB8)
              clear hB8 hsv
              go_wp2_with (fail)
              with_reducible refine hs8.out.mono ?_
              rintro e w9 ⟨rfl, hB9⟩
              have hfin := Lib.hid (trans0 hB8'.out hB9)
              clear hB9
              go_wp2
              go_ret
              exact ⟨rfl, hfin.out⟩
theorem order (A : Option Addr) (c : Nat) (l0 : List Ver) (D : Option Addr) (len cap : Nat) (zs : List Sw) (w : World) (h : HV w A c l0) (hz : Rs w QSw 2 D len zs) :
    Calls Try.prog 7 #[.slice A l0.length c, .slice D len cap] w fun e w' => e = .returned (.bool true) ∧ Below w.heap.size w w' := order_ A c l0 D len cap zs w h hz
end Go.Proofs.Ytbmaaonjohcgbaa.chnZ
