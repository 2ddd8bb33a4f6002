/- StorePlays (on the way). -/
import Derived.Test.YtlojmojmijklmaaStoPn
import Derived.Deep.DeepCutAuto
import Derived.Deep.CutBlock
import Derived.Deep.CutRange
set_option linter.unusedVariables false
set_option maxRecDepth 100000
namespace Go.Proofs.Ytlojmojmijklmaa.stoPm
open Go.ChangeShapes Go.WideShapes Go.ChangeAt Go.RowKit Go.Deep
open opV opG opP chnM gen chnA chnB chnR chnE chnF chnG chnK chnT stoM stoA stoB stoC stoP stoPr stoG stoJ stoW stoLo stoTw stoT stoU stoMv stoD stoRa stoRb stoRc stoRd stoRe stoRf stoRg stoRh stoPl stoPn

abbrev SW (w : World) (S b M : Nat) (s : St) (X : World) : Prop := X.cell? ⟨M, 1, none⟩ = some (.int .u64 s.fl) ∧ Tw w S b M s s X
theorem SW.mk {w X : World} {S b M : Nat} {s : St} (h : Tw w S b M s s X) : SW w S b M s X := ⟨by obtain ⟨A, c, R, hI⟩ := h.d; exact hI.cells.2, h⟩
theorem SW.fo {w X X1 : World} {S b M : Nat} {s : St} (hB : Below X.heap.size X X1) (h : SW w S b M s X) : SW w S b M s X1 := SW.mk (h.2.below hB)
theorem al_ln (ch : List Ch) : (al ch { data := #[] } { data := #[] }).length = ln ch := by
  have e : sp ch emp emp = ch := by unfold sp; rw [List.filter_eq_self]; intro c _; exact wth_all c.key
  show (cc (sp ch emp emp)).length = _
  rw [e, cc_len]
set_option maxHeartbeats 8000000 in
theorem plays_any (A : Option Addr) (n c : Nat) (ops : List opP.Op) (w : World) (h : Rs w QOp 5 A n ops) :
    Calls Try.prog 3 #[.slice A n c] w fun e w' => e = .returned (.bool true) ∧ Below w.heap.size w w' := by
  have hn := new_any w
  have hn9 := h.2.1
  have hcell := Lib.hid (fun (j : Nat) (hj : j < n) => (show ∃ b off, A = some ⟨b, off, none⟩ ∧ b < w.heap.size ∧ QOp w b (off + j * 5) (ops.getD j default) by
    rcases h.2.2 with h0 | ⟨b, off, e, h3, h4⟩
    · omega
    · exact ⟨b, off, e, h3, h4 j hj⟩))
  clear h
  go_enter Try.func3, Try.ntmps3
  go_wp2_with (fail)
  with_reducible refine hn.mono ?_
  rintro e w1 ⟨S, b, rfl, hN1, hS, hS', hb, hb', hm⟩
  have hT := Lib.hid (tw_new hN1 hS hS' hb hb' (hm _ (.inl rfl) (.inr rfl) (fun k e => by rcases e with e | e <;> omega)))
  obtain ⟨M, hM⟩ : ∃ M, w1.heap.size = M := ⟨_, rfl⟩
  rw [hM] at hT
  replace hM := Lib.hid hM
  clear hn hN1 hS hS' hb hb' hm
  go_wp2
  rw [hM.out]
  go_loopw [5] (fun i wr => ∃ (k : Nat) (s : St), k ≤ n ∧ k ≤ 60 ∧ i = .int .i64 k ∧ Hid (Tw w S b M s s wr) ∧ Hid (Inv s ∧ ln s.ch ≤ 20 * k)) (fun i _ => n - (intOf i).toNat)
  case atStart => exact ⟨0, St.new, by omega, by omega, rfl, hT, Lib.hid ⟨Inv.new, Nat.le_refl _⟩⟩
  case round =>
    clear hT
    obtain ⟨k, s, hk, hk60, rfl, hT, hI⟩ := hrel
    by_cases hlt : k < n ∧ k < 60
    · obtain ⟨hlt, h60⟩ := hlt
      obtain ⟨pb, po, eA, hpb, ⟨o0, o1, o2, o3, o4⟩, hko⟩ := hcell.out k hlt
      subst eA
      have hkI : (k : Int) < (n : Int) := by omega
      have hk6 : (k : Int) < 60 := by omega
      have o0 := keep_cell hT.out.bel o0
      have o1 := keep_cell hT.out.bel o1
      have o2 := keep_cell hT.out.bel o2
      have o3 := keep_cell hT.out.bel o3
      have o4 := keep_cell hT.out.bel o4
      generalize ops.getD k default = m at *
      go_upto_block 2 with (fail)
      go_cut [8, 9, 10, 11, 12, 13, 14] from 36 to 148 (fun _ _ _ _ _ _ _ wx => Hid (∃ s', Tw w S b M s' s' wx ∧ Inv s' ∧ ln s'.ch ≤ ln s.ch + 20))
      case first =>
        obtain ⟨kd, mA, mc, ml, mlo, mhi, mt⟩ := m
        obtain ⟨hkd, hHV, hlo, hhi, hmt⟩ := hko
        simp only at o0 o1 o2 o3 o4 hkd hHV hlo hhi hmt
        have hin := hI.out.1
        have hl20 := hI.out.2
        have hln0 : ln s.ch ≤ 1200 := by omega
        obtain ⟨w1, hw1⟩ : ∃ w1, wr.alloc (.cells #[.int .i64 kd, .slice mA ml.length mc, .string mlo, .string mhi, .int .u64 mt] 32) = w1 := ⟨_, rfl⟩
        obtain ⟨p, hp⟩ : ∃ p, wr.heap.size = p := ⟨_, rfl⟩
        have hB1 : Below wr.heap.size wr w1 := by rw [← hw1]; exact al0 _ _
        have hO1 : Hid (OB p kd mA ml.length mc mlo mhi mt w1) := Lib.hid (by rw [← hw1, ← hp]; exact OB.new _ _ _ _ _ _ _ _ _)
        have hT1 := Lib.hid (hT.out.below hB1)
        have hnp : Hid (¬ own3 S b M p) := Lib.hid (by rw [← hp]; exact (tw_box hT.out))
        have hHVh := Lib.hid hHV
        replace hw1 := Lib.hid hw1
        replace hp := Lib.hid hp
        clear hB1 hHV hcell
        by_cases k0 : kd = 0
        · subst k0
          have hkL : (ml.take 3).length ≤ 3 := by rw [List.length_take]; omega
          have hVL := Lib.hid (hv_take hHVh.out 3)
          have hfw := Lib.hid (few3 mA mc ml w1 (hHVh.out.below hT1.out.bel))
          generalize ml.take 3 = L at *
          go_wp2_with (fail)
          rw [hw1.out]
          with_reducible refine hfw.out.mono ?_
          rintro e w' ⟨rfl, rfl⟩
          clear hfw hT hI hw1 hp hO1 hnp o0 o1 o2 o3 o4 hHVh
          go_wp2
          go_loopw [56] (fun i wq => ∃ (q : Nat) (s1 : St), q ≤ L.length ∧ i = .int .i64 q ∧ Hid (Tw w S b M s1 s1 wq) ∧ Hid (Inv s1 ∧ ln s1.ch ≤ ln s.ch + q)) (fun i _ => L.length - (intOf i).toNat)
          case atStart => exact ⟨0, s, by omega, rfl, hT1, Lib.hid ⟨hin, by omega⟩⟩
          case round =>
            clear hT1
            obtain ⟨q, s1, hq, rfl, hT2, hI2⟩ := hrel
            by_cases hlt : q < L.length
            · have hqI : (q : Int) < (L.length : Int) := by omega
              obtain ⟨vb, vo, eV, hvb, hc⟩ := (hVL.out.below hT2.out.bel).at (i := q) hlt
              subst eV
              obtain ⟨v, hvv⟩ : ∃ v, nt L q = v := ⟨_, rfl⟩
              rw [hvv] at hc
              obtain ⟨a0, a1, a2, a3, a4, a5⟩ := hc
              obtain ⟨w8, hw8⟩ : ∃ w8, wr.alloc (.cells #[.string v.key, .string v.val, .bool v.gone, .int .u64 v.ts, .int .i64 v.dc, .int .i64 v.tx] 35) = w8 := ⟨_, rfl⟩
              obtain ⟨p8, hp8⟩ : ∃ p8, wr.heap.size = p8 := ⟨_, rfl⟩
              have hT8 : Hid (Tw w S b M s1 s1 w8) := Lib.hid (by rw [← hw8]; exact hT2.out.below (al0 _ _))
              have hV8 : Hid (V6 p8 0 v w8) := Lib.hid (by rw [← hw8, ← hp8]; exact V6.new wr v _)
              have hp9 : Hid (¬ own3 S b M p8) := Lib.hid (by rw [← hp8]; exact (tw_box hT2.out))
              have hV8d : Hid (V6 p8 0 v w8.drew) := Lib.hid (hV8.out.below (below_drew w8))
              have hT8d := Lib.hid (hT8.out.below (below_drew w8))
              have hi1 := Lib.hid hI2.out.1
              have hi2 := Lib.hid (Inv.put hI2.out.1 v)
              have hl1 : ln s1.ch ≤ 1300 := by have := hI2.out.2; omega
              have hl2 : ln (puS s1 v).ch ≤ ln s.ch + (q + 1) := by have := hI2.out.2; have := ln_put hI2.out.1 v; omega
              replace hw8 := Lib.hid hw8
              replace hp8 := Lib.hid hp8
              have hP := Lib.hid (tw_put hT8d.out hl1 hV8d.out hp9.out v)
              have hD := Lib.hid (fun X (hX : Hid (Tw w S b M (puS s1 v) s1 X)) (hV : V6 p8 0 v X) => tw_dput hX.out hi1.out hl1 hV hp9.out v)
              generalize puS s1 v = s2 at *
              obtain ⟨E, hE⟩ : ∃ E : Int, ((puE s1 v : Nat) : Int) = E := ⟨_, rfl⟩
              rw [hE] at hP hD
              have hC := Lib.hid (fun X (hX : Hid (Tw w S b M s2 s2 X)) (hV : V6 p8 0 v X) => tw_chk hX.out hV v)
              have hR := Lib.hid (fun X (hX : Hid (Tw w S b M s2 s2 X)) (hV : V6 p8 0 v X) => tw_dchk hX.out hV v)
              obtain ⟨E2, hE2⟩ : ∃ E : Int, ((chk v : Nat) : Int) = E := ⟨_, rfl⟩
              rw [hE2] at hC hR
              clear hvv hE hE2 hT2 hI2 hT8 hT8d hl1
              go_upto_region 15 with (fail)
              rw [hw8.out, hp8.out]
              go_region_held3 (V6 p8 0 v)
                (first | with_reducible exact hV8.out | with_reducible exact hV8d.out | with_reducible assumption | (go_must (exact (0 : Nat))) | fail)
                (first
                  | (go_at_call 11; ((with_reducible refine hP.out.mono ?_); rintro e w10 ⟨rfl, hV10, hT10⟩))
                  | (go_at_call 12; ((with_reducible refine (hD.out _ hT10 hV10).mono ?_); rintro e w11 ⟨rfl, hV11, hT11⟩))
                  | (go_at_call 13; ((with_reducible refine (hC.out _ hT11 hV11).mono ?_); rintro e w12 ⟨rfl, hV12, hT12⟩))
                  | (go_at_call 14; ((with_reducible refine (hR.out _ hT12 hV12).mono ?_); rintro e w13 ⟨rfl, hV13, hT13⟩))
                  | fail)
              all_goals
                clear hP hD hC hR hV8 hV8d hi1 hw8 hp8 hp9 hT10 hT11 hT12 hV10 hV11 hV12 hV13 a0 a1 a2 a3 a4 a5
                have hI3 := Lib.hid (show Inv s2 ∧ ln s2.ch ≤ ln s.ch + (q + 1 : Nat) from ⟨hi2.out, hl2⟩)
                go_wp2
                go_roundw
                case rel => exact ⟨q + 1, s2, by omega, by go_num, hT13, hI3⟩
                case measure => simp [intOf]; omega
            · obtain rfl : q = L.length := by omega
              have hr : Hid (∃ s', Tw w S b M s' s' wr ∧ Inv s' ∧ ln s'.ch ≤ ln s.ch + 20) := Lib.hid ⟨s1, hT2.out, hI2.out.1, by have := hI2.out.2; omega⟩
              clear hT2 hI2 hVL
              go_wp2
              go_meet
              exact hr
        by_cases k1 : kd = 1
        · subst k1
          have hO1d := Lib.hid (OB.below hO1.out (below_drew w1))
          have hT1d := Lib.hid (hT1.out.below (below_drew w1))
          have hkL : (ml.take 20).length ≤ 20 := by rw [List.length_take]; omega
          have hVL := Lib.hid (hv_take hHVh.out 20)
          have hfw := Lib.hid (fun X (hB : Below w.heap.size w X) => few20 mA mc ml X (hHVh.out.below hB))
          obtain ⟨hi2, hl2, -⟩ := Inv.load hin (ml.take 20) (ml.take 20).length
          generalize ml.take 20 = L at *
          have hP := Lib.hid (tw_load hT1d.out (by omega) hO1d.out hnp.out hVL.out hkL)
          have hD := Lib.hid (fun X (hX : Hid (Tw w S b M (loS s L L.length) s X)) (hO : OB p 1 mA ml.length mc mlo mhi mt X) => tw_dload hX.out hin (by omega) hO hnp.out hVL.out hkL)
          generalize loS s L L.length = s2 at *
          obtain ⟨E, hE⟩ : ∃ E : Int, ((loN s L L.length : Nat) : Int) = E := ⟨_, rfl⟩
          rw [hE] at hP hD
          have hr : Hid (∀ X, Hid (Tw w S b M s2 s2 X) → ∃ s', Tw w S b M s' s' X ∧ Inv s' ∧ ln s'.ch ≤ ln s.ch + 20) := Lib.hid fun X h => ⟨s2, h.out, hi2, by omega⟩
          clear hE hT hI hT1 hVL hHVh hi2 hl2 hln0
          go_upto_region 19 with (fail)
          rw [hw1.out, hp.out]
          go_region_held3 (OB p 1 mA ml.length mc mlo mhi mt)
            (first | with_reducible exact hO1.out | with_reducible exact hO1d.out | with_reducible assumption | (go_must (exact (0 : Nat))) | fail)
            (first
              | (go_at_call 10; ((with_reducible refine (hfw.out _ hT1d.out.bel).mono ?_); rintro e w' ⟨rfl, rfl⟩))
              | (go_at_call 15; ((with_reducible refine hP.out.mono ?_); rintro e w10 ⟨rfl, hO10, hT10⟩))
              | (go_at_call 10; ((with_reducible refine (hfw.out _ hT10.out.bel).mono ?_); rintro e w' ⟨rfl, rfl⟩))
              | (go_at_call 16; ((with_reducible refine (hD.out _ hT10 hO10).mono ?_); rintro e w11 ⟨rfl, hO11, hT11⟩))
              | fail)
          all_goals
            have hr9 := Lib.hid (hr.out _ hT11)
            clear hr hP hD hfw hO1 hO1d hO10 hO11 hT1d hT10 hT11 hw1 hnp
            have hp9 := hp.out
            subst hp9
            clear hp
            go_wp2
            go_meet
            exact hr9
        by_cases k2 : kd = 2
        · subst k2
          have hP := Lib.hid (tw_get hT1.out hO1.out mlo mt hlo)
          have hD := Lib.hid (fun X q v (hX : Hid (Tw w S b M s s X)) (hV : V6 q 0 v X) => tw_dget hX.out hV mlo mt)
          generalize gtV s mlo mt = x at *
          generalize gtB s mlo mt = xB at *
          obtain ⟨E, hE⟩ : ∃ E : Int, ((gtE s mt : Nat) : Int) = E := ⟨_, rfl⟩
          rw [hE] at hP hD
          have hr : Hid (∀ X, Tw w S b M s s X → ∃ s', Tw w S b M s' s' X ∧ Inv s' ∧ ln s'.ch ≤ ln s.ch + 20) := Lib.hid fun X h => ⟨s, h, hin, by omega⟩
          have hq := neq_ver x x
          simp only [decide_true, Bool.not_true] at hq
          clear hE hT hI hT1 hHVh hln0
          go_wp2_with (fail)
          rw [hw1.out, hp.out]
          with_reducible refine hP.out.mono ?_
          rintro e w10 ⟨rfl, hO10, hT10⟩
          obtain ⟨w11, hw11⟩ : ∃ w11, w10.alloc (.cells #[.string x.key, .string x.val, .bool x.gone, .int .u64 x.ts, .int .i64 x.dc, .int .i64 x.tx] 35) = w11 := ⟨_, rfl⟩
          obtain ⟨p2, hp2⟩ : ∃ p2, w10.heap.size = p2 := ⟨_, rfl⟩
          have hT11 : Hid (Tw w S b M s s w11) := Lib.hid (by rw [← hw11]; exact hT10.out.below (al0 _ _))
          have hV11 : Hid (V6 p2 0 x w11) := Lib.hid (by rw [← hw11, ← hp2]; exact V6.new w10 x _)
          obtain ⟨o0, o1, o2, o3, o4⟩ : OB p 2 mA ml.length mc mlo mhi mt w11 := by rw [← hw11]; exact OB.below hO10 (al0 _ _)
          have hD2 := Lib.hid (hD.out _ _ _ hT11 hV11.out)
          replace hw11 := Lib.hid hw11
          replace hp2 := Lib.hid hp2
          clear hP hD hO1 hO10 hT10 hw1 hT11 hV11
          go_upto_region 23 with (fail)
          rw [hw11.out, hp2.out]
          go_wp2_with (fail)
          with_reducible refine hD2.out.mono ?_
          rintro e w12 ⟨rfl, hV12, hT12⟩
          obtain ⟨w13, hw13⟩ : ∃ w13, w12.alloc (.cells #[.string x.key, .string x.val, .bool x.gone, .int .u64 x.ts, .int .i64 x.dc, .int .i64 x.tx] 35) = w13 := ⟨_, rfl⟩
          obtain ⟨p3, hp3⟩ : ∃ p3, w12.heap.size = p3 := ⟨_, rfl⟩
          have hr9 : Hid (∃ s', Tw w S b M s' s' w13 ∧ Inv s' ∧ ln s'.ch ≤ ln s.ch + 20) := Lib.hid (hr.out _ (by rw [← hw13]; exact hT12.out.below (al0 _ _)))
          obtain ⟨a0, a1, a2, a3, a4, a5⟩ : V6 p2 0 x w13 := by rw [← hw13]; exact hV12.below (al0 _ _)
          obtain ⟨z0, z1, z2, z3, z4, z5⟩ : V6 p3 0 x w13 := by rw [← hw13, ← hp3]; exact V6.new w12 x _
          replace hw13 := Lib.hid hw13
          replace hp3 := Lib.hid hp3
          clear hD2 hV12 hT12 hr hw11 hp2 o0 o1 o2 o3 o4
          go_upto_region 24 with (fail)
          rw [hw13.out, hp3.out]
          have hp9 := hp.out
          subst hp9
          clear hp
          go_wp2
          all_goals
            go_meet
            exact hr9
        by_cases k3 : kd = 3
        · subst k3
          have hO1d := Lib.hid (OB.below hO1.out (below_drew w1))
          have hT1d := Lib.hid (hT1.out.below (below_drew w1))
          have hi2 := Inv.drop hin mlo mhi
          have hl2 := ln_drop s.ch mlo mhi
          have hP := Lib.hid (tw_drop hT1d.out hO1d.out hnp.out mlo mhi)
          have hD := Lib.hid (fun X (hX : Hid (Tw w S b M ⟨dr s.ch mlo mhi, s.fl⟩ s X)) (hO : OB p 3 mA ml.length mc mlo mhi mt X) => tw_ddrop hX.out hin (by omega) hO hnp.out mlo mhi)
          obtain ⟨s2, hs2⟩ : ∃ s2 : St, ⟨dr s.ch mlo mhi, s.fl⟩ = s2 := ⟨_, rfl⟩
          rw [hs2] at hP hD hi2
          have hl3 : ln s2.ch ≤ ln s.ch := by rw [← hs2]; exact hl2
          obtain ⟨E, hE⟩ : ∃ E : Int, (((al s.ch mlo mhi).length : Nat) : Int) = E := ⟨_, rfl⟩
          rw [hE] at hP hD
          have hr : Hid (∀ X, Hid (Tw w S b M s2 s2 X) → ∃ s', Tw w S b M s' s' X ∧ Inv s' ∧ ln s'.ch ≤ ln s.ch + 20) := Lib.hid fun X h => ⟨s2, h.out, hi2, by omega⟩
          clear hE hT hI hT1 hHVh hi2 hl2 hl3 hs2 hln0
          go_upto_region 27 with (fail)
          rw [hw1.out, hp.out]
          go_region_held3 (OB p 3 mA ml.length mc mlo mhi mt)
            (first | with_reducible exact hO1.out | with_reducible exact hO1d.out | with_reducible assumption | (go_must (exact (0 : Nat))) | fail)
            (first
              | (go_at_call 19; ((with_reducible refine hP.out.mono ?_); rintro e w10 ⟨rfl, hO10, hT10⟩))
              | (go_at_call 20; ((with_reducible refine (hD.out _ hT10 hO10).mono ?_); rintro e w11 ⟨rfl, hO11, hT11⟩))
              | fail)
          all_goals
            have hr9 := Lib.hid (hr.out _ hT11)
            clear hr hP hD hO1 hO1d hO10 hO11 hT1d hT10 hT11 hw1 hnp
            have hp9 := hp.out
            subst hp9
            clear hp
            go_wp2
            go_meet
            exact hr9
        by_cases k4 : kd = 4
        · subst k4
          have hO1d := Lib.hid (OB.below hO1.out (below_drew w1))
          have hT1d := Lib.hid (hT1.out.below (below_drew w1))
          have hi2 := Inv.trim hin (tmF s.fl mt) (tmF s.fl mt)
          have hl2 := ln_trim (tmF s.fl mt) s.ch
          have hP := Lib.hid (tw_trim hT1d.out hO1d.out hnp.out mt)
          have hD := Lib.hid (fun X (hX : Hid (Tw w S b M ⟨tmC s.ch (tmF s.fl mt), tmF s.fl mt⟩ s X)) (hO : OB p 4 mA ml.length mc mlo mhi mt X) => tw_dtrim hX.out hin (by omega) hO hnp.out mt)
          obtain ⟨s2, hs2⟩ : ∃ s2 : St, ⟨tmC s.ch (tmF s.fl mt), tmF s.fl mt⟩ = s2 := ⟨_, rfl⟩
          rw [hs2] at hP hD hi2
          have hl3 : ln s2.ch ≤ ln s.ch := by rw [← hs2]; exact hl2
          obtain ⟨E, hE⟩ : ∃ E : Int, ((tmN s.ch (tmF s.fl mt) : Nat) : Int) = E := ⟨_, rfl⟩
          rw [hE] at hP hD
          have hr : Hid (∀ X, Hid (Tw w S b M s2 s2 X) → ∃ s', Tw w S b M s' s' X ∧ Inv s' ∧ ln s'.ch ≤ ln s.ch + 20) := Lib.hid fun X h => ⟨s2, h.out, hi2, by omega⟩
          clear hE hT hI hT1 hHVh hi2 hl2 hl3 hs2 hln0
          go_upto_region 30 with (fail)
          rw [hw1.out, hp.out]
          go_region_held3 (OB p 4 mA ml.length mc mlo mhi mt)
            (first | with_reducible exact hO1.out | with_reducible exact hO1d.out | with_reducible assumption | (go_must (exact (0 : Nat))) | fail)
            (first
              | (go_at_call 21; ((with_reducible refine hP.out.mono ?_); rintro e w10 ⟨rfl, hO10, hT10⟩))
              | (go_at_call 22; ((with_reducible refine (hD.out _ hT10 hO10).mono ?_); rintro e w11 ⟨rfl, hO11, hT11⟩))
              | fail)
          all_goals
            have hr9 := Lib.hid (hr.out _ hT11)
            clear hr hP hD hO1 hO1d hO10 hO11 hT1d hT10 hT11 hw1 hnp
            have hp9 := hp.out
            subst hp9
            clear hp
            go_wp2
            go_meet
            exact hr9
        · have e0 : (kd == 0) = false := by rw [beq_eq_false_iff_ne]; exact k0
          have e1 : (kd == 1) = false := by rw [beq_eq_false_iff_ne]; exact k1
          have e2 : (kd == 2) = false := by rw [beq_eq_false_iff_ne]; exact k2
          have e3 : (kd == 3) = false := by rw [beq_eq_false_iff_ne]; exact k3
          have e4 : (kd == 4) = false := by rw [beq_eq_false_iff_ne]; exact k4
          have hO1d := Lib.hid (OB.below hO1.out (below_drew w1))
          have hT1d := Lib.hid (hT1.out.below (below_drew w1))
          have hP := Lib.hid (tw_all hT1d.out (by omega) hO1d.out mlo mhi)
          have hD := Lib.hid (fun X A1 c1 (hX : Hid (HV X A1 c1 (al s.ch mlo mhi) ∧ Tw w S b M s s X)) (hO : OB p kd mA ml.length mc mlo mhi mt X) => tw_dall hX.out.2 hin (by omega) hO mlo mhi hX.out.1)
          generalize al s.ch mlo mhi = R at *
          have hQ := Lib.hid (fun X A1 c1 A2 c2 (hX : Hid (HV X A2 c2 R ∧ HV X A1 c1 R ∧ Tw w S b M s s X)) (hO : OB p kd mA ml.length mc mlo mhi mt X) => tw_same hX.out.2.2 hO hX.out.2.1 hX.out.1)
          have hr : Hid (∀ X, Hid (Tw w S b M s s X) → ∃ s', Tw w S b M s' s' X ∧ Inv s' ∧ ln s'.ch ≤ ln s.ch + 20) := Lib.hid fun X h => ⟨s, h.out, hin, by omega⟩
          clear hT hI hT1 hHVh hln0
          go_upto_region 9 with (fail)
          rw [hw1.out, hp.out]
          go_region_held3 (OB p kd mA ml.length mc mlo mhi mt)
            (first | with_reducible exact hO1.out | with_reducible exact hO1d.out | with_reducible assumption | (go_must (exact (0 : Nat))) | fail)
            (first
              | (go_at_call 24; ((with_reducible refine hP.out.mono ?_); rintro e w10 ⟨A1, c1, rfl, hO10, hX10⟩))
              | (go_at_call 25; ((with_reducible refine (hD.out _ _ _ hX10 hO10).mono ?_); rintro e w11 ⟨A2, c2, rfl, hO11, hX11⟩))
              | (go_at_call 23; ((with_reducible refine (hQ.out _ _ _ _ _ hX11 hO11).mono ?_); rintro e w12 ⟨rfl, hO12, hT12⟩))
              | fail)
          all_goals
            have hr9 := Lib.hid (hr.out _ hT12)
            clear hr hP hD hQ hO1 hO1d hO10 hO11 hO12 hT1d hX10 hX11 hT12 hw1 hnp
            have hp9 := hp.out
            subst hp9
            clear hp
            go_wp2
            go_meet
            exact hr9
      case rest =>
        obtain ⟨s', hT', hi', hl'⟩ := hcut.out
        have hin := hI.out.1
        have hl20 : ln s'.ch ≤ 20 * (k + 1) := by have := hI.out.2; omega
        have hcl := len_ln hi'.ne
        have hal := al_ln s'.ch
        have hS0 := Lib.hid (SW.mk (hT'.below (below_drew wc)))
        have kF := Lib.hid (fun X (hX : SW w S b M s' X) => floor_any X hX.2.a)
        have kL := Lib.hid (fun X (hX : SW w S b M s' X) => len_any X hX.2.a)
        have kA := Lib.hid (fun X (hX : SW w S b M s' X) => (show Calls Try.prog 25 #[.pointer (some ⟨M, 0, none⟩), .string { data := #[] }, .string { data := #[] }] X (fun e w' => ∃ A c, e = .returned (.slice A (ln s'.ch) c) ∧ Below X.heap.size X w') from (dall_any { data := #[] } { data := #[] } X hX.2.d (by omega) (by omega)).mono fun e w' ⟨A, c, he, _, hB⟩ => ⟨A, c, by rw [he, hal], hB⟩))
        have hI' := Lib.hid (show Inv s' ∧ ln s'.ch ≤ 20 * (k + 1) from ⟨hi', hl20⟩)
        have hln9 : ln s'.ch ≤ 9223372036854775807 := by omega
        clear hcut hT' hi' hl' hT hI hcell hin hl20 hcl hal o0 o1 o2 o3 o4 hko
        generalize hN : ln s'.ch = N at *
        replace hN := Lib.hid hN
        go_upto_region 32 with (fail)
        go_region_held3 (SW w S b M s')
          (first | with_reducible exact hS0.out | with_reducible assumption | with_reducible exact SW.fo (by assumption) (by assumption) | (go_must (exact (0 : Nat))) | fail)
          (first
            | (go_at_call 26; ((with_reducible refine (kF.out _ (by assumption)).mono ?_); rintro e w' ⟨rfl, rfl⟩))
            | (go_at_call 27; ((with_reducible refine (kL.out _ (by assumption)).mono ?_); rintro e w' ⟨rfl, hB9⟩))
            | (go_at_call 25; ((with_reducible refine (kA.out _ (by assumption)).mono ?_); rintro e w' ⟨Aq, cq, rfl, hB9⟩))
            | fail)
        all_goals
          rename_i hH
          have hT9 := Lib.hid hH.2
          clear hH hS0 kF kL kA
          go_wp2
          go_roundw
          case rel => exact ⟨k + 1, s', by omega, by omega, by go_num, hT9, Lib.hid ⟨hI'.out.1, by rw [hN.out]; exact hI'.out.2⟩⟩
          case measure => simp [intOf]; omega
    · have hin := hI.out.1
      have hl20 := hI.out.2
      have hcl := len_ln hin.ne
      have hM1 : (al s.ch { data := #[] } { data := #[] }).length ≤ 1200 := by rw [al_ln]; omega
      have hal := Lib.hid (fun X (hX : Tw w S b M s s X) => all_any { data := #[] } { data := #[] } X hX.a)
      have hda := Lib.hid (fun X (hX : Tw w S b M s s X) => dall_any { data := #[] } { data := #[] } X hX.d (by omega) (by omega))
      generalize al s.ch { data := #[] } { data := #[] } = L at *
      clear hcell hin hl20 hcl hI
      rcases (show (k < n ∧ ¬ k < 60) ∨ ¬ k < n by omega) with ⟨h1, h2⟩ | h1
      all_goals
        go_wp2_with (fail)
        with_reducible refine (awake_any _).mono ?_
        rintro e w7 ⟨rfl, hB7⟩
        have hT7 := Lib.hid (hT.out.below hB7)
        clear hB7 hT
        go_wp2_with (fail)
        with_reducible refine (hal.out _ hT7.out).mono ?_
        rintro e w8 ⟨A8, c8, rfl, hG8, hB8⟩
        have hT8 := Lib.hid (hT7.out.below hB8)
        have hh8 := Lib.hid (hG8.hv (by omega))
        clear hT7 hG8 hB8
        go_wp2_with (fail)
        with_reducible refine (hda.out _ hT8.out).mono ?_
        rintro e w9 ⟨A9, c9, rfl, hG9, hB9⟩
        have hsv := samevers A8 c8 L A9 c9 L w9 (hh8.out.below hB9) (hG9.hv (by omega))
        rw [decide_eq_true rfl] at hsv
        replace hsv := Lib.hid hsv
        have hT9 := Lib.hid (hT8.out.below hB9)
        clear hT8 hh8 hG9 hB9
        go_wp2_with (fail)
        with_reducible refine hsv.out.mono ?_
        rintro e w10 ⟨rfl, hB10⟩
        have hEnd := Lib.hid (trans0 hT9.out.bel hB10)
        clear hsv hT9 hB10
        go_wp2
        go_ret
        exact ⟨rfl, hEnd.out⟩
end Go.Proofs.Ytlojmojmijklmaa.stoPm
