/- StoreOrder (on the way). -/
import Derived.Test.YtlojmojmijklmaaStoOw
import Derived.Test.YtlojmojmijklmaaRowA
set_option linter.unusedVariables false
set_option maxRecDepth 100000
namespace Go.Proofs.Ytlojmojmijklmaa.stoOr
open Go.ChangeShapes Go.WideShapes Go.ChangeAt Go.RowKit Go.Shelf
open opV opG opS rowA chnM gen chnA chnB chnR chnE chnI chnJ chnT stoM stoA stoL stoB stoC stoP stoPr stoG stoW stoI stoJ stoLo stoX stoTw stoT stoU stoMv stoO stoOn stoOs stoOw
attribute [local go_sem high] bin_slt bin_sle bin_sge bin_sgt bin_seq bin_sne
attribute [local go_sem] Oper.semAt_some
theorem few30 (A : Option Addr) (c : Nat) (l : List Ver) (w : World) (h : HV w A c l) :
    Calls Try.prog 10 #[.slice A l.length c, .int .i64 30] w fun e w' => e = .returned (.slice A (l.take 30).length c) ∧ w = w' := few_any A c l 30 w h (by omega)
theorem row_nth {w : World} {a : Option Addr} {len cap : Nat} {zs : List Int} (h : IsRow .u64 w a len cap zs) (j : Nat) (hj : j < len) :
    ∃ b off, a = some ⟨b, off, none⟩ ∧ w.cell? ⟨b, off + j, none⟩ = some (.int .u64 (zs.getD j 0)) ∧ 0 ≤ zs.getD j 0 := by
  rcases h with ⟨_, h, _, _⟩ | ⟨x, hx, h1, h2, h3, h4, h5⟩
  · omega
  · have hp : j < zs.length := by omega
    obtain ⟨b, off, rfl, hc⟩ := ints_at h4 (by omega)
    exact ⟨b, off, hx, hc j hp, (bounds_u64 (h5 _ (by simp [List.getD, hp]))).1⟩
set_option maxHeartbeats 8000000 in
theorem order_any (A : Option Addr) (c : Nat) (l : List Ver) (D : Option Addr) (dl dc : Nat) (zs : List Sw) (E : Option Addr) (el ec : Nat) (fs : List Int) (key : ByteArray) (sn : Int) (w : World) (hv : HV w A c l) (hz : Rs w QSw 2 D dl zs) (hf : IsRow .u64 w E el ec fs) (hk : key.size ≤ 140737488351232) :
    Calls Try.prog 5 #[.slice A l.length c, .slice D dl dc, .slice E el ec, .string key, .int .u64 sn] w fun e w' => e = .returned (.bool true) ∧ Below w.heap.size w w' := by
  obtain ⟨iV, hiV, hzV0, hzV1, hzV2⟩ := info_parts infoV
  have hfew := Lib.hid (few30 A c l)
  have hk30 : (l.take 30).length ≤ 30 := by rw [List.length_take]; omega
  have hvt := hv_take hv 30
  have hone := Lib.hid (fun w1 (h : HV w1 A c (l.take 30)) => once_any A c (l.take 30) w1 h (by omega))
  have hLl := onL_len (l.take 30) (l.take 30).length
  have hdis := onL_dis (l.take 30) (l.take 30).length
  generalize l.take 30 = l3 at *
  generalize onL l3 l3.length = L at *
  have hL30 : L.length ≤ 30 := by omega
  obtain ⟨he1, he2⟩ := rowA.row_len hf
  have hfc := Lib.hid (fun (j : Nat) (hj : j < el) => row_nth hf j hj)
  have hcell := Lib.hid (fun (j : Nat) (hj : j < dl) => (show ∃ b off, D = some ⟨b, off, none⟩ ∧ b < w.heap.size ∧ QSw w b (off + j * 2) (zs.getD j default) by
    rcases hz.2.2 with h0 | ⟨b, off, e, h3, h4⟩
    · omega
    · exact ⟨b, off, e, h3, h4 j hj⟩))
  replace hv := Lib.hid hv
  replace hvt := Lib.hid hvt
  replace hdis := Lib.hid hdis
  have hlen9 := hz.2.1
  have hFl : (fs.take el).length = el := by
    rcases hf with ⟨_, e, _, e2⟩ | ⟨x, _, h1, h2, h3, _⟩
    · rw [e, e2]; rfl
    · rw [List.length_take]; omega
  have hFg : Hid (∀ j, j < el → (fs.take el).getD j 0 = fs.getD j 0) := Lib.hid fun j hj => by simp [List.getD, hj]
  obtain ⟨F, hF⟩ : ∃ F, fs.take el = F := ⟨_, rfl⟩
  rw [hF] at hFl hFg
  replace hF := Lib.hid hF
  clear hz hf
  go_enter Try.func5, Try.ntmps5
  go_wp2_with (go_at_call 10; (with_reducible refine (hfew.out _ hv.out).mono ?_); rintro e w' ⟨rfl, rfl⟩)
  with_reducible refine (hone.out _ hvt.out).mono ?_
  rintro e W ⟨A1, c1, rfl, hG1, hB1⟩
  have hv1 := Lib.hid (hG1.hv (by omega))
  replace hB1 := Lib.hid hB1
  have hn := Lib.hid (new_any W)
  clear hone hfew hvt hv hk30 hG1
  go_wp2_with (fail)
  with_reducible refine hn.out.mono ?_
  rintro e w1 ⟨S1, b1, rfl, hN1, hS1, hS1', hb1, hb1', hm1⟩
  clear hn
  have hn2 := Lib.hid (new_any w1)
  replace hm1 := Lib.hid hm1
  go_wp2_with (fail)
  with_reducible refine hn2.out.mono ?_
  rintro e w2 ⟨S2, b2, rfl, hN2, hS2, hS2', hb2, hb2', hm2⟩
  have hT2 := Lib.hid (two_new hN1 hS1 hS1' hb1 hb1' hm1.out hN2 hS2 hS2' hb2 hb2' hm2)
  clear hN1 hN2 hm1 hm2 hn2 hS1 hS1' hb1 hb1' hS2 hS2' hb2 hb2'
  go_wp2
  go_loopw [13, 42] (fun s i wr => ∃ (j : Nat) (t : Int), j ≤ el ∧ s = .int .u64 t ∧ i = .int .i64 j ∧ Hid (0 ≤ t) ∧ Hid (∀ q, q < j → fs.getD q 0 ≤ t) ∧ wr = w2) (fun _ i _ => el - (intOf i).toNat)
  case atStart => exact ⟨0, 0, by omega, rfl, rfl, Lib.hid (by omega), Lib.hid (fun q hq => by omega), rfl⟩
  case round =>
    obtain ⟨j, t, hj, rfl, rfl, ht0, htf, rfl⟩ := hrel
    by_cases hlt : j < el
    · obtain ⟨pb, po, rfl, hcz, hz0⟩ := hfc.out j hlt
      have hcz := keep_cell (trans0 hB1.out hT2.out.bel) hcz
      have hjI : (j : Int) < (el : Int) := by omega
      have hmx : Hid (0 ≤ max t (fs.getD j 0) ∧ ∀ q, q < j + 1 → fs.getD q 0 ≤ max t (fs.getD j 0)) := Lib.hid ⟨by have := ht0.out; omega, fun q hq => by
        by_cases e : q = j
        · subst e; omega
        · have := htf.out q (by omega); omega⟩
      generalize fs.getD j 0 = z at *
      clear hfc ht0 htf
      go_wp2
      go_roundw
      case rel => exact ⟨j + 1, max t z, by omega, rfl, by go_num, Lib.hid hmx.out.1, Lib.hid hmx.out.2, trivial⟩
      case measure => simp [intOf]; omega
    · obtain rfl : el = j := by omega
      have hvw := Lib.hid (hv1.out.below hT2.out.bel)
      have hal := al0 wr (.cells #[] 35)
      have hst := Lib.hid (hvw.out.below hal).stand
      have hemp := Lib.hid (emp_own wr wr.heap.size (Nat.le_refl _))
      have hfl := Lib.hid (fl_len L)
      have hone := Lib.hid (fl_all L)
      have hls : Hid (0 + L.length ≤ maxLen ∧ (0 + L.length) * 64 ≤ 140737488355328) := Lib.hid ⟨by unfold maxLen; omega, by omega⟩
      have hls2 := Lib.hid hal.size
      have hcop := Lib.hid (fun (A9 : Option Addr) (c9 : Nat) (w9 : World) (ho : w9.ownsRow wr.heap.size 35 6 (.slice A9 L.length c9) L.length (fl L)) (hg : (wr.alloc (.cells #[] 35)).grownBy w9 (Value.slice (some ⟨wr.heap.size, 0, none⟩) 0 0).ownBlock) => copied hal (Nat.le_refl _) ho hg)
      clear hal
      go_wp2_with (at_builtin; refine wpList_gen rfl (.tmp 50) (.tmp 51) 30 rfl wr.heap.size 35 iV _ 6 64 Try.underlying30 hiV hzV0 hzV1 hzV2 rfl (by decide) _ 0 [] (by rfl) hemp.out A1 L.length c1 (fl L) (by rfl) hfl.out hst.out hone.out hls.out.1 hls.out.2 hls2.out ?_; intro A3 c3 w3 hr3 hg3 hat3; simp only [Nat.zero_add, List.nil_append] at hr3 ⊢; obtain ⟨hG3, hB3⟩ := hcop.out A3 c3 w3 hr3 hg3; have hG3 := Lib.hid hG3; have hB3 := Lib.hid hB3; clear hr3 hg3 hat3)
      clear hst hemp hls2 hcop hls hone hfl hiV hzV0 hzV1 hzV2
      obtain ⟨wb, hwb⟩ : ∃ wb : World, wb = wr := ⟨_, rfl⟩
      subst hwb
      have hO := Lib.hid (show ∃ m, Ow wb L A3 c3 m w3 from ⟨L, Pm.self hdis.out, hG3.out, hB3.out⟩)
      clear hG3 hB3
      go_loopw [55] (fun i wr => ∃ j : Nat, j ≤ dl ∧ i = .int .i64 j ∧ Hid (∃ m, Ow wb L A3 c3 m wr)) (fun i _ => dl - (intOf i).toNat)
      case atStart => exact ⟨0, by omega, rfl, hO⟩
      case round =>
        clear hO
        obtain ⟨j, hj, rfl, hO⟩ := hrel
        by_cases hlt : j < dl
        · obtain ⟨m, hO⟩ := hO.out
          obtain ⟨pb, po, rfl, hpb, hs0, hs1⟩ := hcell.out j hlt
          have hjI : (j : Int) < (dl : Int) := by omega
          have hs0 := keep_cell (trans0 (trans0 hB1.out hT2.out.bel) hO.bel) hs0
          have hs1 := keep_cell (trans0 (trans0 hB1.out hT2.out.bel) hO.bel) hs1
          generalize zs.getD j default = s at *
          obtain ⟨sa, sb⟩ := s
          simp only at hs0 hs1
          have hal := al0 wr (.cells #[.int .i64 sa, .int .i64 sb] 54)
          have e0 := cell_of_row _ _ 0 #[.int .i64 sa, .int .i64 sb] 54 (0, 0) (heap_alloc_new wr (.cells #[.int .i64 sa, .int .i64 sb] 54))
          have e1 := cell_of_row _ _ 1 #[.int .i64 sa, .int .i64 sb] 54 (0, 0) (heap_alloc_new wr (.cells #[.int .i64 sa, .int .i64 sb] 54))
          have hO1 := Lib.hid (hO.below hal)
          clear hO hal
          by_cases hne : 0 < L.length
          · obtain ⟨g, rfl⟩ := hO1.out.some_ hne
            have hlI : (0 : Int) < (L.length : Int) := by omega
            go_wp2
            go_quiet (fail)
            go_wp2
            have hO2 := Lib.hid (hO1.out.below (bdrN nq (Below.refl _ _)))
            obtain ⟨i, hi, ei⟩ := pick sa L.length hne (by omega)
            obtain ⟨k, hk, ek⟩ := pick sb L.length hne (by omega)
            rw [ei, ek]
            clear ei ek hO1 e0 e1 hs0 hs1
            generalize (wr.alloc (.cells #[.int .i64 sa, .int .i64 sb] 54)).drewN nq = wq at *
            have hiI : (i : Int) < (L.length : Int) := by omega
            have hkI : (k : Int) < (L.length : Int) := by omega
            have hL9 : L.length ≤ 1000 := by omega
            obtain ⟨c0, c1', c2, c3', c4, c5⟩ := hO2.out.v6 hi hL9
            obtain ⟨d0, d1, d2, d3, d4, d5⟩ := hO2.out.v6 hk hL9
            have hfz := hO2.out.fz
            have hst := Lib.hid (show Ow wb L (some ⟨g, 0, none⟩) c3 (sws m i k) (putAt (putAt wq g (i * 6) (nt m k)) g (k * 6) (nt m i)) ∧ Ow wb L (some ⟨g, 0, none⟩) c3 (sws m i k) (putAt (putAt wq.drew g (i * 6) (nt m k)) g (k * 6) (nt m i)) from ⟨hO2.out.swap hi hk, hO2.out.drew.swap hi hk⟩)
            clear hO2
            by_cases hik : i = k
            · subst hik
              generalize sws m i i = m9 at *
              generalize nt m i = x at *
              clear d0 d1 d2 d3 d4 d5
              go_region
              all_goals
                go_wp2
                go_roundw
                case rel => exact ⟨j + 1, by omega, by go_num, Lib.hid ⟨m9, by with_reducible exact hst.out.1.drew⟩⟩
                case measure => simp [intOf]; omega
            · have hki : ¬ k = i := fun e => hik e.symm
              have hda1 : ¬ i * 6 + 1 = k * 6 := by omega
              have hdb1 : ¬ i * 6 = k * 6 + 1 := by omega
              have hdc1 : ¬ k * 6 + 1 = i * 6 := by omega
              have hdd1 : ¬ k * 6 = i * 6 + 1 := by omega
              have hda2 : ¬ i * 6 + 2 = k * 6 := by omega
              have hdb2 : ¬ i * 6 = k * 6 + 2 := by omega
              have hdc2 : ¬ k * 6 + 2 = i * 6 := by omega
              have hdd2 : ¬ k * 6 = i * 6 + 2 := by omega
              have hda3 : ¬ i * 6 + 3 = k * 6 := by omega
              have hdb3 : ¬ i * 6 = k * 6 + 3 := by omega
              have hdc3 : ¬ k * 6 + 3 = i * 6 := by omega
              have hdd3 : ¬ k * 6 = i * 6 + 3 := by omega
              have hda4 : ¬ i * 6 + 4 = k * 6 := by omega
              have hdb4 : ¬ i * 6 = k * 6 + 4 := by omega
              have hdc4 : ¬ k * 6 + 4 = i * 6 := by omega
              have hdd4 : ¬ k * 6 = i * 6 + 4 := by omega
              have hda5 : ¬ i * 6 + 5 = k * 6 := by omega
              have hdb5 : ¬ i * 6 = k * 6 + 5 := by omega
              have hdc5 : ¬ k * 6 + 5 = i * 6 := by omega
              have hdd5 : ¬ k * 6 = i * 6 + 5 := by omega
              generalize sws m i k = m9 at *
              generalize nt m i = x at *
              generalize nt m k = y at *
              go_region
              all_goals
                go_wp2
                go_roundw
                case rel => exact ⟨j + 1, by omega, by go_num, Lib.hid ⟨m9, by with_reducible exact hst.out.1.drew⟩⟩
                case measure => simp [intOf]; omega
          · have hlI : ¬ (0 : Int) < (L.length : Int) := by omega
            go_wp2
            go_roundw
            case rel => exact ⟨j + 1, by omega, by go_num, Lib.hid ⟨m, hO1.out⟩⟩
            case measure => simp [intOf]; omega
        · obtain rfl : dl = j := by omega
          obtain ⟨m, hO⟩ := hO.out
          have hml := hO.pm.len
          have hT3 := Lib.hid (hT2.out.below hO.bel)
          have hbd := Lib.hid (show S1 < wb.heap.size ∧ b1 < wb.heap.size ∧ S2 < wb.heap.size ∧ b2 < wb.heap.size by
            obtain ⟨D9, hI⟩ := hT2.out.a
            exact ⟨hI.bd _ (.inl (.inl rfl)), hI.bd _ (.inl (.inr rfl)), hI.bd _ (.inr (.inl rfl)), hI.bd _ (.inr (.inr rfl))⟩)
          have hvm := Lib.hid (hO.gv.hv (by rw [hml]; omega))
          have hnm1 := Lib.hid (not_own hO.gv hbd.out.1 hbd.out.2.1)
          have hnm2 := Lib.hid (not_own hO.gv hbd.out.2.2.1 hbd.out.2.2.2)
          have hPm := Lib.hid hO.pm
          have hln0 : ln St.new.ch = 0 := rfl
          have hld := Lib.hid (load_any (S := S1) (b := b1) A1 c1 L wr hT3.out.a (hv1.out.below hT3.out.bel) (own_not hv1.out hT3.out.h1 hT3.out.h2) (by omega))
          obtain ⟨hi1, hl1, -⟩ := Inv.load Inv.new L L.length
          clear hO hcell
          go_wp2_with (fail)
          with_reducible refine hld.out.mono ?_
          rintro e w5 ⟨rfl, hC5, hA5⟩
          have hT5 := Lib.hid (hT3.out.ca hC5 hA5)
          have hvm5 := Lib.hid (hv_chg hvm.out hC5 hnm1.out)
          have htr := Lib.hid (trim_store t w5 hA5)
          clear hld hC5 hA5 hvm hT3
          go_wp2_with (fail)
          with_reducible refine htr.out.mono ?_
          rintro e w6 ⟨rfl, hC6, hA6⟩
          have hT6 := Lib.hid (show Two W S1 b1 S2 b2 (TmS (loS St.new L L.length) t) St.new w6 from hT5.out.ca hC6 hA6)
          have hvm6 := Lib.hid (hv_chg hvm5.out hC6 hnm1.out)
          clear htr hC6 hA6 hvm5 hT5 hi1 hl1
          obtain ⟨sa, hsa⟩ : ∃ sa, TmS (loS St.new L L.length) t = sa := ⟨_, rfl⟩
          rw [hsa] at hT6
          replace hsa := Lib.hid hsa
          go_wp2
          go_loopw [101] (fun i wr => ∃ q : Nat, q ≤ L.length ∧ i = .int .i64 q ∧ Hid (Two W S1 b1 S2 b2 sa (bS m F q) wr ∧ HV wr A3 c3 m)) (fun i _ => L.length - (intOf i).toNat)
          case atStart => exact ⟨0, by omega, rfl, Lib.hid ⟨hT6.out, hvm6.out⟩⟩
          case round =>
            obtain ⟨q, hq, rfl, hQ⟩ := hrel
            by_cases hlt : q < L.length
            · have hqI : (q : Int) < (L.length : Int) := by omega
              obtain ⟨pb, po, eA, hpb, hc⟩ := hQ.out.2.at (i := q) (by omega)
              subst eA
              obtain ⟨v, hvv⟩ : ∃ v, nt m q = v := ⟨_, rfl⟩
              rw [hvv] at hc
              have hbs := Lib.hid (show bS m F (q + 1) = puS (if q < F.length then TmS (bS m F q) (F.getD q 0) else bS m F q) v from by rw [← hvv]; rfl)
              obtain ⟨a0, a1, a2, a3, a4, a5⟩ := hc
              obtain ⟨w8, hw8⟩ : ∃ w8, wr.alloc (.cells #[.string v.key, .string v.val, .bool v.gone, .int .u64 v.ts, .int .i64 v.dc, .int .i64 v.tx] 35) = w8 := ⟨_, rfl⟩
              have hT8 : Hid (Two W S1 b1 S2 b2 sa (bS m F q) w8) := Lib.hid (by rw [← hw8]; exact hQ.out.1.below (al0 _ _))
              have hv8 : Hid (HV w8 (some ⟨pb, po, none⟩) c3 m) := Lib.hid (by rw [← hw8]; exact hQ.out.2.below (al0 _ _))
              obtain ⟨p8, hp8⟩ : ∃ p8, wr.heap.size = p8 := ⟨_, rfl⟩
              have hV8 : Hid (V6 p8 0 v w8) := Lib.hid (by rw [← hw8, ← hp8]; exact V6.new wr v _)
              have hp9 : Hid (¬ own2 S2 b2 p8) := Lib.hid (by
                obtain ⟨D9, hI⟩ := hQ.out.1.b
                rintro (e | e)
                · have := hI.bd S2 (.inr (.inl rfl)); omega
                · have := hI.bd b2 (.inr (.inr rfl)); omega)
              have hln8 : Hid (ln (bS m F q).ch < 60000) := Lib.hid (by have := (bS_inv m F q).2; omega)
              by_cases hqe : q < el
              · obtain ⟨fb, fo, eE, hcz, hz0⟩ := hfc.out q hqe
                subst eE
                have hqeI : (q : Int) < (el : Int) := by omega
                have hcz9 := keep_cell (trans0 (trans0 hB1.out hQ.out.1.bel) (al0 wr (.cells #[.string v.key, .string v.val, .bool v.gone, .int .u64 v.ts, .int .i64 v.dc, .int .i64 v.tx] 35))) hcz
                obtain ⟨z, hzz⟩ : ∃ z, fs.getD q 0 = z := ⟨_, rfl⟩
                have hst := Lib.hid (show (if q < F.length then TmS (bS m F q) (F.getD q 0) else bS m F q) = TmS (bS m F q) z from by rw [if_pos (by omega), hFg.out q hqe, hzz])
                rw [hzz] at hcz9 hz0
                have htr := Lib.hid (trim_store z w8 hT8.out.b)
                replace hw8 := Lib.hid hw8
                replace hp8 := Lib.hid hp8
                clear hcz hzz hvv hQ
                go_wp2_with (fail)
                rw [hw8.out, hp8.out]
                with_reducible refine htr.out.mono ?_
                rintro e w9 ⟨rfl, hC9, hA9⟩
                have hT9 := Lib.hid (show Two W S1 b1 S2 b2 sa (TmS (bS m F q) z) w9 from hT8.out.cb hC9 hA9)
                have hv9 := Lib.hid (hv_chg hv8.out hC9 hnm2.out)
                have hV9 := Lib.hid (V6.chg hV8.out hC9 hp9.out)
                have hln9 : Hid (ln (TmS (bS m F q) z).ch < 60000) := Lib.hid (Nat.lt_of_le_of_lt (ln_trim _ _) hln8.out)
                clear htr hC9 hA9 hT8 hv8 hV8 hcz9 hw8 a0 a1 a2 a3 a4 a5
                have hpt := Lib.hid (put_any v w9 hT9.out.b hln9.out)
                obtain ⟨a0, a1, a2, a3, a4, a5⟩ := hV9.out
                go_wp2_with (fail)
                with_reducible refine hpt.out.mono ?_
                rintro e w10 ⟨rfl, hC10, hA10⟩
                have hQ10 := Lib.hid (show Two W S1 b1 S2 b2 sa (bS m F (q + 1)) w10 ∧ HV w10 (some ⟨pb, po, none⟩) c3 m from ⟨by rw [hbs.out, hst.out]; exact hT9.out.cb hC10 hA10, hv_chg hv9.out hC10 hnm2.out⟩)
                clear hpt hC10 hA10 hT9 hv9 hV9 a0 a1 a2 a3 a4 a5 hbs hst
                go_wp2
                go_roundw
                case rel => exact ⟨q + 1, by omega, by go_num, hQ10⟩
                case measure => simp [intOf]; omega
              · have hqeI : ¬ (q : Int) < (el : Int) := by omega
                have hst := Lib.hid (show (if q < F.length then TmS (bS m F q) (F.getD q 0) else bS m F q) = bS m F q from if_neg (by omega))
                have hln9 := hln8
                obtain ⟨w9, hw9⟩ : ∃ w9, w8 = w9 := ⟨_, rfl⟩
                subst hw9
                have hT9 := hT8
                have hv9 := hv8
                have hV9 := hV8
                replace hw8 := Lib.hid hw8
                replace hp8 := Lib.hid hp8
                clear hvv hQ hT8 hv8 hV8
                have hpt := Lib.hid (put_any v w8 hT9.out.b hln9.out)
                go_wp2_with (fail)
                rw [hw8.out, hp8.out]
                with_reducible refine hpt.out.mono ?_
                rintro e w10 ⟨rfl, hC10, hA10⟩
                have hQ10 := Lib.hid (show Two W S1 b1 S2 b2 sa (bS m F (q + 1)) w10 ∧ HV w10 (some ⟨pb, po, none⟩) c3 m from ⟨by rw [hbs.out, hst.out]; exact hT9.out.cb hC10 hA10, hv_chg hv9.out hC10 hnm2.out⟩)
                clear hpt hC10 hA10 hT9 hv9 hV9 a0 a1 a2 a3 a4 a5 hbs hst
                go_wp2
                go_roundw
                case rel => exact ⟨q + 1, by omega, by go_num, hQ10⟩
                case measure => simp [intOf]; omega
            · obtain rfl : q = L.length := by omega
              have hFm : ∀ f ∈ F, f ≤ t := by
                intro f hf
                obtain ⟨j, hj, rfl⟩ := List.mem_iff_getElem.1 hf
                have h1 := htf.out j (by omega)
                rw [← hFg.out j (by omega)] at h1
                simpa [List.getD, hj] using h1
              have hend := same_end hdis.out hPm.out ht0.out hFm
              rw [hml, hsa.out] at hend
              have hflt : sa.fl = t := by rw [← hsa.out]; exact tmF_top (by rw [fl_load]; exact ht0.out)
              have hfin : Hid (∀ g, t ≤ g → gtE sa g = 0) := Lib.hid (fun g hg => by unfold gtE; rw [hflt, if_neg (by omega)])
              obtain ⟨-, hl1, -⟩ := Inv.load Inv.new L L.length
              have hls : ln sa.ch ≤ 30 := by
                have h1 := ln_trim (tmF (loS St.new L L.length).fl t) (loS St.new L L.length).ch
                have h2 : ln St.new.ch = 0 := rfl
                rw [← hsa.out]; show ln (tmC _ _) ≤ 30; omega
              obtain ⟨M, hM⟩ : ∃ M, al sa.ch { data := #[] } { data := #[] } = M := ⟨_, rfl⟩
              have hMl : M.length ≤ 30 := by
                rw [← hM]; unfold al sp
                rw [cc_len]
                have := ln_filter (fun c => wth c.key { data := #[] } { data := #[] }) sa.ch
                omega
              have htr := Lib.hid (trim_store t wr hQ.out.1.b)
              have hen2 := Lib.hid hend
              replace hM := Lib.hid hM
              clear hFm hflt hl1 hls hend
              go_wp2_with (fail)
              with_reducible refine htr.out.mono ?_
              rintro e w7 ⟨rfl, hC7, hA7⟩
              have hT7 := Lib.hid (show Two W S1 b1 S2 b2 sa sa w7 from by
                have h := hQ.out.1.cb hC7 hA7
                have e9 : (⟨tmC (bS m F L.length).ch (tmF (bS m F L.length).fl t), tmF (bS m F L.length).fl t⟩ : St) = sa := hen2.out
                rw [e9] at h
                exact h)
              clear htr hC7 hA7 hQ hen2 hfc hFg hdis hPm hsa hnm1 hnm2 hT6 hvm6 htf
              have hE0 : ((gtE sa (max sn t) : Nat) : Int) = 0 := by rw [hfin.out (max sn t) (by omega)]; rfl
              have hgt := get_any key (max sn t) w7 hT7.out.a hk
              obtain ⟨wV, hwV⟩ : ∃ wV, gtV sa key (max sn t) = wV := ⟨_, rfl⟩
              obtain ⟨wB, hwB⟩ : ∃ wB, gtB sa key (max sn t) = wB := ⟨_, rfl⟩
              rw [hwV, hwB, hE0] at hgt
              replace hgt := Lib.hid hgt
              replace hwV := Lib.hid hwV
              replace hwB := Lib.hid hwB
              replace hE0 := Lib.hid hE0
              go_wp2_with (fail)
              with_reducible refine hgt.out.mono ?_
              rintro e w8 ⟨rfl, hB8⟩
              have hT8 := Lib.hid (hT7.out.below hB8)
              clear hB8 hT7 hgt
              obtain ⟨w9, hw9⟩ : ∃ w9, w8.alloc (.cells #[.string wV.key, .string wV.val, .bool wV.gone, .int .u64 wV.ts, .int .i64 wV.dc, .int .i64 wV.tx] 35) = w9 := ⟨_, rfl⟩
              obtain ⟨p1, hp1⟩ : ∃ p1, w8.heap.size = p1 := ⟨_, rfl⟩
              have hT9 : Hid (Two W S1 b1 S2 b2 sa sa w9) := Lib.hid (by rw [← hw9]; exact hT8.out.below (al0 _ _))
              have hV9 : Hid (V6 p1 0 wV w9) := Lib.hid (by rw [← hw9, ← hp1]; exact V6.new w8 wV _)
              have hgt := get_any key (max sn t) w9 hT9.out.b hk
              rw [hwV.out, hwB.out, hE0.out] at hgt
              replace hgt := Lib.hid hgt
              replace hw9 := Lib.hid hw9
              replace hp1 := Lib.hid hp1
              clear hT8
              go_wp2_with (fail)
              rw [hw9.out, hp1.out]
              with_reducible refine hgt.out.mono ?_
              rintro e w10 ⟨rfl, hB10⟩
              have hT10 := Lib.hid (hT9.out.below hB10)
              have hV10 := Lib.hid (hV9.out.below hB10)
              clear hB10 hT9 hV9 hgt hw9 hp1
              obtain ⟨w11, hw11⟩ : ∃ w11, w10.alloc (.cells #[.string wV.key, .string wV.val, .bool wV.gone, .int .u64 wV.ts, .int .i64 wV.dc, .int .i64 wV.tx] 35) = w11 := ⟨_, rfl⟩
              obtain ⟨p2, hp2⟩ : ∃ p2, w10.heap.size = p2 := ⟨_, rfl⟩
              have hT11 : Hid (Two W S1 b1 S2 b2 sa sa w11) := Lib.hid (by rw [← hw11]; exact hT10.out.below (al0 _ _))
              have hV11 : Hid (V6 p1 0 wV w11) := Lib.hid (by rw [← hw11]; exact hV10.out.below (al0 _ _))
              have hX11 : Hid (V6 p2 0 wV w11) := Lib.hid (by rw [← hw11, ← hp2]; exact V6.new w10 wV _)
              replace hw11 := Lib.hid hw11
              replace hp2 := Lib.hid hp2
              clear hT10 hV10 hwV hwB hE0
              go_wp2_with (fail)
              rw [hw11.out, hp2.out]
              with_reducible refine (awake_any w11).mono ?_
              rintro e w12 ⟨rfl, hB12⟩
              have hT12 := Lib.hid (hT11.out.below hB12)
              obtain ⟨a0, a1, a2, a3, a4, a5⟩ := hV11.out.below hB12
              obtain ⟨z0, z1, z2, z3, z4, z5⟩ := hX11.out.below hB12
              have hqv : ∀ wx, _ := fun wx => eql_ver wV wV wx
              simp only [decide_true] at hqv
              have hall := Lib.hid (all_any { data := #[] } { data := #[] } w12 hT12.out.a)
              clear hB12 hT11 hV11 hX11 hw11 hp2
              rw [hM.out] at hall
              go_wp2_with (fail)
              with_reducible refine hall.out.mono ?_
              rintro e w13 ⟨A8, c8, rfl, hG8, hB13⟩
              have hT13 := Lib.hid (hT12.out.below hB13)
              have hh8 := Lib.hid (hG8.hv (by omega))
              have hall2 := Lib.hid (all_any { data := #[] } { data := #[] } w13 hT13.out.b)
              rw [hM.out] at hall2
              clear hall hG8 hB13 hT12 a0 a1 a2 a3 a4 a5 z0 z1 z2 z3 z4 z5 hqv
              go_wp2_with (fail)
              with_reducible refine hall2.out.mono ?_
              rintro e w14 ⟨A9, c9, rfl, hG9, hB14⟩
              have hsv := samevers A8 c8 M A9 c9 M w14 (hh8.out.below hB14) (hG9.hv (by omega))
              rw [decide_eq_true rfl] at hsv
              replace hsv := Lib.hid hsv
              have hT14 := Lib.hid (hT13.out.below hB14)
              clear hall2 hG9 hB14 hT13 hh8
              go_wp2_with (fail)
              with_reducible refine hsv.out.mono ?_
              rintro e w15 ⟨rfl, hB15⟩
              have hEnd := Lib.hid (trans0 hB1.out (trans0 hT14.out.bel hB15))
              clear hsv hB15 hT14
              go_wp2
              go_ret
              exact ⟨rfl, hEnd.out⟩
end Go.Proofs.Ytlojmojmijklmaa.stoOr
