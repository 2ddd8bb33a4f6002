/- InboxBelow. -/
import Derived.Test.YtbfepdibblialaaInS
import Derived.Deep.DeepCutAuto
import Derived.Deep.CutBlock
import Derived.Deep.CutRange
set_option linter.unusedVariables false
set_option linter.unusedSimpArgs false
set_option maxRecDepth 100000
namespace Go.Proofs.Ytbfepdibblialaa.inB
open Go.ChangeShapes Go.WideShapes Go.ChangeAt Go.RowKit Go.Deep
open opG opV opR chnM gen chnA chnR chnE ordA ordB ordC inM inW inL inN inP inPt inG inD inA inK inS

theorem infoOp : (Try.prog.info? 32).isSome = true := by kernel_rfl
theorem run_cut (a : Option Addr) (l c j : Nat) (h : j + 1 ≤ c) (w : World) : (Instr.slice 22 (.slice a l c) none (some (.int .i64 ((j : Int) + 1))) none).run Try.prog w = .ok (.slice a (j + 1) c) w := by
  have h1 : ((j : Int) + 1 ≤ (c : Int)) := by omega
  have h2 : ((j : Int) + 1).toNat = j + 1 := by omega
  obtain ⟨i, hi⟩ := Option.isSome_iff_exists.1 infoOp
  rcases a with _ | ⟨b, o, s⟩ <;> simp [Instr.slice, Instr.sliceBounds, Instr.sliceBound, run_underlying Try.underlying22, sizeOf, typeInfo, asIntOf, hi, go_sem] <;> (intro hh; exfalso; have := hh (by omega); omega)
/-- is what is got told by one of the first calls? -/
def dk (ops : List Oq) (g ap : Int) (q : Nat) : Bool := decide (g = 0 ∨ ∃ k, k < q ∧ (nt ops k).kind = 3 ∧ (nt ops k).t = g ∧ (nt ops k).at0 ≤ ap)
theorem dk_0 (ops : List Oq) (g ap : Int) : dk ops g ap 0 = decide (g = 0) := by
  unfold dk
  rw [decide_eq_decide]
  exact ⟨fun h => h.resolve_right (fun ⟨k, h, _⟩ => by omega), .inl⟩
theorem dk_up {ops : List Oq} {g ap : Int} {q : Nat} (h : dk ops g ap q = true) : dk ops g ap (q + 1) = true := by
  unfold dk at h ⊢
  rw [decide_eq_true_eq] at h ⊢
  exact h.imp id fun ⟨k, h1, h2⟩ => ⟨k, by omega, h2⟩
theorem dk_next {ops : List Oq} {g ap : Int} {q : Nat} (h : dk ops g ap q = false) : dk ops g ap (q + 1) = decide ((nt ops q).kind = 3 ∧ (nt ops q).t = g ∧ (nt ops q).at0 ≤ ap) := by
  unfold dk at h ⊢
  rw [decide_eq_false_iff_not] at h
  rw [decide_eq_decide]
  constructor
  · rintro (e | ⟨k, h1, h2⟩)
    · exact absurd (.inl e) h
    · rcases Nat.lt_or_ge k q with h3 | h3
      · exact absurd (.inr ⟨k, h3, h2⟩) h
      · obtain rfl : k = q := by omega
        exact h2
  · exact fun h2 => .inr ⟨q, by omega, h2⟩
set_option maxHeartbeats 4000000 in
theorem below_any (at0 : Int) (A : Option Addr) (n c : Nat) (ops : List Oq) (w : World) (h : Rs w QOp 7 A n ops) (hc : n ≤ c) (hc9 : c ≤ 9223372036854775807) :
    Calls Try.prog 5 #[.int .i64 at0, .slice A n c] w fun e w' => e = .returned (.bool true) ∧ Below w.heap.size w w' := by
  have hn9 := h.2.1
  have hcell := Lib.hid (fun (j : Nat) (hj : j < n) => (show ∃ b off, A = some ⟨b, off, none⟩ ∧ b < w.heap.size ∧ QOp w b (off + j * 7) (nt ops j) by
    rcases h.2.2 with h0 | ⟨b, off, e, h3, h4⟩
    · omega
    · exact ⟨b, off, e, h3, h4 j hj⟩))
  obtain ⟨a1, ha1⟩ : ∃ z, min at0 1152921504606846976 = z := ⟨_, rfl⟩
  have ha6 : a1 ≤ 1152921504606846976 := by omega
  have hnew := Lib.hid (new_any a1 w)
  have hJ0 : J w (w.heap.size + 1) (B0 a1) XT (newB w a1) := ⟨_, j_new, trivial⟩
  obtain ⟨W1, hW1⟩ : ∃ W1, newB w a1 = W1 := ⟨_, rfl⟩
  obtain ⟨p, hp⟩ : ∃ p, w.heap.size + 1 = p := ⟨_, rfl⟩
  rw [hW1, hp] at hnew hJ0
  replace hJ0 := Lib.hid hJ0
  have hok0 := Lib.hid (ok_B0 a1)
  have hlm0 := Lib.hid (lm_B0 ha6)
  have hfr0 : Hid (From ops 0 (B0 a1)) := Lib.hid (fun x hx => by cases hx)
  have hg0 : (B0 a1).g = 0 := rfl
  generalize B0 a1 = S0 at *
  clear h hW1 hp ha6
  go_enter Try.func5, Try.ntmps5
  go_wp2_with (fail)
  with_reducible refine hnew.out.mono ?_
  rintro e w1 ⟨rfl, rfl⟩
  clear hnew ha1
  go_wp2
  go_loopw [6, 7] (fun v i wr => ∃ (j : Nat) (S : Bx), v = .int .u64 S.g ∧ i = .int .i64 j ∧ j ≤ n ∧ j ≤ 100 ∧ Hid (J w p S XT wr) ∧ Hid S.ok ∧ Hid (Lm S j) ∧ Hid (From ops j S)) (fun _ i _ => n - (intOf i).toNat)
  case atStart => exact ⟨0, S0, by rw [hg0], rfl, by omega, by omega, hJ0, hok0, hlm0, hfr0⟩
  case round =>
    clear hJ0 hok0 hlm0 hfr0 hg0
    obtain ⟨j, S, rfl, rfl, hj, hj1, hJ, hok, hlm, hfr⟩ := hrel
    by_cases hlt : j < n ∧ j < 100
    · obtain ⟨hlt, h100⟩ := hlt
      obtain ⟨pb, po, rfl, hpb, ⟨o0, o1, o2, o3⟩, hko⟩ := hcell.out j hlt
      have hjI : (j : Int) < (n : Int) := by omega
      have hj6 : (j : Int) < 100 := by omega
      have o0 := keep_cell hJ.out.bel o0
      have o1 := keep_cell hJ.out.bel o1
      obtain ⟨q0, q1, q2, q3⟩ := R4.step o2 hJ.out.bel (Nat.le_refl _)
      have o3 := keep_cell hJ.out.bel o3
      have hst := Lib.hid (ok_step (o := nt ops j) hok.out hko.2.2.2.1)
      have hls := Lib.hid (lm_step (o := nt ops j) hlm.out)
      have hfs := Lib.hid (from_step hfr.out)
      have hgs := g_step (S := S) (o := nt ops j)
      have hP := Lib.hid (hJ.out.opn (st_XT 1) (nt ops j))
      obtain ⟨W2, hW2⟩ : ∃ W2, wr.alloc (.cells (oC (nt ops j)) 32) = W2 := ⟨_, rfl⟩
      obtain ⟨B, hB⟩ : ∃ B, wr.heap.size = B := ⟨_, rfl⟩
      rw [hW2, hB] at hP
      generalize nt ops j = o at *
      replace hW2 := Lib.hid hW2
      replace hB := Lib.hid hB
      go_upto_block 2 with (fail)
      rw [hW2.out, hB.out]
      clear o0 o1 o2 o3 q0 q1 q2 q3
      go_cut [] from 35 to 61 (fun wx => Hid (P w p (stepS S o) B o XT wx))
      case first =>
        obtain ⟨hkk, ⟨ha1, ha2⟩, hkm, ⟨ht1, ht2⟩⟩ := hko
        have hcm := hkm.2.2.2.1.le
        have htm := hkm.2.2.2.1.top
        have hHV := Lib.hid (fun w' (hB : Below w.heap.size w w') => HV.few (hkm.2.2.2.1.below hB))
        have hSm : Hid (Sm (fw o.m).vs) := Lib.hid (fun v hv => hkm.2.2.2.2 v (List.mem_of_mem_take hv))
        have hfe := Lib.hid (fun w' => few_any o.m w' hcm htm)
        clear hcm htm hkm hkk hst hls hfs hfr hJ hW2 hB hgs hcell
        rcases five_ways o.kind with e | e | e | e | ⟨e0, e1, e2, e3⟩
        · have hse := Lib.hid (step0 (S := S) e)
          have hkb : (o.kind == 0) = true := by simpa using e
          have hPd := Lib.hid (hP.out.below (st_XT 1) (below_drew W2))
          have s0 := Lib.hid hPd.out.b7
          obtain ⟨k0, k1, k2, k3⟩ := hP.out.b7
          clear e k1 k2 k3
          go_wp2
          go_region_held3 (fun w' => B7 B o w')
            (first | with_reducible exact s0.out | with_reducible exact s1.out | with_reducible exact s2.out | fail)
            (first
              | (go_at_call 10; ((with_reducible refine (hd2.out).mono ?_); rintro e w12 ⟨rfl, hP12⟩; have s2 := Lib.hid hP12.b7; replace hP12 := Lib.hid hP12))
              | (go_at_call 11; ((with_reducible refine (hfe.out _).mono ?_); rintro e w11 ⟨rfl, hB11⟩; have hP11 := hPd.out.below (st_XT 1) hB11; have s1 := Lib.hid hP11.b7; have hd2 := Lib.hid (hP11.put (st_XT 1) hok.out (hlm.out.lim (by omega)) o.at0 (fw o.m) (hHV.out _ hP11.bel) hSm.out); clear hP11 hB11))
              | fail)
          all_goals
            clear s0 s1 s2 hd2 hPd hP
            go_wp2
            go_meet
            exact Lib.hid (by rw [hse.out]; exact hP12.out)
        · have hse := Lib.hid (step1 (S := S) e)
          have hk0 : (o.kind == 0) = false := by simp; omega
          have hk1 : (o.kind == 1) = true := by simpa using e
          obtain ⟨k0, k1, k2, k3⟩ := hP.out.b7
          have hct := Lib.hid (hP.out.next (st_XT 1) hok.out (hlm.out.lim (by omega)))
          clear e hP hfe
          go_wp2_with (fail)
          with_reducible refine hct.out.mono ?_
          rintro e w12 ⟨m, rfl, hO, hPe⟩
          replace hPe := Lib.hid hPe
          clear hO
          clear k0 k1 k2 k3 hct
          go_wp2
          go_meet
          exact Lib.hid (by rw [hse.out]; exact hPe.out)
        · have hse := Lib.hid (step2 (S := S) e)
          have hk0 : (o.kind == 0) = false := by simp; omega
          have hk1 : (o.kind == 1) = false := by simp; omega
          have hk2 : (o.kind == 2) = true := by simpa using e
          obtain ⟨k0, k1, k2, k3⟩ := hP.out.b7
          have hct := Lib.hid (hP.out.done (st_XT 1) hok.out (hlm.out.lim (by omega)) o.at0 ha1 ha2)
          clear e hP hfe
          go_wp2_with (fail)
          with_reducible refine hct.out.mono ?_
          rintro e w12 ⟨rfl, hPe⟩
          replace hPe := Lib.hid hPe
          clear k0 k1 k2 k3 hct
          go_wp2
          go_meet
          exact Lib.hid (by rw [hse.out]; exact hPe.out)
        · have hse := Lib.hid (step3 (S := S) e)
          have hk0 : (o.kind == 0) = false := by simp; omega
          have hk1 : (o.kind == 1) = false := by simp; omega
          have hk2 : (o.kind == 2) = false := by simp; omega
          have hk3 : (o.kind == 3) = true := by simpa using e
          obtain ⟨k0, k1, k2, k3⟩ := hP.out.b7
          have hct := Lib.hid (hP.out.heart (st_XT 1) hok.out (hlm.out.lim (by omega)) o.t o.at0 ht1 ht2 ha1 ha2)
          clear e hP hfe
          go_wp2_with (fail)
          with_reducible refine hct.out.mono ?_
          rintro e w12 ⟨rfl, hPe⟩
          replace hPe := Lib.hid hPe
          clear k0 k1 k2 k3 hct
          go_wp2
          go_meet
          exact Lib.hid (by rw [hse.out]; exact hPe.out)
        · have hse := Lib.hid (step4 (S := S) e0 e1 e2 e3)
          have hk0 : (o.kind == 0) = false := by simpa using e0
          have hk1 : (o.kind == 1) = false := by simpa using e1
          have hk2 : (o.kind == 2) = false := by simpa using e2
          have hk3 : (o.kind == 3) = false := by simpa using e3
          clear e0 e1 e2 e3 hfe
          go_wp2
          go_meet
          exact Lib.hid (by rw [hse.out]; exact hP.out)
      case rest =>
      have hJ2 := Lib.hid hcut.out.j
      have hsy := says (S := stepS S o) hfs.out
      have hg0 := g_nonneg (S := stepS S o)
      generalize stepS S o = S2 at *
      have hgt := Lib.hid hJ2.out.got
      have hap := Lib.hid (fun wx (h : J w p S2 XT wx) => h.applied)
      generalize hgE : S2.g = g at *
      generalize hapE : (S2.ap : Int) = ap at *
      have hd0 := dk_0 ops g ap
      have hdE : Hid (dk ops g ap (j + 1) = true) := Lib.hid (decide_eq_true hsy)
      have hcut2 := run_cut (some ⟨pb, po, none⟩) n c j (by omega)
      have hj9 : IntKind.i64.wrap ((j : Int) + 1) = (j : Int) + 1 := wrap_in _ (by omega) (by omega)
      replace hsy := Lib.hid hsy
      clear hcut hP hW2 hB hko hJ hfr
      go_wp2_with (fail)
      with_reducible refine hgt.out.mono ?_
      rintro e w3 ⟨rfl, rfl⟩
      obtain ⟨d0, hd0'⟩ : ∃ b, decide (g = 0) = b := ⟨_, rfl⟩
      have hgb : (g == 0) = d0 := by rw [← hd0']; rfl
      rw [hd0'] at hd0
      replace hd0' := Lib.hid hd0'
      replace hd0 := Lib.hid hd0
      clear hgt
      go_wp2
      generalize wc = wc0 at *
      go_loopw [10, 71] (fun s k wq => ∃ q : Nat, s = .bool (dk ops g ap q) ∧ k = .int .i64 q ∧ q ≤ j + 1 ∧ Hid (J w p S2 XT wq)) (fun _ k _ => j + 1 - (intOf k).toNat)
      case atStart => exact ⟨0, by rw [hd0.out], rfl, by omega, hJ2⟩
      case round =>
        clear hJ2
        obtain ⟨q, rfl, rfl, hq, hJ3⟩ := hrel
        generalize wr = wq at *
        by_cases hql : q < j + 1
        · have hqI : (q : Int) < (j : Int) + 1 := by omega
          obtain ⟨pb', po', heq, -, ⟨o0, o1, o2, o3⟩, -⟩ := hcell.out q (by omega)
          cases heq
          have o0 := keep_cell hJ3.out.bel o0
          have o1 := keep_cell hJ3.out.bel o1
          obtain ⟨q0, q1, q2, q3⟩ := R4.step o2 hJ3.out.bel (Nat.le_refl _)
          have o3 := keep_cell hJ3.out.bel o3
          have hP := Lib.hid (hJ3.out.opn (st_XT 1) (nt ops q))
          obtain ⟨W4, hW4⟩ : ∃ W4, wq.alloc (.cells (oC (nt ops q)) 32) = W4 := ⟨_, rfl⟩
          obtain ⟨C, hC⟩ : ∃ C, wq.heap.size = C := ⟨_, rfl⟩
          rw [hW4, hC] at hP
          have hPd := Lib.hid (hP.out.below (st_XT 1) (below_drew W4))
          have hPn := Lib.hid (fun nn => (hP.out.below (st_XT 1) (bdrN nn (Below.refl W4.heap.size W4))).j)
          have hup := Lib.hid (dk_up (ops := ops) (g := g) (ap := ap) (q := q))
          have hnx := Lib.hid (dk_next (ops := ops) (g := g) (ap := ap) (q := q))
          obtain ⟨b0, hb0⟩ : ∃ b, dk ops g ap q = b := ⟨_, rfl⟩
          rw [hb0] at hup hnx ⊢
          obtain ⟨b1, hb1⟩ : ∃ b, dk ops g ap (q + 1) = b := ⟨_, rfl⟩
          rw [hb1] at hup hnx
          generalize nt ops q = x at *
          replace hW4 := Lib.hid hW4
          replace hC := Lib.hid hC
          replace hb0 := Lib.hid hb0
          replace hb1 := Lib.hid hb1
          go_upto_region 24 with (fail)
          rw [hW4.out, hC.out]
          clear o0 o1 o2 o3 q0 q1 q2 q3
          obtain ⟨x0, x1, ⟨y0, y1, y2, y3⟩, x3⟩ := hP.out.b7
          cases b0 with
          | true =>
            have hb : b1 = true := hup.out rfl
            subst hb
            clear x0 x1 y0 y1 y2 y3 x3 hP hPd hup hnx hW4 hC
            go_quiet (fail)
            have hJ4 := Lib.hid (hPn.out nq)
            go_wp2
            go_roundw
            case rel => exact ⟨q + 1, by rw [hb1.out], by go_num, by omega, hJ4⟩
            case measure => simp [intOf]; omega
          | false =>
            have hb := hnx.out rfl
            by_cases e3 : x.kind = 3
            · have hk3 : (x.kind == 3) = true := by simpa using e3
              by_cases et : x.t = g
              · have hkt : (x.t == g) = true := by simpa using et
                have hb2 : Hid (decide (x.at0 ≤ ap) = b1) := Lib.hid (by rw [hb, decide_eq_decide]; exact ⟨fun h => ⟨e3, et, h⟩, fun h => h.2.2⟩)
                have s0 := Lib.hid hPd.out.b7
                have hcl := Lib.hid (hap.out W4.drew hPd.out.j)
                clear x0 x1 y0 y1 y2 y3 x3 hP hup hnx hW4 hC hPn hb e3 et
                go_region_held3 (fun w' => B7 C x w')
                  (first | with_reducible exact s0.out | fail)
                  (first
                    | (go_at_call 22; ((with_reducible refine (hcl.out).mono ?_); rintro e w5 ⟨rfl, rfl⟩))
                    | fail)
                all_goals
                  have hJ4 := Lib.hid hPd.out.j
                  clear s0 hcl hPd
                  go_wp2
                  go_roundw
                  case rel => exact ⟨q + 1, by rw [hb1.out, ← hb2.out], by go_num, by omega, hJ4⟩
                  case measure => simp [intOf]; omega
              · have hkt : (x.t == g) = false := by simpa using et
                have hbf : b1 = false := by rw [hb]; exact decide_eq_false (fun h => et h.2.1)
                subst hbf
                clear x1 y0 y1 y2 y3 hP hPd hup hnx hW4 hC hb e3 et
                go_quiet (fail)
                have hJ4 := Lib.hid (hPn.out nq)
                go_wp2
                go_roundw
                case rel => exact ⟨q + 1, by rw [hb1.out], by go_num, by omega, hJ4⟩
                case measure => simp [intOf]; omega
            · have hk3 : (x.kind == 3) = false := by simpa using e3
              have hbf : b1 = false := by rw [hb]; exact decide_eq_false (fun h => e3 h.1)
              subst hbf
              clear x1 y0 y1 y2 y3 x3 hP hPd hup hnx hW4 hC hb e3
              go_quiet (fail)
              have hJ4 := Lib.hid (hPn.out nq)
              go_wp2
              go_roundw
              case rel => exact ⟨q + 1, by rw [hb1.out], by go_num, by omega, hJ4⟩
              case measure => simp [intOf]; omega
        · obtain rfl : q = j + 1 := by omega
          clear hcell hap hd0 hd0' hsy hcut2
          rw [hdE.out]
          have hgl : ¬ g < S.g := by omega
          go_wp2
          go_roundw
          case rel => exact ⟨j + 1, S2, by rw [hgE], by go_num, by omega, by omega, hJ3, hst, hls, hfs⟩
          case measure => simp [intOf]; omega
    · clear hcell
      have hcut : (n ≤ j) ∨ (j < n ∧ ¬ j < 100) := by omega
      have haw := Lib.hid (awake_any wr)
      have hbl := Lib.hid hJ.out.bel
      clear hJ hok hlm hfr hlt
      rcases hcut with h1 | ⟨h1, h2⟩
      · have hjI : ¬ (j : Int) < (n : Int) := by omega
        go_wp2_with (fail)
        with_reducible refine haw.out.mono ?_
        rintro e w2 ⟨rfl, hB2⟩
        have hfin := Lib.hid (trans0 hbl.out hB2)
        clear hB2 hbl haw
        go_wp2
        go_ret
        exact ⟨rfl, hfin.out⟩
      · have hjI : (j : Int) < (n : Int) := by omega
        have hj6 : ¬ (j : Int) < 100 := by omega
        go_wp2_with (fail)
        with_reducible refine haw.out.mono ?_
        rintro e w2 ⟨rfl, hB2⟩
        have hfin := Lib.hid (trans0 hbl.out hB2)
        clear hB2 hbl haw
        go_wp2
        go_ret
        exact ⟨rfl, hfin.out⟩
end Go.Proofs.Ytbfepdibblialaa.inB
