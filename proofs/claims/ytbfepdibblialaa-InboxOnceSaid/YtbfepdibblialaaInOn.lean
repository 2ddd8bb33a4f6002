/- InboxOnce. -/
import Derived.Test.YtbfepdibblialaaInB
import Derived.Test.YtbfepdibblialaaInH
set_option linter.unusedVariables false
set_option linter.unusedSimpArgs false
set_option maxRecDepth 100000
namespace Go.Proofs.Ytbfepdibblialaa.inOn
open Go.ChangeShapes Go.WideShapes Go.ChangeAt Go.RowKit Go.Deep
open opG opV opR chnM gen chnA chnR chnE ordA ordB ordC inM inW inL inN inP inPt inG inD inA inK inS inH

/-- between the rounds -/
def OJ (w : World) (p dm : Nat) (S : Bx) (j : Nat) (V : World) : Prop := ∃ n D, J w p S (XM dm n D) V ∧ DR S D ∧ n ≤ j
/-- within one -/
def OP (w : World) (p dm : Nat) (S : Bx) (B : Nat) (o : Oq) (n : Nat) (D : DM) (V : World) : Prop := P w p S B o (XM dm n D) V
theorem hd_next (S : Bx) (h : S.handed < S.came.length) : (nextS S).handed = S.handed + 1 ∧ (nextS S).nxt = S.nxt := by unfold nextS; rw [if_pos h]; exact ⟨rfl, rfl⟩
theorem hd_stay (S : Bx) (h : ¬ S.handed < S.came.length) : nextS S = S := if_neg h
theorem put_yes {S : Bx} {a : Int} (r : Rc) (h : a = S.nxt) : (bxS S a r).nxt = S.nxt + 1 ∧ (bxS S a r).handed = S.handed ∧ bxE S a = 0 := by
  refine ⟨?_, ?_, ?_⟩
  · unfold bxS; rw [if_pos h]; unfold Bx.nxt; simp; omega
  · unfold bxS; rw [if_pos h]
  · unfold bxE; rw [if_neg (by omega), if_neg (by omega)]
theorem put_no {S : Bx} {a : Int} (r : Rc) (h : a ≠ S.nxt) : bxS S a r = S ∧ bxE S a ≠ 0 := by
  refine ⟨if_neg h, ?_⟩
  unfold bxE
  split
  · decide
  · split
    · decide
    · omega
theorem done_same (S : Bx) (a : Int) : (doneS S a).nxt = S.nxt ∧ (doneS S a).handed = S.handed ∧ (doneS S a).first = S.first := by unfold doneS; split <;> exact ⟨rfl, rfl, rfl⟩
theorem OJ.below {w V V' : World} {p dm j : Nat} {S : Bx} (h : OJ w p dm S j V) (hB : Below V.heap.size V V') : OJ w p dm S j V' := by
  obtain ⟨n, D, h1, h2⟩ := h
  exact ⟨n, D, h1.below (st_XM _ _ _) hB, h2⟩
theorem OJ.bel {w V : World} {p dm j : Nat} {S : Bx} (h : OJ w p dm S j V) : Below w.heap.size w V := by
  obtain ⟨n, D, h1, h2⟩ := h
  exact h1.bel
set_option maxHeartbeats 8000000 in
theorem once_any (at0 : Int) (A : Option Addr) (n c : Nat) (ops : List Oq) (w : World) (h : Rs w QOp 7 A n ops) :
    Calls Try.prog 4 #[.int .i64 at0, .slice A n c] w fun e w' => e = .returned (.bool true) ∧ Below w.heap.size w w' := by
  have hn9 := h.2.1
  have hcell := Lib.hid (fun (j : Nat) (hj : j < n) => (show ∃ b off, A = some ⟨b, off, none⟩ ∧ b < w.heap.size ∧ QOp w b (off + j * 7) (nt ops j) by
    rcases h.2.2 with h0 | ⟨b, off, e, h3, h4⟩
    · omega
    · exact ⟨b, off, e, h3, h4 j hj⟩))
  obtain ⟨a1, ha1⟩ : ∃ z, min at0 1152921504606846976 = z := ⟨_, rfl⟩
  have ha6 : a1 ≤ 1152921504606846976 := by omega
  have hnew := Lib.hid (new_any a1 w)
  have hmm := @run_makeMap Try.prog
  have hJ0 : OJ w (w.heap.size + 1) (newB w a1).heap.size (B0 a1) 0 ((newB w a1).alloc (.map #[] 0)) := ⟨_, _, j_map j_new, dr_0 a1, Nat.le_refl _⟩
  obtain ⟨W1, hW1⟩ : ∃ W1, newB w a1 = W1 := ⟨_, rfl⟩
  obtain ⟨p, hp⟩ : ∃ p, w.heap.size + 1 = p := ⟨_, rfl⟩
  rw [hW1, hp] at hnew hJ0
  replace hJ0 := Lib.hid hJ0
  have hok0 := Lib.hid (ok_B0 a1)
  have hlm0 := Lib.hid (lm_B0 ha6)
  have hmx : max a1 0 = ((B0 a1).first : Int) := by simp only [B0]; omega
  have hx0 : (B0 a1).nxt = (B0 a1).first := rfl
  have hh0 : (B0 a1).handed = 0 := rfl
  generalize B0 a1 = S0 at *
  clear h hW1 hp ha6
  go_enter Try.func4, Try.ntmps4
  go_wp2_with (fail)
  with_reducible refine hnew.out.mono ?_
  rintro e w1 ⟨rfl, rfl⟩
  clear hnew ha1
  obtain ⟨ff, hff⟩ : ∃ ff, S0.first = ff := ⟨_, rfl⟩
  rw [hff] at hmx hx0
  go_wp2
  generalize w1.heap.size = dm at *
  go_loopw [7, 8, 10] (fun v u i wr => ∃ (j : Nat) (S : Bx), v = .int .i64 S.nxt ∧ u = .int .i64 (ff + S.handed) ∧ i = .int .i64 j ∧ j ≤ n ∧ j ≤ 120 ∧ Hid (OJ w p dm S j wr) ∧ Hid S.ok ∧ Hid (Lm S j) ∧ Hid (S.first = ff)) (fun _ _ i _ => n - (intOf i).toNat)
  case atStart => exact ⟨0, S0, by rw [hx0], by rw [hh0]; simp, rfl, by omega, by omega, hJ0, hok0, hlm0, Lib.hid hff⟩
  case round =>
    clear hJ0 hok0 hlm0 hx0 hh0 hmx hmm
    obtain ⟨j, S, rfl, rfl, rfl, hj, hj1, hJ, hok, hlm, hf⟩ := hrel
    by_cases hlt : j < n ∧ j < 120
    · obtain ⟨hlt, h100⟩ := hlt
      obtain ⟨pb, po, rfl, hpb, ⟨o0, o1, o2, o3⟩, hko⟩ := hcell.out j hlt
      obtain ⟨nd, D, hJ, hdr, hnd⟩ := hJ.out
      have hjI : (j : Int) < (n : Int) := by omega
      have hj6 : (j : Int) < 120 := by omega
      have o0 := keep_cell hJ.bel o0
      have o1 := keep_cell hJ.bel o1
      obtain ⟨q0, q1, q2, q3⟩ := R4.step o2 hJ.bel (Nat.le_refl _)
      have o3 := keep_cell hJ.bel o3
      have hst := Lib.hid (stO_ok (o := nt ops j) hok.out hko.2.2.2.1)
      have hls := Lib.hid (stO_lm (o := nt ops j) hlm.out)
      have hfs : Hid ((stO S (nt ops j)).first = ff) := Lib.hid (stO_first.trans hf.out)
      have hP := Lib.hid (hJ.opn (st_XM _ _ _) (nt ops j))
      obtain ⟨W2, hW2⟩ : ∃ W2, wr.alloc (.cells (oC (nt ops j)) 32) = W2 := ⟨_, rfl⟩
      obtain ⟨B, hB⟩ : ∃ B, wr.heap.size = B := ⟨_, rfl⟩
      rw [hW2, hB] at hP
      generalize nt ops j = o at *
      replace hW2 := Lib.hid hW2
      replace hB := Lib.hid hB
      have hdrh := Lib.hid hdr
      clear hJ hdr
      go_upto_block 2 with (fail)
      rw [hW2.out, hB.out]
      clear o0 o1 o2 o3 q0 q1 q2 q3
      go_cut [7, 8, 12, 13, 14, 15, 16] from 45 to 119 (fun v u _ _ _ _ _ wx => v = .int .i64 (stO S o).nxt ∧ u = .int .i64 (ff + (stO S o).handed) ∧ Hid (OJ w p dm (stO S o) (j + 1) wx))
      case first =>
        obtain ⟨hkk, ⟨ha1, ha2⟩, hkm, ⟨ht1, ht2⟩⟩ := hko
        have hcm := hkm.2.2.2.1.le
        have htm := hkm.2.2.2.1.top
        have hHV := Lib.hid (fun w' (hB : Below w.heap.size w w') => HV.few (hkm.2.2.2.1.below hB))
        have hSm : Hid (Sm (fw o.m).vs) := Lib.hid (fun v hv => hkm.2.2.2.2 v (List.mem_of_mem_take hv))
        have hfe := Lib.hid (fun w' => few_any o.m w' hcm htm)
        have hb1 := hlm.out.f
        have hb2 := hlm.out.c
        have hb3 := hok.out.hd
        have hnx : S.nxt ≤ 1152921504606847976 := by unfold Bx.nxt; omega
        have hhx : ff + S.handed ≤ 1152921504606847976 := by rw [← hf.out]; omega
        have hlh : ff + S.handed ≤ S.nxt := by rw [← hf.out]; unfold Bx.nxt; omega
        have hlh2 : Hid ((ff + S.handed < S.nxt) ↔ S.handed < S.came.length) := Lib.hid (by rw [← hf.out]; unfold Bx.nxt; omega)
        clear hcm htm hkm hkk hst hls hfs hW2 hB hcell
        rcases five_ways o.kind with e | e | e | e | ⟨e0, e1, e2, e3⟩
        · have hse : stO S o = bxS S o.at0 (fw o.m).r := (stO_not (by omega)).trans (step0 e)
          have hkb : (o.kind == 0) = true := by simpa using e
          have hPd := Lib.hid (hP.out.below (st_XM _ _ _) (below_drew W2))
          have s0 := Lib.hid hPd.out.b7
          obtain ⟨k0, k1, k2, k3⟩ := hP.out.b7
          have hdr2 := Lib.hid (dr_put (at0 := o.at0) hdrh.out (fw o.m).r)
          obtain ⟨E, hE⟩ : ∃ E, bxE S o.at0 = E := ⟨_, rfl⟩
          obtain ⟨S', hS'⟩ : ∃ S', bxS S o.at0 (fw o.m).r = S' := ⟨_, rfl⟩
          have hway : (o.at0 = S.nxt ∧ S'.nxt = S.nxt + 1 ∧ S'.handed = S.handed ∧ E = 0) ∨ (o.at0 ≠ S.nxt ∧ S'.nxt = S.nxt ∧ S'.handed = S.handed ∧ E ≠ 0) := by
            by_cases h : o.at0 = S.nxt
            · obtain ⟨h1, h2, h3⟩ := put_yes (fw o.m).r h
              exact .inl ⟨h, by rw [← hS']; exact h1, by rw [← hS']; exact h2, by rw [← hE]; exact h3⟩
            · obtain ⟨h1, h2⟩ := put_no (fw o.m).r h
              exact .inr ⟨h, by rw [← hS', h1], by rw [← hS', h1], by rw [← hE]; exact h2⟩
          have hput := Lib.hid (fun V (hx : P w p S B o (XM dm nd D) V) => hx.put (st_XM _ _ _) hok.out (hlm.out.lim (by omega)) o.at0 (fw o.m) (hHV.out _ hx.bel) hSm.out)
          rw [hS'] at hse hdr2 hput
          rw [hE] at hput
          replace hse := Lib.hid hse
          have ew : IntKind.i64.wrap ((S.nxt : Int) + 1) = (S.nxt : Int) + 1 := wrap_in _ (by omega) (by omega)
          clear e k1 k2 k3 hS' hE
          go_upto_region 14 with (fail)
          go_region_held3 (fun w' => B7 B o w')
            (first | with_reducible exact s0.out | with_reducible exact s1.out | with_reducible exact s2.out | fail)
            (first
              | (go_at_call 10; ((with_reducible refine (hd2.out).mono ?_); rintro e w12 ⟨rfl, hP12⟩; have s2 := Lib.hid hP12.b7; replace hP12 := Lib.hid hP12))
              | (go_at_call 11; ((with_reducible refine (hfe.out _).mono ?_); rintro e w11 ⟨rfl, hB11⟩; have hP11 := hPd.out.below (st_XM _ _ _) hB11; have s1 := Lib.hid hP11.b7; have hd2 := Lib.hid (hput.out _ hP11); clear hP11 hB11))
              | fail)
          all_goals
            have hcut := Lib.hid (show OJ w p dm S' (j + 1) w12 from ⟨nd, D, hP12.out.j, hdr2.out, by omega⟩)
            obtain ⟨k0, k1, k2, k3⟩ := hP12.out.b7
            clear s0 s1 s2 hd2 hPd hP hput k2 k3 hP12 hdr2
            rcases hway with ⟨h1, h2, h3, h4⟩ | ⟨h1, h2, h3, h4⟩
            · have hx1 : (E == 0) = true := by simpa using h4
              have hx2 : (o.at0 == (S.nxt : Int)) = true := by simpa using h1
              go_wp2
              go_meet
              exact ⟨by rw [hse.out, h2]; simp, by rw [hse.out, h3], by rw [hse.out]; exact hcut⟩
            · have hx1 : (E == 0) = false := by simpa using h4
              have hx2 : (o.at0 == (S.nxt : Int)) = false := by simpa using h1
              go_wp2
              go_meet
              exact ⟨by rw [hse.out, h2], by rw [hse.out, h3], by rw [hse.out]; exact hcut⟩
        · have hse : stO S o = nextS S := (stO_not (by omega)).trans (step1 e)
          have hk0 : (o.kind == 0) = false := by simp; omega
          have hk1 : (o.kind == 1) = true := by simpa using e
          obtain ⟨k0, k1, k2, k3⟩ := hP.out.b7
          have hdr2 := Lib.hid (dr_next hdrh.out)
          have hct := Lib.hid (hP.out.next (st_XM _ _ _) hok.out (hlm.out.lim (by omega)))
          replace hse := Lib.hid hse
          by_cases ht : S.handed < S.came.length
          · have hth : isThere S = true := decide_eq_true ht
            have hnp : nxP S = (ff : Int) + S.handed := by unfold nxP; rw [if_pos ht, hf.out]; omega
            rw [hth, hnp] at hct
            obtain ⟨g1, g2⟩ := hd_next S ht
            have hs2 := Lib.hid (show (nextS S).handed = S.handed + 1 ∧ (nextS S).nxt = S.nxt from ⟨g1, g2⟩)
            generalize nextS S = S' at *
            have hlt2 : (ff : Int) + (S.handed : Int) < (S.nxt : Int) := by have := hlh2.out.2 ht; omega
            have ew : IntKind.i64.wrap ((ff : Int) + (S.handed : Int) + 1) = (ff : Int) + (S.handed : Int) + 1 := wrap_in _ (by omega) (by omega)
            clear e hP hfe hth hnp g1 g2 ht
            go_wp2_with (fail)
            with_reducible refine hct.out.mono ?_
            rintro e w12 ⟨m, rfl, hO, hPe⟩
            have hcut := Lib.hid (show OJ w p dm S' (j + 1) w12 from ⟨nd, D, hPe.j, hdr2.out, by omega⟩)
            clear k0 k1 k2 k3 hct hPe hO
            go_wp2
            go_meet
            exact ⟨by rw [hse.out, hs2.out.2], by rw [hse.out, hs2.out.1]; simp; omega, by rw [hse.out]; exact Lib.hid (hcut.out.below (al0 _ _))⟩
          · have hth : isThere S = false := decide_eq_false ht
            have hns := hd_stay S ht
            rw [hth] at hct
            rw [hns] at hct hse hdr2
            obtain ⟨np, hnp⟩ : ∃ z, nxP S = z := ⟨_, rfl⟩
            rw [hnp] at hct
            have hlt2 : ¬ (ff : Int) + (S.handed : Int) < (S.nxt : Int) := by intro h; exact ht (hlh2.out.1 (by omega))
            clear e hP hfe hth hnp ht hns
            go_wp2_with (fail)
            with_reducible refine hct.out.mono ?_
            rintro e w12 ⟨m, rfl, hO, hPe⟩
            have hcut := Lib.hid (show OJ w p dm S (j + 1) w12 from ⟨nd, D, hPe.j, hdr2.out, by omega⟩)
            clear k0 k1 k2 k3 hct hPe hO
            go_wp2
            go_meet
            exact ⟨by rw [hse.out], by rw [hse.out], by rw [hse.out]; exact Lib.hid (hcut.out.below (al0 _ _))⟩
        · have hse : stO S o = doneS S o.at0 := (stO_not (by omega)).trans (step2 e)
          have hk0 : (o.kind == 0) = false := by simp; omega
          have hk1 : (o.kind == 1) = false := by simp; omega
          have hk2 : (o.kind == 2) = true := by simpa using e
          obtain ⟨k0, k1, k2, k3⟩ := hP.out.b7
          have hct := Lib.hid (hP.out.done (st_XM _ _ _) hok.out (hlm.out.lim (by omega)) o.at0 ha1 ha2)
          have hsm := Lib.hid (done_same S o.at0)
          have hD0 := (p_mp hP.out).isMap
          cases hcd : canDo S o.at0 with
          | true =>
            have hE : doneE S o.at0 = 0 := if_pos hcd
            rw [hE] at hct
            obtain ⟨y1, y2, y3⟩ := dr_yes hdrh.out hcd
            have hdr2 := Lib.hid (dr_done hdrh.out hD0 hok.out hcd)
            rw [hf.out] at y1 y2
            generalize doneS S o.at0 = S' at *
            replace hse := Lib.hid hse
            clear e hfe hE hcd hD0
            go_wp2_with (fail)
            with_reducible refine hct.out.mono ?_
            rintro e w12 ⟨rfl, hPe⟩
            have hlk := mb_look (p_mp hPe) ha1 ha2
            rw [y3] at hlk
            obtain ⟨w13, hup, hm13, hg13⟩ := mb_store (p_mp hPe) ha1 ha2 (by omega)
            have hP13 := p_store hPe hg13 hm13
            have hcut := Lib.hid (show OJ w p dm S' (j + 1) w13 from ⟨nd + 1, _, hP13.j, hdr2.out, by omega⟩)
            clear k0 k1 k2 k3 hct hP
            obtain ⟨k0, k1, k2, k3⟩ := hPe.b7
            clear hPe hP13 hm13 hg13 hdr2 hdrh
            go_wp2
            go_meet
            exact ⟨by rw [hse.out, hsm.out.1], by rw [hse.out, hsm.out.2.1], by rw [hse.out]; exact hcut⟩
          | false =>
            have hE : doneE S o.at0 = 7 := if_neg (by rw [hcd]; simp)
            have hS : doneS S o.at0 = S := if_neg (by rw [hcd]; simp)
            rw [hE, hS] at hct
            rw [hS] at hse
            have hway := dr_not hdrh.out hok.out hcd
            rw [hf.out] at hway
            replace hse := Lib.hid hse
            clear e hfe hE hS hcd hD0 hsm
            go_wp2_with (fail)
            with_reducible refine hct.out.mono ?_
            rintro e w12 ⟨rfl, hPe⟩
            have hlk := mb_look (p_mp hPe) ha1 ha2
            have hcut := Lib.hid (show OJ w p dm S (j + 1) w12 from ⟨nd, D, hPe.j, hdrh.out, by omega⟩)
            clear k0 k1 k2 k3 hct hP
            obtain ⟨k0, k1, k2, k3⟩ := hPe.b7
            clear hPe hdrh
            rcases hway with y1 | ⟨y1, y2⟩ | ⟨y1, y2, y3⟩
            · have z1 : ¬ (ff : Int) ≤ o.at0 := by omega
              clear hlk
              go_wp2
              go_meet
              exact ⟨by rw [hse.out], by rw [hse.out], by rw [hse.out]; exact hcut⟩
            · have z2 : ¬ o.at0 < (ff : Int) + (S.handed : Int) := by omega
              clear hlk
              go_wp2
              go_meet
              exact ⟨by rw [hse.out], by rw [hse.out], by rw [hse.out]; exact hcut⟩
            · rw [y3] at hlk
              go_wp2
              go_meet
              exact ⟨by rw [hse.out], by rw [hse.out], by rw [hse.out]; exact hcut⟩
        · have hse : stO S o = S := stO_three e
          have hk0 : (o.kind == 0) = false := by simp; omega
          have hk1 : (o.kind == 1) = false := by simp; omega
          have hk2 : (o.kind == 2) = false := by simp; omega
          have hcut := Lib.hid (show OJ w p dm S (j + 1) W2 from ⟨nd, D, hP.out.j, hdrh.out, by omega⟩)
          replace hse := Lib.hid hse
          clear e hfe hP hdrh
          go_wp2
          go_meet
          exact ⟨by rw [hse.out], by rw [hse.out], by rw [hse.out]; exact hcut⟩
        · have hse : stO S o = S := (stO_not e3).trans (step4 e0 e1 e2 e3)
          have hk0 : (o.kind == 0) = false := by simpa using e0
          have hk1 : (o.kind == 1) = false := by simpa using e1
          have hk2 : (o.kind == 2) = false := by simpa using e2
          have hcut := Lib.hid (show OJ w p dm S (j + 1) W2 from ⟨nd, D, hP.out.j, hdrh.out, by omega⟩)
          replace hse := Lib.hid hse
          clear e0 e1 e2 e3 hfe hP hdrh
          go_wp2
          go_meet
          exact ⟨by rw [hse.out], by rw [hse.out], by rw [hse.out]; exact hcut⟩
      case rest =>
      obtain ⟨rfl, rfl, hcut⟩ := hcut
      obtain ⟨n2, D2, hJ2, hdr2, hn2⟩ := hcut.out
      have hap := Lib.hid hJ2.applied
      have hapE : ((stO S o).ap : Int) = (ff : Int) + (lead (stO S o).done : Nat) := by unfold Bx.ap; rw [hfs.out]; omega
      rw [hapE] at hap
      have hlk := Lib.hid (fun q : Nat => fun (hq : q ≤ lead (stO S o).done) => mb_look (k := (ff : Int) + q) (j_mp hJ2) (by omega) (by have := hls.out.f; have := hls.out.c; have := lead_le (stO S o).done; have := hst.out.len; rw [hfs.out] at *; omega))
      have hin := Lib.hid (fun q : Nat => fun (hq : q < lead (stO S o).done) => dr_in hdr2 hq)
      have hout := Lib.hid (dr_out hdr2)
      rw [hfs.out] at hin hout
      have hL9 : ff + lead (stO S o).done ≤ 1152921504606847976 := by have := hls.out.f; have := hls.out.c; have := lead_le (stO S o).done; have := hst.out.len; rw [hfs.out] at *; omega
      generalize stO S o = S2 at *
      generalize hldE : lead S2.done = ld at *
      replace hldE := Lib.hid hldE
      clear hJ2 hdr2 hapE hP hW2 hB hko hdrh
      go_wp2
      generalize wc = wc0 at *
      go_loopw [17] (fun a wq => ∃ q : Nat, a = .int .i64 ((ff : Int) + q) ∧ q ≤ ld ∧ wq = wc0) (fun a _ => ld + ff - (intOf a).toNat)
      case atStart => exact ⟨0, by simp, by omega, rfl⟩
      case round =>
        obtain ⟨q, rfl, hq, rfl⟩ := hrel
        have hl1 := hlk.out q hq
        by_cases hql : q < ld
        · rw [hin.out q hql] at hl1
          have ew : IntKind.i64.wrap ((ff : Int) + (q : Int) + 1) = (ff : Int) + (q : Int) + 1 := wrap_in _ (by omega) (by omega)
          go_wp2
          go_roundw
          case rel => exact ⟨q + 1, by first | (congr 1; done) | (congr 1; omega), by omega, by first | rfl | trivial⟩
          case measure => simp [intOf]; omega
        · obtain rfl : q = ld := by omega
          rw [hout.out] at hl1
          clear hlk hin hout
          go_wp2_with (fail)
          with_reducible refine hap.out.mono ?_
          rintro e w5 ⟨rfl, rfl⟩
          clear hap hl1
          go_wp2
          exact ⟨⟨j + 1, S2, rfl, rfl, by simp, by omega, by omega, hcut, hst, hls, hfs⟩, by simp [intOf]; omega⟩
    · clear hcell
      have hcut : (n ≤ j) ∨ (j < n ∧ ¬ j < 120) := by omega
      have haw := Lib.hid (awake_any wr)
      have hbl := Lib.hid hJ.out.bel
      clear hJ hok hlm hf hlt
      rcases hcut with h1 | ⟨h1, h2⟩
      · have hjI : ¬ (j : Int) < (n : Int) := by omega
        go_wp2_with (fail)
        with_reducible refine haw.out.mono ?_
        rintro e w2 ⟨rfl, hB2⟩
        have hfin := Lib.hid (trans0 hbl.out hB2)
        clear hB2 hbl haw
        go_wp2
        go_ret
        exact ⟨rfl, hfin.out⟩
      · have hjI : (j : Int) < (n : Int) := by omega
        have hj6 : ¬ (j : Int) < 120 := by omega
        go_wp2_with (fail)
        with_reducible refine haw.out.mono ?_
        rintro e w2 ⟨rfl, hB2⟩
        have hfin := Lib.hid (trans0 hbl.out hB2)
        clear hB2 hbl haw
        go_wp2
        go_ret
        exact ⟨rfl, hfin.out⟩
end Go.Proofs.Ytbfepdibblialaa.inOn
