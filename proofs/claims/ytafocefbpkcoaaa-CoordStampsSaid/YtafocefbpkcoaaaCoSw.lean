/- CoordStamps: a transaction's stamp is above its time, not below any vote, and one of them. -/
import Derived.Test.YtafocefbpkcoaaaCoSt
import Derived.Test.YtafocefbpkcoaaaCoZ
set_option linter.unusedVariables false
set_option linter.unusedSimpArgs false
set_option maxRecDepth 100000
namespace Go.Proofs.Ytafocefbpkcoaaa.coSw
open Go.ChangeShapes Go.WideShapes Go.ChangeAt Go.RowKit Go.Deep
open opG opV chnM gen chnA chnR chnE ordA ordC coG coO coM coP coL coN coB coK coV coE coF coW coT coA coJ coZ coSt

section
variable {w V : World} {X Y Z T : Wh}
theorem j_sw3 (h : J w (X2 X (X2 Y (X2 Z T))) V) : J w (X2 X (X2 Z (X2 Y T))) V := by
  obtain ⟨col, a, b, c, d, e⟩ := h
  exact ⟨col, a, b, d, c, e⟩
theorem j_dr (h : J w (X2 X (X2 Y (X2 Z T))) V) : J w (X2 X (X2 Y T)) V := by
  obtain ⟨col, a, b, c, d, e⟩ := h
  exact ⟨col, a, b, c, e⟩
end
set_option maxHeartbeats 8000000 in
theorem stamps_any (low : Int) (A : Option Addr) (c : Nat) (rs : List SR) (As : Option Addr) (n cs : Nat) (l : List Oq) (w : World) (l0 : 0 ≤ low) (l1 : low < 18446744073709551616) (hr : Rd shS w A c rs) (hk : ∀ r ∈ rs, kSh w r) (h : Rs w QOp 7 As n l) (hc : n ≤ cs) (hc9 : cs ≤ 9223372036854775807) :
    Calls Try.prog 4 #[.int .u64 low, .slice A rs.length c, .slice As n cs] w fun e w' => e = .returned (.bool true) ∧ Below w.heap.size w w' := by
  have hcell := Lib.hid (rs_at h)
  have hnew := Lib.hid (new_any w)
  have hJ0 := j_new w
  obtain ⟨W1, hW1⟩ : ∃ W1, newS w = W1 := ⟨_, rfl⟩
  obtain ⟨t, ht⟩ : ∃ t, w.heap.size + 1 = t := ⟨_, rfl⟩
  rw [hW1, ht] at hnew hJ0
  have hbW := hJ0.bel
  have hfew := Lib.hid (few_any W1 A c rs (hr.step hbW (Nat.le_refl _)) (fun r hx => ⟨(hk r hx).1, (hk r hx).2.1.step hbW (Nat.le_refl _), (hk r hx).2.2⟩))
  have hks := Lib.hid (fun V (hB : Below w.heap.size w V) => (fun r hr => (by
    obtain ⟨h1, h2⟩ := kSh_fw hk r hr
    exact ⟨h1.1, h1.2.1.step hB (Nat.le_refl _), h1.2.2⟩) : ∀ r ∈ fwR rs, kSh V r))
  have hsv := Lib.hid (fwR_sv rs)
  have hrl := fwR_len rs
  have hss : Hid (stE [] 9 ((fwR rs).map SR.s) = 0 → SI low (fwR rs).length (stS [] 9 low ((fwR rs).map SR.s)) [] false false) := Lib.hid fun he => by
    have := si_start l0 (sh := (fwR rs).map SR.s) (by rw [List.length_map]; exact hrl) hsv.out he
    rwa [List.length_map] at this
  have hs0 : Hid (¬ stE [] 9 ((fwR rs).map SR.s) = 0 → stS [] 9 low ((fwR rs).map SR.s) = []) := Lib.hid fun he => by unfold stS; rw [if_neg he]
  replace hJ0 := Lib.hid hJ0
  clear h hW1 ht hbW hr hk
  generalize fwR rs = RS at *
  generalize hRL : RS.length = RL at *
  go_enter Try.func4, Try.ntmps4
  go_wp2_with (fail)
  with_reducible refine hnew.out.mono ?_
  rintro e w1 ⟨rfl, rfl⟩
  clear hnew
  go_wp2_with (fail)
  with_reducible refine hfew.out.mono ?_
  rintro e w2 ⟨Af, cf, rfl, hG2, hB2⟩
  have hJ2 : J w (X2 (XS t []) (X2 (XR Af cf RS) XT)) w2 := by
    obtain ⟨col, a, b, d, f⟩ := j_row hJ0.out (st9 (st_XT 9)) hG2 hB2
    exact ⟨col, a, d, b, f⟩
  have hrd2 : Rd shS w2 Af cf RS := by obtain ⟨col, a, b, d, f⟩ := hJ2; exact d.1
  have hst := Lib.hid (j_start hJ2 (st_X2 (st_XR (by decide)) (st_XT 1)) (by simp) (tx := 9) (low := low) (by decide) (by decide) Af cf RS hrd2 (by omega) (hks.out _ hJ2.bel))
  rw [hRL] at hst
  clear hfew hG2 hB2 hJ0 hJ2 hrd2 hks hsv
  go_wp2_with (fail)
  with_reducible refine hst.out.mono ?_
  rintro e w3 ⟨rfl, hJ3⟩
  replace hJ3 := j_unbx hJ3
  clear hst
  by_cases he : stE [] 9 (RS.map SR.s) = 0
  · have hSI := Lib.hid (hss.out he)
    rw [he]
    have hJ4 := j_map hJ3 (st9 (st_XT 9))
    generalize stS [] 9 low (RS.map SR.s) = S at *
    obtain ⟨W4, hW4⟩ : ∃ W4, w3.alloc (.map #[] 0) = W4 := ⟨_, rfl⟩
    obtain ⟨mb, hmb⟩ : ∃ b, w3.heap.size = b := ⟨_, rfl⟩
    have hmm := @run_makeMap Try.prog
    rw [hW4, hmb] at hJ4
    replace hJ4 : J w (X2 (XS t S) (X2 (XM mb []) XT)) W4 := by
      obtain ⟨col, a, ⟨b, d⟩, f⟩ := hJ4
      exact ⟨col, a, b, f, d⟩
    replace hJ4 := Lib.hid hJ4
    replace hW4 := Lib.hid hW4
    replace hmb := Lib.hid hmb
    clear hss hs0 he hJ3 hRL
    go_upto_region 8 with (fail)
    rw [hW4.out, hmb.out]
    clear hW4 hmb hmm
    go_wp2
    go_loopw [12, 10, 11] (fun i d g wr => ∃ (j : Nat) (os : Ens) (pl : PL) (db gb : Bool), i = .int .i64 j ∧ d = .bool db ∧ g = .bool gb ∧ j ≤ n ∧ j ≤ 80 ∧ Hid (J w (X2 (XS t os) (X2 (XM mb pl) XT)) wr) ∧ Hid (SI low RL os pl db gb)) (fun i _ _ _ => n - (intOf i).toNat)
    case atStart => exact ⟨0, S, [], false, false, rfl, rfl, rfl, by omega, by omega, hJ4, hSI⟩
    case round =>
      clear hJ4 hSI
      obtain ⟨j, os, pl, db, gb, rfl, rfl, rfl, hj, hj1, hJ, hI⟩ := hrel
      by_cases hlt : j < n ∧ j < 80
      · obtain ⟨hlt, h80⟩ := hlt
        obtain ⟨pb, po, rfl, hpb, hO, hko⟩ := hcell.out j hlt
        have hjI : (j : Int) < (n : Int) := by omega
        have hj6 : (j : Int) < 80 := by omega
        obtain ⟨o0, o1, o2, o3, o4, o5, o6⟩ := o7_step hO hJ.out.bel (Nat.le_refl _)
        have hJ3 := j_bx hJ.out (st9 (st_X2 (st_XM (by decide)) (st_XT 9))) (nt l j)
        generalize nt l j = o at *
        obtain ⟨W3, hW3⟩ : ∃ W3, wr.alloc (.cells (cO o) 32) = W3 := ⟨_, rfl⟩
        obtain ⟨B, hB⟩ : ∃ B, wr.heap.size = B := ⟨_, rfl⟩
        rw [hW3, hB] at hJ3
        have hO3 := j_o7 hJ3
        have n0 := hko.n0
        have n1 := hko.n1
        have t0 := hko.t0
        have t1 := hko.t1
        have hsz := hI.out.sz
        replace hJ3 := Lib.hid hJ3
        replace hW3 := Lib.hid hW3
        replace hB := Lib.hid hB
        clear hcell hO hJ hko hpb
        go_upto_region 13 with (fail)
        rw [hW3.out, hB.out]
        clear o0 o1 o2 o3 o4 o5 o6 hW3 hB
        obtain ⟨o0, o1, o2, o3, o4, o5, o6⟩ := hO3
        by_cases e : o.kind = 1
        · have hk0 : (o.kind == 1) = true := by simpa using e
          have hc1 := Lib.hid (j_vote hJ3.out (st_X2 (st_XB (by decide)) (st_X2 (st_XM (by decide)) (st_XT 1))) hI.out.ok (tx := 9) (n := o.node) (tt := o.t) (by decide) (by decide) n0 n1 t0 t1)
          clear e hJ3
          go_wp2_with (fail)
          with_reducible refine hc1.out.mono ?_
          rintro e w4 ⟨rfl, hJ4⟩
          clear hc1
          clear o0 o1 o2 o3 o4 o5 o6
          obtain ⟨o0, o1, o2, o3, o4, o5, o6⟩ := j_o7 hJ4
          by_cases he : voE os 9 o.node o.t = 0
          · obtain ⟨hf0, rfl, hlow, rfl, hI2, hB0, hB1⟩ := si_vote hI.out t0 t1 he
            have hlk := jm_look (j_sw3 hJ4) n0 n1
            rw [hf0] at hlk
            simp only [Option.getD_none, Option.isSome_none] at hlk
            obtain ⟨w5, hu, hJ5⟩ := jm_store (j_sw3 hJ4) (st_XS (by decide) (by decide)) (st_X2 (st_XB (by decide)) (st_XT 3)) hsz n0 n1 (.int .u64 o.t)
            have hln5 := fun ty => jm_len hJ5 ty
            have hlI : ¬ o.t ≤ low := by omega
            rw [he]
            replace hJ5 := Lib.hid hJ5
            replace hI2 := Lib.hid hI2
            replace hB0 := Lib.hid hB0
            replace hB1 := Lib.hid hB1
            generalize voS os 9 o.node o.t = S2 at *
            generalize voB os 9 o.node o.t = bb at *
            generalize voT os 9 o.node o.t = T at *
            generalize pup pl o.node (.int .u64 o.t) = P2 at *
            clear he hI hJ4 hf0 hlow hsz
            cases bb with
            | false =>
              obtain ⟨rfl, hlen⟩ := hB0.out rfl
              have hlnI : ((P2.length : Int) == (RL : Int)) = false := by rw [beq_eq_false_iff_ne]; omega
              have hJ6 := Lib.hid (j_dr hJ5.out)
              clear hB0 hB1 hJ5 hlen
              generalize P2.length = PL' at *
              go_wp2
              go_roundw
              case rel => exact ⟨j + 1, S2, P2, false, false, by go_num, rfl, rfl, by omega, by omega, hJ6, hI2⟩
              case measure => simp [intOf]; omega
            | true =>
              obtain ⟨hPl, hlT, hmx, hT0, hvals⟩ := hB1.out rfl
              obtain ⟨D, hmD, hcD⟩ := jm_map hJ5.out
              have hgo := Lib.hid (fun w0 (hrg : w0.ranges Try.prog 3 hV mb w5.heap.size P2.length D (Maps.has D) (Maps.size D)) (hg : w5.grownBy w0 none) => GS.start hcD hrg hg)
              have hmp := Lib.hid hmD
              replace hcD := Lib.hid hcD
              replace hmx := Lib.hid hmx
              replace hvals := Lib.hid hvals
              replace hPl := Lib.hid hPl
              clear hB0 hB1 hmD hln5
              go_wp2_with (at_range; refine wpList_range_own _ rfl _ coSt.TV rfl 3 29 (Maps.int_keyed Try.underlying3) Try.underlying52 _ mb P2.length D rfl hmp.out ?_; intro w0 hrg0 hg0 hs0)
              have hG0 := Lib.hid (hgo.out _ hrg0 hg0)
              clear hrg0 hg0 hs0 hgo hmp hu hlk o0 o1 o2 o3 o4 o5 o6
              go_frame
              generalize w5.heap.size = r at *
              go_loopw [19] (fun s wx => ∃ (left : Lit → Bool) (cnt : Nat) (sv : Int), s = .int .u64 sv ∧ sv ≤ T ∧ Hid (GS w5 mb r P2 D left cnt sv wx)) (fun _ wx => wx.rangeLeft mb r)
              case atStart => exact ⟨_, _, 0, rfl, hT0, hG0⟩
              case round =>
                obtain ⟨left, cnt, sv, rfl, hsT, hG⟩ := hrel
                go_wp2_with (at_next; refine wpList_next_hv rfl _ rfl Try.underlying3 r _ _ rfl hG.out.rg ?_ ?_)
                · intro _ hl0
                  obtain rfl : sv = T := hmx.out sv hG.out.s0 hsT (fun k z hk => hG.out.sn.done hl0 k _ hk z rfl)
                  have hJ9 := hJ5.out.below (st9 (st_X2 (st_XM (by decide)) (st_X2 (st_XB (by decide)) (st_XT 9)))) hG.out.bel
                  have hln9 := fun ty => jm_len hJ9 ty
                  rw [hPl.out] at hln9
                  have hJ6 := Lib.hid (j_dr hJ9)
                  have hl1I : ((RL : Int) != (RL : Int)) = false := by simp
                  have hl2I : ((sv : Int) != sv) = false := by simp
                  have hl3I : ¬ sv ≤ low := by omega
                  clear hG hG0 hl0 hJ9 hJ5 hmx hvals hPl hcD
                  go_wp2
                  go_roundw
                  case rel => exact ⟨j + 1, S2, P2, true, false, by go_num, rfl, rfl, by omega, by omega, hJ6, hI2⟩
                  case measure => simp [intOf]; omega
                · intro k v w1 cnt1 hat hrg1 hlt1 hg1 hs1 hen
                  have hfk := cr_was hcD.out hat
                  obtain ⟨z, rfl, z0, z1, zT⟩ := hvals.out _ _ hfk
                  have hms := Lib.hid (show w1.rangeLeft mb r < wr.rangeLeft mb r from by rw [hrg1.left_eq, hG.out.rg.left_eq]; omega)
                  have hG1 := Lib.hid (hG.out.step hg1 hrg1 hfk)
                  clear hG hG0 hat hrg1 hg1 hfk
                  have hm2 : max sv z ≤ T := by omega
                  clear hmx hvals hcD hJ5 hI2 hPl
                  go_wp2
                  go_roundw
                  case rel => exact ⟨_, _, _, rfl, hm2, hG1⟩
                  case measure => exact hms.out
          · obtain ⟨hS, hB, hT⟩ := si_not hI.out he
            rw [hS] at hJ4
            rw [hB, hT]
            have hJ6 := Lib.hid (j_unbx hJ4)
            have heI : (voE os 9 o.node o.t == 0) = false := by simpa using he
            generalize voE os 9 o.node o.t = E at *
            clear he hJ4 hS hB hT
            go_wp2
            go_roundw
            case rel => exact ⟨j + 1, os, pl, db, gb, by go_num, rfl, rfl, by omega, by omega, hJ6, hI⟩
            case measure => simp [intOf]; omega
        · have hk0 : (o.kind == 1) = false := by simpa using e
          have hc1 := Lib.hid (j_end hJ3.out (st_X2 (st_XB (by decide)) (st_X2 (st_XM (by decide)) (st_XT 1))) hI.out.ok (tx := 9) (n := o.node) (by decide) (by decide) n0 n1)
          obtain ⟨hI2, hE, hBB⟩ := si_end (m := o.node) hI.out
          replace hI2 := Lib.hid hI2
          clear e hJ3 hI
          go_wp2_with (fail)
          with_reducible refine hc1.out.mono ?_
          rintro e w4 ⟨rfl, hJ4⟩
          clear hc1
          clear o0 o1 o2 o3 o4 o5 o6
          have hln := Lib.hid (j_len hJ4)
          have hJ6 := Lib.hid (j_unbx hJ4)
          generalize enS os 9 o.node = S2 at *
          generalize enE os 9 o.node = E at *
          generalize enB os 9 o.node = bb at *
          clear hJ4
          cases bb with
          | true =>
            obtain ⟨rfl, hl0, rfl⟩ := hBB rfl
            obtain rfl := hE rfl
            rw [hl0] at hln
            clear hBB hE hl0
            go_wp2_with (fail)
            with_reducible refine hln.out.mono ?_
            rintro e w5 ⟨rfl, rfl⟩
            clear hln
            go_wp2
            go_roundw
            case rel => exact ⟨j + 1, S2, pl, true, true, by go_num, rfl, rfl, by omega, by omega, hJ6, hI2⟩
            case measure => simp [intOf]; omega
          | false =>
            clear hBB hln
            rw [Bool.or_false] at hI2
            by_cases he : E = 0
            · obtain rfl := hE he
              subst he
              clear hE
              cases gb <;>
              · go_wp2
                go_roundw
                case rel => exact ⟨j + 1, S2, pl, true, _, by go_num, rfl, rfl, by omega, by omega, hJ6, hI2⟩
                case measure => simp [intOf]; omega
            · have heI : (E == 0) = false := by simpa using he
              clear hE he
              cases gb <;>
              · go_wp2
                go_roundw
                case rel => exact ⟨j + 1, S2, pl, db, _, by go_num, rfl, rfl, by omega, by omega, hJ6, hI2⟩
                case measure => simp [intOf]; omega
      · clear hcell
        have hcut : (n ≤ j) ∨ (j < n ∧ ¬ j < 80) := by omega
        have haw := Lib.hid (awake_any wr)
        have hbl := Lib.hid hJ.out.bel
        have hln := Lib.hid (fun V (hB : Below wr.heap.size wr V) => (j_len (hJ.out.below (st9 (st_X2 (st_XM (by decide)) (st_XT 9))) hB)))
        have hdn := si_done hI.out
        generalize (os.length : Int) = OL at *
        clear hJ hI hlt
        rcases hcut with h1 | ⟨h1, h2⟩
        · have hjI : ¬ (j : Int) < (n : Int) := by omega
          go_wp2_with (fail)
          with_reducible refine haw.out.mono ?_
          rintro e w5 ⟨rfl, hB5⟩
          have hl5 := Lib.hid (hln.out _ hB5)
          have hfin := Lib.hid (trans0 hbl.out hB5)
          clear hB5 hbl haw hln
          go_wp2_with (fail)
          with_reducible refine hl5.out.mono ?_
          rintro e w6 ⟨rfl, rfl⟩
          clear hl5
          go_wp2
          go_ret
          exact ⟨rfl, hfin.out⟩
        · have hjI : (j : Int) < (n : Int) := by omega
          have hj6 : ¬ (j : Int) < 80 := by omega
          go_wp2_with (fail)
          with_reducible refine haw.out.mono ?_
          rintro e w5 ⟨rfl, hB5⟩
          have hl5 := Lib.hid (hln.out _ hB5)
          have hfin := Lib.hid (trans0 hbl.out hB5)
          clear hB5 hbl haw hln
          go_wp2_with (fail)
          with_reducible refine hl5.out.mono ?_
          rintro e w6 ⟨rfl, rfl⟩
          clear hl5
          go_wp2
          go_ret
          exact ⟨rfl, hfin.out⟩
  · have hSe := hs0.out he
    rw [hSe] at hJ3
    have heI : ((stE [] 9 (RS.map SR.s)) != 0) = true := by simpa using he
    generalize stE [] 9 (RS.map SR.s) = E at *
    have haw := Lib.hid (awake_any w3)
    have hbl := Lib.hid hJ3.bel
    have hln := Lib.hid (fun V (hB : Below w3.heap.size w3 V) => (j_len (hJ3.below (st9 (st_XT 9)) hB)))
    clear hss hs0 he hJ3 hRL hSe hcell
    go_wp2_with (fail)
    with_reducible refine haw.out.mono ?_
    rintro e w5 ⟨rfl, hB5⟩
    have hl5 := Lib.hid (hln.out _ hB5)
    have hfin := Lib.hid (trans0 hbl.out hB5)
    clear hB5 hbl haw hln
    go_wp2_with (fail)
    with_reducible refine hl5.out.mono ?_
    rintro e w6 ⟨rfl, rfl⟩
    clear hl5
    go_wp2
    go_ret
    exact ⟨rfl, hfin.out⟩
end Go.Proofs.Ytafocefbpkcoaaa.coSw
