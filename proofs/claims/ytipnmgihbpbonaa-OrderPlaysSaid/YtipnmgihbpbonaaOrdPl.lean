/- OrderPlays: the walk. -/
import Derived.Test.YtipnmgihbpbonaaOrdPb
import Derived.RangeFuncBox
set_option linter.unusedVariables false
set_option linter.unusedSimpArgs false
set_option maxRecDepth 100000
namespace Go.Proofs.Ytipnmgihbpbonaa.ordPl
open Go.ChangeShapes Go.WideShapes Go.ChangeAt Go.RowKit Go.Deep Go.Shelf
open opG opV opR chnM gen chnA chnR chnE ordA ordB ordC ordM ordL ordD ordH ordI ordK ordRl ordW ordS ordE2 ordE3 ordRi ordQ ordP ordPw ordPa ordPb ordF rngR rngS
attribute [local go_sem] Oper.semAt_some

set_option maxHeartbeats 8000000 in
theorem plays_any (A : Option Addr) (len cap : Nat) (ops : List Oq) (at0 : Int) (w : World) (hq : Rs w QOp 6 A len ops) (h9 : at0 ≤ 9223372036854775807) : Calls Try.prog 3 #[.slice A len cap, .int .i64 at0] w fun e w' => e = .returned (.bool true) ∧ Below w.heap.size w w' := by
  have hlen9 := hq.2.1
  have hcell := Lib.hid (fun (j : Nat) (hj : j < len) => (show ∃ b off, A = some ⟨b, off, none⟩ ∧ b < w.heap.size ∧ QOp w b (off + j * 6) (ops.getD j default) by
    rcases hq.2.2 with h0 | ⟨b, off, e, h3, h4⟩
    · omega
    · exact ⟨b, off, e, h3, h4 j hj⟩))
  have h0 := Lib.hid (show P0 w (w.heap.size + 1) (w.heap.size + 1 + 1) L0 _ from p0_new w)
  obtain ⟨Wa, hWa⟩ : ∃ Wa, w.alloc (.cells #[.bool false] 4) = Wa := ⟨_, rfl⟩
  have hsa : Wa.heap.size = w.heap.size + 1 := by rw [← hWa]; simp
  obtain ⟨W, hW⟩ : ∃ W, (Wa.alloc (.cells #[.slice none 0 0, .slice none 0 0, .int .u64 0] T1)).alloc (.cells #[.slice none 0 0, .slice none 0 0, .int .u64 0] T2) = W := ⟨_, rfl⟩
  rw [hWa, hW] at h0
  have hnew := Lib.hid (new_any Wa)
  replace hWa := Lib.hid hWa
  replace hW := Lib.hid hW
  replace hsa := Lib.hid hsa
  clear hq
  refine (callsIn_wide (n := 6)).1 ?_
  refine callsIn_of_wp_marks Try.func3 rfl trivial ?_ rfl
  simp only [Try.ntmps3, List.size_toArray, List.length_cons, List.length_nil, Nat.reduceAdd, Nat.reduceSub, Array.replicate_succ, Array.replicate_zero, List.push_toArray, List.append_toArray, List.nil_append, List.cons_append]
  refine wpIn_wide.2 ?_
  go_wp2_with (fail)
  rw [hWa.out]
  with_reducible refine hnew.out.mono ?_
  rintro e w1 ⟨rfl, rfl⟩
  go_wp2
  rw [hW.out, hsa.out]
  go_loopw [7] (fun t wr => ∃ (j : Nat) (X : Lg), t = .int .i64 j ∧ j ≤ len ∧ j ≤ 80 ∧ Hid (P0 w (w.heap.size + 1) (w.heap.size + 1 + 1) X wr) ∧ Hid X.ok ∧ Hid (X.st.length + X.wt.length ≤ j)) (fun t _ => 80 - (intOf t).toNat)
  case atStart => exact ⟨0, L0, rfl, by omega, by omega, h0, Lib.hid ok0, Lib.hid (by simp [L0])⟩
  case round =>
    clear h0 hnew
    obtain ⟨j, X, rfl, hj, hj8, hP, hok, hXl⟩ := hrel
    by_cases hgo : j < len ∧ j < 80
    · obtain ⟨h1, h2⟩ := hgo
      obtain ⟨b, off, rfl, hbl, hQ⟩ := hcell.out j h1
      generalize ops.getD j default = o at *
      obtain ⟨k0, ⟨k1, k2, k3, k4⟩, k5⟩ := op_cells hQ hP.out.bel
      have hjI : (j : Int) < (len : Int) := by omega
      have hj60 : (j : Int) < 80 := by omega
      have hP2 := Lib.hid (hP.out.p2 o)
      obtain ⟨W1, hW1⟩ : ∃ W1, wr.alloc (.cells (oC o) 34) = W1 := ⟨_, rfl⟩
      rw [hW1] at hP2
      replace hW1 := Lib.hid hW1
      have hkm := Lib.hid (fun w' (hB : Below w.heap.size w w') => hQ.2.2.1.2.2.2.1.below hB)
      have hks := Lib.hid hQ.2.2.1.2.2.2.2
      have hcm := hQ.2.2.1.2.2.2.1.le
      have htm := hQ.2.2.1.2.2.2.1.top
      have hfe := Lib.hid (fun w' => few_any o.m w' hcm htm)
      clear hQ hcm htm
      generalize w.heap.size + 1 = p at *
      go_upto_if 32 with (fail)
      rw [hW1.out]
      clear k0 k1 k2 k3 k4 k5
      have hPd := Lib.hid (hP2.out.below (below_drew _))
      go_cut [] from 32 to 52 (fun wx => Hid (∃ X', P0 w p (p + 1) X' wx ∧ X'.ok ∧ X'.st.length + X'.wt.length ≤ j + 1))
      case first =>
        obtain ⟨k0, ⟨k1, k2, k3, k4⟩, k5⟩ := hP2.out.b6
        by_cases hk : o.kind = 0
        · have hkb : (o.kind == 0) = true := by simpa using hk
          have s0 := Lib.hid hPd.out.b6.2.1
          have hlX : Hid (X.st.length + X.wt.length ≤ 90) := Lib.hid (by have := hXl.out; omega)
          clear hk k0 k5
          go_wp2
          go_region_held3 (fun w' => R4 wr.heap.size 1 o.m w')
            (first | with_reducible exact s0.out | with_reducible exact s1.out | with_reducible exact s2.out | with_reducible exact s3.out | with_reducible exact s4.out | fail)
            (first
              | (go_at_call 11; ((with_reducible refine (hd4.out).mono ?_); rintro e w14 ⟨rfl, hP14⟩; have s4 := Lib.hid hP14.b6.2.1; replace hP14 := Lib.hid hP14))
              | (go_at_call 10; ((with_reducible refine (hfe3.out _).mono ?_); rintro e w13 ⟨rfl, hB13⟩; have hP13 := hP12.out.below hB13; have s3 := Lib.hid hP13.b6.2.1; have hd4 := Lib.hid (hP13.ddec hlX.out (fw o.m) (HV.few (hkm.out _ hP13.bel)) (sm_few hks.out)); clear hP13 hB13))
              | (go_at_call 9; ((with_reducible refine (hd2.out).mono ?_); rintro e w12 ⟨rfl, hP12⟩; have s2 := Lib.hid hP12.b6.2.1; replace hP12 := Lib.hid hP12; have hfe3 := Lib.hid hfe.out))
              | (go_at_call 10; ((with_reducible refine (hfe.out _).mono ?_); rintro e w11 ⟨rfl, hB11⟩; have hP11 := hPd.out.below hB11; have s1 := Lib.hid hP11.b6.2.1; have hd2 := Lib.hid (hP11.dec hok.out hlX.out (fw o.m) (HV.few (hkm.out _ hP11.bel)) (sm_few hks.out)); clear hP11 hB11))
              | fail)
          all_goals
            have hcut := Lib.hid (show ∃ X', P0 w p (p + 1) X' w14 ∧ X'.ok ∧ X'.st.length + X'.wt.length ≤ j + 1 from ⟨_, hP14.out.p0, ok_dS hok.out _, by obtain ⟨q1, q2, q3⟩ := len_dS X (fw o.m).r; have := hXl.out; rw [q1]; omega⟩)
            clear s0 s1 s2 s3 s4 hP14 hd4 hfe3 hd2 hP12
            go_wp2
            go_meet
            exact hcut
        · have hkb : (o.kind == 0) = false := by simpa using hk
          have s0 := Lib.hid hPd.out.b6.2.2
          have hlX : Hid (X.st.length + X.wt.length ≤ 90) := Lib.hid (by have := hXl.out; omega)
          clear hk k0 k1 k2 k3 k4
          go_wp2
          go_region_held3 (fun w' => w'.cell? ⟨wr.heap.size, 5, none⟩ = some (.int .u64 o.t))
            (first | with_reducible exact s0.out | with_reducible exact s1.out | with_reducible exact s2.out | fail)
            (first
              | (go_at_call 13; ((with_reducible refine (hd4.out).mono ?_); rintro e w14 ⟨rfl, hP14⟩; have s2 := Lib.hid hP14.b6.2.2; replace hP14 := Lib.hid hP14))
              | (go_at_call 12; ((with_reducible refine (hPd.out.rel hok.out hlX.out o.t).mono ?_); rintro e w12 ⟨rfl, hP12⟩; have s1 := Lib.hid hP12.b6.2.2; have hd4 := Lib.hid (hP12.drel hok.out hlX.out o.t); clear hP12))
              | fail)
          all_goals
            have hcut := Lib.hid (show ∃ X', P0 w p (p + 1) X' w14 ∧ X'.ok ∧ X'.st.length + X'.wt.length ≤ j + 1 from ⟨_, hP14.out.p0, ok_rS hok.out _, by have := len_rS X o.t; have := hXl.out; omega⟩)
            clear s0 s1 s2 hP14 hd4
            go_wp2
            go_meet
            exact hcut
      case rest =>
      obtain ⟨X', hP3, hok', hl'⟩ := hcut.out
      clear hcut hP2 hPd hP hok hXl hkm hks hfe
      have hPd := hP3.below (below_drew wc)
      obtain ⟨B1, d1, B2, d2, -, -, k0, k1, -⟩ := hPd.rows
      have hln := Lib.hid hPd.len_
      have hwt := Lib.hid hPd.wait_
      have hS : Hid (wc.drew.cell? ⟨p + 1, 0, none⟩ = some (.slice B1 X'.st.length d1) ∧ wc.drew.cell? ⟨p + 1, 1, none⟩ = some (.slice B2 X'.wt.length d2)) := Lib.hid ⟨k0, k1⟩
      replace hPd := Lib.hid hPd
      replace hok' := Lib.hid hok'
      replace hl' := Lib.hid hl'
      clear hP3 k0 k1
      go_wp2
      go_region_held3 (fun w' => w'.cell? ⟨p + 1, 0, none⟩ = some (.slice B1 X'.st.length d1) ∧ w'.cell? ⟨p + 1, 1, none⟩ = some (.slice B2 X'.wt.length d2))
        (first | with_reducible exact hS.out | with_reducible assumption | fail)
        (first
          | (go_at_call 14; ((with_reducible refine (hln.out).mono ?_); rintro e w' ⟨rfl, rfl⟩))
          | (go_at_call 15; ((with_reducible refine (hwt.out).mono ?_); rintro e w' ⟨rfl, rfl⟩)) | fail)
      all_goals
        clear hS hln hwt
        go_wp2
        go_roundw
        case rel => exact ⟨j + 1, X', by go_num, by omega, by omega, hPd, hok', hl'⟩
        case measure => simp [intOf]; omega
    · clear hcell
      go_upto_region 5 with (fail)
      go_cut [23] from 16 to 23 (fun v wx => v = .bool false ∧ wx = wr)
      case first =>
        by_cases hlt : j < len
        · have hjI : (j : Int) < (len : Int) := by omega
          have hj4 : ¬ (j : Int) < 80 := by omega
          clear hgo
          go_wp2
          go_meet
          exact ⟨rfl, rfl⟩
        · have hjI : ¬ (j : Int) < (len : Int) := by omega
          clear hgo
          go_wp2
          go_meet
          exact ⟨rfl, rfl⟩
      case rest =>
      obtain ⟨rfl, rfl⟩ := hcut
      obtain ⟨B1, d1, B2, d2, ms, -, k0, k1, hms, hrr, hmsl, -⟩ := hP.out.rows
      obtain ⟨s, hs⟩ : ∃ s, ordF.sAt at0 = s := ⟨_, rfl⟩
      have hsI : (if at0 < 0 then 0 else at0) = (s : Int) := by rw [← hs]; unfold ordF.sAt; split <;> omega
      have hsM : max at0 0 = (s : Int) := by rw [← hs]; unfold ordF.sAt; omega
      have hs9 : s ≤ 9223372036854775807 := by rw [← hs]; unfold ordF.sAt; omega
      obtain ⟨N, hN⟩ : ∃ N, X.st.length = N := ⟨_, rfl⟩
      have hN9 : N ≤ 80 := by have := hXl.out; omega
      rw [hN] at k0 hmsl
      obtain ⟨u, hu⟩ : ∃ u, min s N = u := ⟨_, rfl⟩
      have hu1 : min (s : Int) (N : Int) = (u : Int) := by omega
      have hu2 : (if (N : Int) < (s : Int) then (N : Int) else (s : Int)) = (u : Int) := by split <;> omega
      have hu3 : (if N < s then (N : Int) else (s : Int)) = (u : Int) := by split <;> omega
      replace hs := Lib.hid hs
      replace hN := Lib.hid hN
      replace hu := Lib.hid hu
      replace hms := Lib.hid hms
      replace hrr := Lib.hid hrr
      replace hmsl := Lib.hid hmsl
      clear hgo hj hj8
      obtain ⟨col, hc3, hPV, hA0, hrd⟩ := p0_range hP.out at0 h9 u
      have hF := Lib.hid (from_call (some ⟨w.heap.size + 1, 0, none⟩) at0 (wc.alloc (.cells #[.int .i64 (u : Int)] 3)))
      obtain ⟨Wb, hWb⟩ : ∃ Wb, wc.alloc (.cells #[.int .i64 (u : Int)] 3) = Wb := ⟨_, rfl⟩
      have hsb : Wb.heap.size = wc.heap.size + 1 := by rw [← hWb]; simp
      rw [hWb] at hPV hA0 hrd hF
      have hs0 := fW_size Wb (some ⟨w.heap.size + 1, 0, none⟩) at0
      have hszc := hP.out.sz
      replace hWb := Lib.hid hWb
      replace hsb := Lib.hid hsb
      clear hP hms hrr hmsl
      go_wp2_with (fail)
      rw [hWb.out]
      with_reducible refine hF.out.mono ?_
      rintro e w2 ⟨rfl, rfl⟩
      unfold fV
      rw [hsb.out]
      obtain ⟨W0, hW0⟩ : ∃ W0, fW Wb (some ⟨w.heap.size + 1, 0, none⟩) at0 = W0 := ⟨_, rfl⟩
      rw [hW0] at hPV hA0 hrd hs0 ⊢
      generalize wc.heap.size = ab at *
      rw [hsb.out] at hs0
      have hhi : ab + 1 + 2 ≤ W0.heap.size := by omega
      have hwl : w.heap.size ≤ W0.heap.size := by omega
      replace hrd := Lib.hid hrd
      replace hPV := Lib.hid hPV
      replace hA0 := Lib.hid hA0
      replace hc3 := Lib.hid hc3
      clear hF hW0 hs0 hsI hsM hu1 hu2 hu3 k0 k1
      go_wp2
      refine (wpIn_wide (n := 6)).1 ?_
      rw [hs.out] at hrd
      refine' range_reads0 rfl (by omega) (gf := 30) (lb := #[.pointer (some ⟨ab + 1 + 1, 0, none⟩), .pointer (some ⟨ab + 1, 0, none⟩)]) rfl trivial (enters_of Try.func30 (by kernel_rfl) rfl)
        hrd.out KS.trans (KS.book hhi) (fun _ => rfl)
        (fun pre => AI col ab u W0 pre.length) (fun _ _ _ => False) (AI.from_ (Nat.le_refl _)) (fun _ => fun _ _ _ _ h _ _ => h) (fun pre => RF.from_ X.st s _ pre _) hA0.out _ ?assign ?body ?done ?stop
      case assign =>
        intro l x W K hK
        simp only [encs]
        gi_wp2
        exact hK
      case stop =>
        rintro D c pre V _ _ h _
        exact h.elim
      case body =>
        rintro l pre ⟨xi, x⟩ V hV0 hA ⟨⟨hx1, hx2, hx3, hx4, hx5⟩, hx6⟩
        simp only at hx1 hx2
        have hxz : xi = u + pre.length := by have := hu.out; have := hN.out; omega
        obtain ⟨z, hz⟩ : ∃ z, u + pre.length = z := ⟨_, rfl⟩
        have q1 := hA.cell
        have q2 := hA.fz
        rw [hz] at hxz q1
        subst hxz
        have hnx := Lib.hid (hA.next hc3.out (.int .i64 ((xi : Int) + 1)) (by rw [← hz]; congr 1))
        have hks := Lib.hid (AI.ks (V := V) (ab := ab) (ab + 1 + 2) (.int .i64 ((xi : Int) + 1)))
        have hko := Lib.hid (KeepsOthers.setCell V ⟨ab, 0, none⟩ (.int .i64 ((xi : Int) + 1)))
        have hxi9 : xi ≤ 9223372036854775806 := by have := hN.out; omega
        clear hA hx1 hx2 hx3 hx4 hx5 hx6 hz hrd hA0
        gi_wp2
        exact ⟨hko.out, hks.out, by show AI _ _ _ _ (pre ++ [_]).length _; rw [List.length_append]; exact hnx.out⟩
      case done =>
        rintro D ys V hD hys hA hK
        have hyl : u + ys.length = N := by
          have h1 := congrArg List.length hys
          simp at h1
          have := hu.out
          have := hN.out
          omega
        have hP := hPV.out V _ hA
        have q1 := hA.cell
        rw [hyl] at q1
        obtain ⟨r1, r2⟩ := p0_rb hP
        obtain ⟨B1, d1, B2, d2, ms, -, k0, k1, hms, hrr, hmsl, -⟩ := hP.rows
        have hst := Lib.hid (fun V' (hB : Below V.heap.size V V') => p0_stab (hP.below hB) (by have := hN.out; omega))
        have hbel := Lib.hid hP.bel
        rw [hN.out] at k0 hmsl
        have s0 : Hid (V.drew.cell? ⟨ab, 0, none⟩ = some (.int .i64 (N : Int)) ∧ V.drew.cell? ⟨w.heap.size + 1 + 1, 0, none⟩ = some (.slice B1 N d1)) := Lib.hid ⟨q1, k0⟩
        have hrb := Lib.hid (show V.cell? ⟨w.heap.size, 0, none⟩ = some (.bool false) ∧ V.frozen? ⟨w.heap.size, 0, none⟩ = false from ⟨r1, r2⟩)
        have hsm := Lib.hid (fun V' Aa ca la (hB : Below V.heap.size V V') (hr : RR2 V' Aa ca la) => same_any Aa ca la B1 d1 ms V' hr (hrr.below hB))
        rw [hmsl] at hsm
        have hK' := Lib.hid hK
        replace hms := Lib.hid hms
        have hne : Hid (ab ≠ w.heap.size ∧ w.heap.size + 1 + 1 ≠ w.heap.size ∧ D ≠ w.heap.size) := Lib.hid ⟨by omega, by omega, by have := (Array.getElem?_eq_some_iff.1 hK).1; omega⟩
        clear hA hys hyl hP q1 r1 r2 k0 k1 hrr hmsl hPV hA0 hrd hK
        have hB0 := Lib.hid (below_drew V)
        go_wp2
        go_region_held3 (fun w' => w'.cell? ⟨ab, 0, none⟩ = some (.int .i64 (N : Int)) ∧ w'.cell? ⟨w.heap.size + 1 + 1, 0, none⟩ = some (.slice B1 N d1))
          (first | with_reducible exact s0.out | with_reducible exact s1.out | with_reducible exact s2.out | with_reducible exact s3.out | with_reducible exact s4.out | fail)
          (first
            | (go_at_call 18; ((with_reducible refine (hsm.out _ _ _ _ hB2.out hR2.out).mono ?_); rintro e w3 ⟨he, hB3⟩; (rw [show decide (l2.map MR.r = ms.map MR.r) = true from decide_eq_true (hm2.out.trans hms.out.symm)] at he); subst he; have hV3 := trans0 hB2.out hB3; have s3 : Hid (w3.cell? ⟨ab, 0, none⟩ = some (.int .i64 (N : Int)) ∧ w3.cell? ⟨w.heap.size + 1 + 1, 0, none⟩ = some (.slice B1 N d1)) := Lib.hid ⟨keep_cell hB3 s2.out.1, keep_cell hB3 s2.out.2⟩; have z1 := keep_cell hV3 hrb.out.1; have z2 := keep_frozen hV3 hrb.out.1 hrb.out.2; have s4 : Hid ((w3.setCell ⟨w.heap.size, 0, none⟩ (.bool true)).cell? ⟨ab, 0, none⟩ = some (.int .i64 (N : Int)) ∧ (w3.setCell ⟨w.heap.size, 0, none⟩ (.bool true)).cell? ⟨w.heap.size + 1 + 1, 0, none⟩ = some (.slice B1 N d1)) := Lib.hid ⟨by rw [World.cell?_setCell_other _ _ _ _ (by simp [hne.out.1])]; exact s3.out.1, by rw [World.cell?_setCell_other _ _ _ _ (by simp)]; exact s3.out.2⟩; replace hV3 := Lib.hid hV3))
            | (go_at_call 19; ((with_reducible refine (hst.out _ hB1.out).mono ?_); rintro e w2 ⟨A2, c2, l2, rfl, hm2, hR2, hB2⟩; have s2 : Hid (w2.cell? ⟨ab, 0, none⟩ = some (.int .i64 (N : Int)) ∧ w2.cell? ⟨w.heap.size + 1 + 1, 0, none⟩ = some (.slice B1 N d1)) := Lib.hid ⟨keep_cell hB2 s1.out.1, keep_cell hB2 s1.out.2⟩; replace hB2 := Lib.hid (trans0 hB1.out hB2); replace hm2 := Lib.hid hm2; replace hR2 := Lib.hid hR2))
            | (go_at_call 17; ((with_reducible refine (awake_any _).mono ?_); rintro e w1 ⟨rfl, hB1⟩; have s1 : Hid (w1.cell? ⟨ab, 0, none⟩ = some (.int .i64 (N : Int)) ∧ w1.cell? ⟨w.heap.size + 1 + 1, 0, none⟩ = some (.slice B1 N d1)) := Lib.hid ⟨keep_cell hB1 s0.out.1, keep_cell hB1 s0.out.2⟩; replace hB1 := Lib.hid (trans0 hB0.out hB1)))
            | fail)
        have hfin := Lib.hid (World.cell?_setCell_same' w3 ⟨w.heap.size, 0, none⟩ (.bool true) (by rw [z1]; rfl))
        have hKb : w3.heap[D]? = some (.deferred (some [])) := (hV3.out.block D (Array.getElem?_eq_some_iff.1 hK'.out).1).trans hK'.out
        have hB4 := Lib.hid (hbel.out.trans (hV3.out.mono hbel.out.size))
        clear s0 s1 s2 s3 s4 hst hsm hrb hms hm2 hR2 hB0 hB1 hB2 hV3
        go_wp2
        have hK'' := (KeepsOthers.setCell w3 ⟨w.heap.size, 0, none⟩ (.bool true)).same D _ hKb rfl
        refine ⟨by simp, .inl ⟨_, _, rfl, run_takeDeferred hK'', ?_⟩⟩
        have hc5 := cell_kept hfin.out (grownBy_putObj' _ D (.deferred none)) (fun r e => by cases e; exact ⟨_, hK'', rfl⟩)
        refine ⟨.bool true, ?_, rfl, (hB4.out.setCell (p := ⟨w.heap.size, 0, none⟩) (Nat.le_refl _) _).trans (belowK_b (w := w) (Nat.le_refl _) _ D _ _ (by omega) hK'' rfl rfl)⟩
        simp [results, Try.f3, go_sem, hc5]
end Go.Proofs.Ytipnmgihbpbonaa.ordPl
