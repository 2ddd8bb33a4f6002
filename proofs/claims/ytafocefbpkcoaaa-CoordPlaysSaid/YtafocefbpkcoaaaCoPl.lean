/- CoordPlays: any calls of a table are answered as the document says. -/
import Derived.Test.YtafocefbpkcoaaaCoZ
set_option linter.unusedVariables false
set_option linter.unusedSimpArgs false
set_option maxRecDepth 100000
namespace Go.Proofs.Ytafocefbpkcoaaa.coPl
open Go.ChangeShapes Go.WideShapes Go.ChangeAt Go.RowKit Go.Deep
open opG opV chnM gen chnA chnR chnE ordA ordC coG coO coM coP coL coN coB coK coV coE coF coW coT coA coJ coD coDf coDv coDa coDe coDw coH coZ

abbrev SQ (B q : Nat) (o : Oq) (A : Option Addr) (n c : Nat) (w : World) : Prop := O7 B 0 o w ∧ w.cell? ⟨q, 0, none⟩ = some (.slice A n c)
theorem sq_below {B q : Nat} {o : Oq} {A : Option Addr} {n c : Nat} {w w1 : World} (h : SQ B q o A n c w) (hB : Below w.heap.size w w1) : SQ B q o A n c w1 := ⟨o7_of h.1 (hB.block B (o7_lt h.1)), keep_cell hB h.2⟩
theorem o7_bel {B : Nat} {o : Oq} {w w1 : World} (h : O7 B 0 o w) (hB : Below w.heap.size w w1) : O7 B 0 o w1 := o7_of h (hB.block B (o7_lt h))
theorem wrs_len {os : Ens} (h : ok os) (tx : Int) : (wrs os tx).length ≤ 48 := by
  unfold wrs
  cases hf : fnE os tx with
  | none => simp
  | some x =>
    have hx := (ok_mem h hf).1
    have h1 : ∀ sh : List Sh, (∀ s ∈ sh, s.vs.length ≤ 8) → ((sh.map (·.vs)).flatten).length ≤ sh.length * 8 := by
      intro sh
      induction sh with
      | nil => simp
      | cons a l ih =>
        intro h
        have := h a (List.mem_cons_self ..)
        have := ih fun q hq => h q (List.mem_cons_of_mem _ hq)
        simp only [List.map_cons, List.flatten_cons, List.length_append, List.length_cons]
        omega
    have := h1 x.sh hx.sv
    have := hx.sz
    show ((x.sh.map (·.vs)).flatten).length ≤ 48
    omega
set_option maxHeartbeats 8000000 in
theorem plays_any (A : Option Addr) (n c : Nat) (l : List Oq) (w : World) (h : Rs w QOp 7 A n l) (hc : n ≤ c) (hc9 : c ≤ 9223372036854775807) :
    Calls Try.prog 3 #[.slice A n c] w fun e w' => e = .returned (.bool true) ∧ Below w.heap.size w w' := by
  have hcell := Lib.hid (rs_at h)
  have hnew := Lib.hid (new_any w)
  have hJ0 := j_new w
  obtain ⟨W1, hW1⟩ : ∃ W1, newS w = W1 := ⟨_, rfl⟩
  obtain ⟨t, ht⟩ : ∃ t, w.heap.size + 1 = t := ⟨_, rfl⟩
  rw [hW1, ht] at hnew hJ0
  have hJ1 := jd_new hJ0
  obtain ⟨W2, hW2⟩ : ∃ W2, zD W1 = W2 := ⟨_, rfl⟩
  rw [hW2] at hJ1
  unfold zD at hW2
  replace hW2 := Lib.hid hW2
  obtain ⟨q, hq⟩ : ∃ b, W1.heap.size = b := ⟨_, rfl⟩
  rw [hq] at hJ1
  replace hJ1 := Lib.hid hJ1
  replace hq := Lib.hid hq
  have hok := Lib.hid (rn_ok (W := w) (l := l) (n := n) fun i hi => by obtain ⟨b, off, _, _, _, hk⟩ := rs_at h i hi; exact hk)
  have hln := Lib.hid (rn_len l)
  clear h hW1 ht hJ0
  go_enter Try.func3, Try.ntmps3
  go_wp2_with (fail)
  with_reducible refine hnew.out.mono ?_
  rintro e w1 ⟨rfl, rfl⟩
  clear hnew
  go_upto_region 2 with (fail)
  rw [hW2.out, hq.out]
  clear hW2 hq
  go_wp2
  go_loopw [5] (fun i wr => ∃ j : Nat, i = .int .i64 j ∧ j ≤ n ∧ j ≤ 80 ∧ Hid (J w (X2 (XS t (rn l j)) (X2 (XD q (rn l j)) XT)) wr)) (fun i _ => n - (intOf i).toNat)
  case atStart => exact ⟨0, rfl, by omega, by omega, hJ1⟩
  case round =>
    clear hJ1
    obtain ⟨j, rfl, hj, hj1, hJ⟩ := hrel
    by_cases hlt : j < n ∧ j < 80
    · obtain ⟨hlt, h80⟩ := hlt
      obtain ⟨pb, po, rfl, hpb, hO, hko⟩ := hcell.out j hlt
      have hjI : (j : Int) < (n : Int) := by omega
      have hj6 : (j : Int) < 80 := by omega
      have hoj := Lib.hid (hok.out j (by omega))
      have hoj1 := Lib.hid (hok.out (j + 1) (by omega))
      have hlj : Hid ((rn l j).length ≤ 1000) := Lib.hid (by have := hln.out j; omega)
      have hlj1 : Hid ((rn l (j + 1)).length ≤ 1000) := Lib.hid (by have := hln.out (j + 1); omega)
      have hWe : Hid (rn l (j + 1) = stP (rn l j) (nt l j)) := Lib.hid rfl
      obtain ⟨o0, o1, o2, o3, o4, o5, o6⟩ := o7_step hO hJ.out.bel (Nat.le_refl _)
      obtain ⟨S2, hSe⟩ : ∃ S2, rn l (j + 1) = S2 := ⟨_, rfl⟩
      rw [hSe] at hWe hoj1 hlj1
      replace hSe := Lib.hid hSe
      have hJ3 := jd_box hJ.out (st_XT 9) (nt l j)
      generalize rn l j = S at *
      generalize nt l j = o at *
      obtain ⟨W3, hW3⟩ : ∃ W3, wr.alloc (.cells (cO o) 32) = W3 := ⟨_, rfl⟩
      obtain ⟨B, hB⟩ : ∃ B, wr.heap.size = B := ⟨_, rfl⟩
      rw [hW3, hB] at hJ3
      have hO3 := jd_o7 hJ3
      replace hJ3 := Lib.hid hJ3
      replace hW3 := Lib.hid hW3
      replace hB := Lib.hid hB
      replace hko := Lib.hid hko
      clear hcell hO hok hln hJ
      go_upto_region 8 with (fail)
      rw [hW3.out, hB.out]
      clear o0 o1 o2 o3 o4 o5 o6 hW3 hB
      obtain ⟨o0, o1, o2, o3, o4, o5, o6⟩ := hO3
      go_upto_block 2 with (fail)
      go_cut [7, 8, 9, 10, 11, 12, 13, 14, 15, 16, 17] from 40 to 127 (fun _ _ _ _ _ _ _ _ _ _ _ wx => Hid (J w (X2 (XS t S2) (X2 (XD q S2) (X2 (XB B o) XT))) wx))
      case first =>
        have hs1 : ∀ d, d ≠ 0 → St d (X2 (XB B o) XT) := fun d hd => st_X2 (st_XB hd) (st_XT d)
        replace hs1 := Lib.hid hs1
        have hsd1 : Hid (St 1 (X2 (XD q S) (X2 (XB B o) XT))) := Lib.hid (st_X2 (st_XD (by decide) (by decide)) (hs1.out 1 (by decide)))
        rcases (by omega : o.kind = 0 ∨ o.kind = 1 ∨ (o.kind ≠ 0 ∧ o.kind ≠ 1)) with e | e | ⟨e, e2⟩
        · have hk0 : (o.kind == 0) = true := by simpa using e
          have hse : Hid (S2 = stS S o.tx o.t ((fwR o.rs).map SR.s)) := Lib.hid (by rw [hWe.out]; exact if_pos e)
          have hkw := hko.out
          have hbW := hJ3.out.bel
          have hfew := Lib.hid (few_any W3 o.A o.c o.rs (hkw.rd.step hbW (Nat.le_refl _)) (fun r hr => ⟨(hkw.sh r hr).1, (hkw.sh r hr).2.1.step hbW (Nat.le_refl _), (hkw.sh r hr).2.2⟩))
          have hks := Lib.hid (fun V (hB : Below w.heap.size w V) => (fun r hr => (by
            obtain ⟨h1, h2⟩ := kSh_fw hkw.sh r hr
            exact ⟨h1.1, h1.2.1.step hB (Nat.le_refl _), h1.2.2⟩) : ∀ r ∈ fwR o.rs, kSh V r))
          have hx0 := hkw.x0
          have hx1 := hkw.x1
          have hrl := fwR_len o.rs
          generalize fwR o.rs = RS at *
          generalize hRL : RS.length = RL at *
          clear hkw hbW e hWe
          go_wp2_with (fail)
          with_reducible refine hfew.out.mono ?_
          rintro e w4 ⟨Af, cf, rfl, hG4, hB4⟩
          have hJ4 := jd_row hJ3.out (hs1.out 9 (by decide)) hG4 hB4
          have hsr : ∀ d, d ≠ 0 → St d (X2 (X2 (XB B o) XT) (XR Af cf RS)) := fun d hd => st_X2 (hs1.out d hd) (st_XR hd)
          have hJd := hJ4.below (st9d (hsr 9 (by decide))) (below_drew w4)
          clear o0 o1 o2 o3 o4 o5 o6
          obtain ⟨o0, o1, o2, o3, o4, o5, o6⟩ := jd_o7r hJ4
          have s0 := Lib.hid (jd_o7r hJd)
          have hc1 := Lib.hid (j_start hJd (st_X2 (st_XD (by decide) (by decide)) (hsr 1 (by decide))) hlj.out (tx := o.tx) (low := o.t) hx0 hx1 Af cf RS (jd_rd hJd) (by omega) (hks.out _ hJd.bel))
          have hc2 := Lib.hid (fun V (hV : J w (X2 (XS t (stS S o.tx o.t (RS.map SR.s))) (X2 (XD q S) (X2 (X2 (XB B o) XT) (XR Af cf RS)))) V) => told_any V Af cf RS (jd_rd hV) (by omega))
          have hc3 := Lib.hid (fun V (hV : J w (X2 (XS t (stS S o.tx o.t (RS.map SR.s))) (X2 (XD q S) (X2 (X2 (XB B o) XT) (XR Af cf RS)))) V) A2 c2 (hr : Rd coD.shD V A2 c2 RS) => jd_start hV (hsr 2 (by decide)) hlj.out (tx := o.tx) (low := o.t) A2 c2 RS hr (by omega) (hks.out _ hV.bel))
          have hbe := Lib.hid (fun V V' (hV : J w (X2 (XS t (stS S o.tx o.t (RS.map SR.s))) (X2 (XD q S) (X2 (X2 (XB B o) XT) (XR Af cf RS)))) V) (hB : Below V.heap.size V V') => J.below hV (st9d (hsr 9 (by decide))) hB)
          rw [hRL] at hc1 hc2 hc3
          generalize stE S o.tx (RS.map SR.s) = re at *
          clear hfew hG4 hB4 hJ3 hJ4 hJd hsr hks hs1 hsd1 hko hlj hoj hrl
          go_upto_region 15 with (fail)
          go_region_held3 (O7 B 0 o)
            (first | with_reducible exact s0.out | with_reducible exact s1.out | with_reducible exact s2.out | with_reducible exact s3.out | fail)
            (first
              | (go_at_call 10; ((with_reducible refine (hc1.out).mono ?_); rintro e w5 ⟨rfl, hJ5⟩; have s1 := Lib.hid (jd_o7r hJ5); have hTl := Lib.hid (hc2.out _ hJ5); replace hJ5 := Lib.hid hJ5))
              | (go_at_call 12; ((with_reducible refine (hTl.out).mono ?_); rintro e w6 ⟨A2, c2, rfl, hG6, hB6⟩; have hJ6 := hbe.out _ _ hJ5.out hB6; have s2 := Lib.hid (jd_o7r hJ6); have hSt := Lib.hid (hc3.out _ hJ6 A2 c2 hG6.rd); clear hG6 hB6; replace hJ6 := Lib.hid hJ6))
              | (go_at_call 11; ((with_reducible refine (hSt.out).mono ?_); rintro e w7 ⟨rfl, hJ7⟩; have s3 := Lib.hid (jd_o7r hJ7); replace hJ7 := Lib.hid hJ7))
              | fail)
          all_goals
            clear o0 o1 o2 o3 o4 o5 o6 s0 s1 s2 s3 hc1 hc2 hc3 hTl hSt hJ5 hJ6 hbe
            go_wp2
            go_meet
            exact Lib.hid (by rw [hse.out]; exact jd_unrow hJ7.out)
        · have hk0 : (o.kind == 0) = false := by rw [beq_eq_false_iff_ne]; omega
          have hk1 : (o.kind == 1) = true := by simpa using e
          have hse : Hid (S2 = voS S o.tx o.node o.t) := Lib.hid (by rw [hWe.out]; unfold stP; rw [if_neg (by omega), if_pos e])
          have hkw := hko.out
          have hc1 := Lib.hid (j_vote hJ3.out hsd1.out hoj.out (tx := o.tx) (n := o.node) (tt := o.t) hkw.x0 hkw.x1 hkw.n0 hkw.n1 hkw.t0 hkw.t1)
          have hc2 := Lib.hid (fun V (hV : J w (X2 (XS t (voS S o.tx o.node o.t)) (X2 (XD q S) (X2 (XB B o) XT))) V) => jd_vote hV (hs1.out 2 (by decide)) hoj.out hlj.out (tx := o.tx) (n := o.node) (tt := o.t) hkw.t0 hkw.t1)
          generalize voT S o.tx o.node o.t = ra at *
          generalize voB S o.tx o.node o.t = rb at *
          generalize voE S o.tx o.node o.t = re at *
          clear e hJ3 hoj hlj hko hkw hs1 hsd1 hWe
          go_wp2_with (fail)
          with_reducible refine hc1.out.mono ?_
          rintro e w4 ⟨rfl, hJ4⟩
          clear o0 o1 o2 o3 o4 o5 o6 hc1
          obtain ⟨o0, o1, o2, o3, o4, o5, o6⟩ := jd_o7 hJ4
          have hc3 := Lib.hid (hc2.out _ hJ4)
          clear hJ4 hc2
          go_wp2_with (fail)
          with_reducible refine hc3.out.mono ?_
          rintro e w5 ⟨rfl, hJ5⟩
          clear o0 o1 o2 o3 o4 o5 o6 hc3
          replace hJ5 := Lib.hid hJ5
          cases rb
          all_goals
            go_wp2
            go_meet
            exact Lib.hid (by rw [hse.out]; exact hJ5.out)
        · have hk0 : (o.kind == 0) = false := by rw [beq_eq_false_iff_ne]; omega
          have hk1 : (o.kind == 1) = false := by rw [beq_eq_false_iff_ne]; omega
          have hse : Hid (S2 = enS S o.tx o.node) := Lib.hid (by rw [hWe.out]; unfold stP; rw [if_neg e, if_neg e2])
          have hkw := hko.out
          have hc1 := Lib.hid (j_end hJ3.out hsd1.out hoj.out (tx := o.tx) (n := o.node) hkw.x0 hkw.x1 hkw.n0 hkw.n1)
          have hc2 := Lib.hid (fun V (hV : J w (X2 (XS t (enS S o.tx o.node)) (X2 (XD q S) (X2 (XB B o) XT))) V) => jd_end hV (hs1.out 2 (by decide)) hoj.out hlj.out (tx := o.tx) (n := o.node))
          generalize enB S o.tx o.node = rb at *
          generalize enE S o.tx o.node = re at *
          clear e e2 hJ3 hoj hlj hko hkw hs1 hsd1 hWe
          go_wp2_with (fail)
          with_reducible refine hc1.out.mono ?_
          rintro e w4 ⟨rfl, hJ4⟩
          clear o0 o1 o2 o3 o4 o5 o6 hc1
          obtain ⟨o0, o1, o2, o3, o4, o5, o6⟩ := jd_o7 hJ4
          have hc3 := Lib.hid (hc2.out _ hJ4)
          clear hJ4 hc2
          go_wp2_with (fail)
          with_reducible refine hc3.out.mono ?_
          rintro e w5 ⟨rfl, hJ5⟩
          clear o0 o1 o2 o3 o4 o5 o6 hc3
          replace hJ5 := Lib.hid hJ5
          cases rb
          all_goals
            go_wp2
            go_meet
            exact Lib.hid (by rw [hse.out]; exact hJ5.out)
      case rest =>
      have hJ5 := hcut.out
      have hs9 : Hid (St 9 (X2 (XS t S2) (X2 (XD q S2) (X2 (XB B o) XT)))) := Lib.hid (st9d (st_X2 (st_XB (by decide)) (st_XT 9)))
      have hbe := Lib.hid (fun V V' (hV : J w (X2 (XS t S2) (X2 (XD q S2) (X2 (XB B o) XT))) V) (hB : Below V.heap.size V V') => J.below hV hs9.out hB)
      have hJd := hbe.out _ _ hJ5 (below_drew wc)
      obtain ⟨p0, p1, p2, p3, p4, p5, p6⟩ := jd_o7 hJ5
      have s0 := Lib.hid (jd_o7 hJd)
      have hkx := hko.out
      have hcN := Lib.hid (j_nodes hJd hoj1.out (tx := o.tx) hkx.x0 hkx.x1)
      have hcDN := Lib.hid (fun V (hV : J w (X2 (XS t S2) (X2 (XD q S2) (X2 (XB B o) XT))) V) => jd_nodes hV hoj1.out hlj1.out (tx := o.tx))
      clear hJ3 hcut hs9 hkx hWe hoj hlj o0 o1 o2 o3 o4 o5 o6
      replace hJd := Lib.hid hJd
      replace hJ5 := Lib.hid hJ5
      go_upto_region 22 with (fail)
      go_region_held3 (O7 B 0 o)
        (first | with_reducible exact s0.out | with_reducible exact s1.out | with_reducible exact s2.out | fail)
        (first
          | (go_at_call 17; ((with_reducible refine (hcN.out).mono ?_); rintro e w4 ⟨A1, c1, rfl, hG1, hB1⟩; have hJ6 := Lib.hid (hbe.out _ _ hJd.out hB1); have s1 := Lib.hid (jd_o7 hJ6.out); have hDN := Lib.hid (hcDN.out _ hJ6.out); replace hG1 := Lib.hid hG1; clear hB1))
          | (go_at_call 18; ((with_reducible refine (hDN.out).mono ?_); rintro e w5 ⟨A2, c2, rfl, hG2, hB2⟩; have hJ7 := Lib.hid (hbe.out _ _ hJ6.out hB2); have s2 := Lib.hid (jd_o7 hJ7.out); have hR1 := Lib.hid (hG1.out.below hB2).rd; have hR2 := Lib.hid hG2.rd; clear hB2 hG2))
          | fail)
      all_goals
        clear p0 p1 p2 p3 p4 p5 p6 s0 s1 s2 hcN hcDN hDN hG1 hJ6 hJd hJ5
        have r1 := hR1.out.le
        have r2 := hR1.out.top
        have r3 := hR2.out.le
        have r4 := hR2.out.top
        generalize nos S2 o.tx = NS at *
        go_wp2
        go_loopw [143, 20] (fun i _ wx => ∃ k : Nat, k ≤ NS.length ∧ i = .int .i64 k ∧ Hid (Below w5.heap.size w5 wx)) (fun i _ _ => NS.length - (intOf i).toNat)
        case atStart => exact ⟨0, by omega, rfl, Lib.hid (Below.refl _ _)⟩
        case round =>
          obtain ⟨k, hk, rfl, hBk⟩ := hrel
          by_cases hlk : k < NS.length
          · have hkI : (k : Int) < (NS.length : Int) := by omega
            obtain ⟨z, hz⟩ : ∃ z, NS[k]? = some z := ⟨_, List.getElem?_eq_getElem hlk⟩
            obtain ⟨b1, f1, rfl, -, g1⟩ := (hR1.out.below hBk.out).at_ hz
            obtain ⟨b2, f2, rfl, -, g2⟩ := (hR2.out.below hBk.out).at_ hz
            have v1 : wr.cell? ⟨b1, f1 + k, none⟩ = some (.int .i64 z) := by have := g1 0 _ rfl; simpa using this
            have v2 : wr.cell? ⟨b2, f2 + k, none⟩ = some (.int .i64 z) := by have := g2 0 _ rfl; simpa using this
            have hnx := Lib.hid (fun m => chnA.bdrN m hBk.out)
            clear hBk g1 g2 hz
            go_upto_region 28 with (fail)
            go_quiet (fail)
            have hN := Lib.hid (hnx.out nq)
            clear hnx v1 v2
            go_wp2
            go_roundw
            case rel => exact ⟨k + 1, by omega, by go_num, hN⟩
            case measure => simp [intOf]; omega
          · obtain rfl : k = NS.length := by omega
            have hkI : ¬ (NS.length : Int) < (NS.length : Int) := by omega
            have hJ9 := Lib.hid (hbe.out _ _ hJ7.out hBk.out)
            clear hBk hJ7 hR1 hR2
            obtain ⟨p0, p1, p2, p3, p4, p5, p6⟩ := jd_o7 hJ9.out
            obtain ⟨Aq, cq, z0⟩ := jd_cell hJ9.out
            have hkx := hko.out
            have h48 := wrs_len hoj1.out o.tx
            have hS := Lib.hid (show SQ B q o Aq S2.length cq wr from ⟨⟨p0, p1, p2, p3, p4, p5, p6⟩, z0⟩)
            have hSd : Hid (SQ B q o Aq S2.length cq wr.drew) := Lib.hid (sq_below hS.out (below_drew wr))
            obtain ⟨VS, hVS⟩ : ∃ VS, wrs S2 o.tx = VS := ⟨_, rfl⟩
            have kL : ∀ w' : World, Below wr.heap.size wr w' → Calls Try.prog 19 #[.pointer (some ⟨t, 0, none⟩)] w' fun e w'' => e = .returned (.int .i64 (S2.length : Int)) ∧ Below wr.heap.size wr w'' := fun w' hw' => (j_len (hbe.out _ _ hJ9.out hw')).mono fun _ _ ⟨he, hb⟩ => ⟨he, by rw [← hb]; exact hw'⟩
            have kW : ∀ w' : World, Below wr.heap.size wr w' → Calls Try.prog 21 #[.pointer (some ⟨t, 0, none⟩), .int .u64 o.tx] w' fun e w'' => ∃ A c, e = .returned (.slice A VS.length c) ∧ HV w'' A c VS ∧ Below wr.heap.size wr w'' := fun w' hw' => (j_writes (hbe.out _ _ hJ9.out hw') hoj1.out hkx.x0 hkx.x1).mono fun _ _ ⟨A, c, he, hG, hb⟩ => ⟨A, c, by rw [he, hVS], by rw [hVS] at hG; exact hG.hv (by rw [← hVS]; omega), trans0 hw' hb⟩
            have kD : ∀ w' : World, Below wr.heap.size wr w' → Calls Try.prog 22 #[.pointer (some ⟨q, 0, none⟩), .int .u64 o.tx] w' fun e w'' => ∃ A c, e = .returned (.slice A VS.length c) ∧ HV w'' A c VS ∧ Below wr.heap.size wr w'' ∧ Below w'.heap.size w' w'' := fun w' hw' => (jd_writes (hbe.out _ _ hJ9.out hw') hoj1.out hlj1.out).mono fun _ _ ⟨A, c, he, hG, hb⟩ => ⟨A, c, by rw [he, hVS], by rw [hVS] at hG; exact hG.hv (by rw [← hVS]; omega), trans0 hw' hb, hb⟩
            have kS : ∀ (w' : World) A1 c1 A2 c2, HV w' A1 c1 VS → HV w' A2 c2 VS → Below wr.heap.size wr w' → Calls Try.prog 20 #[.slice A1 VS.length c1, .slice A2 VS.length c2] w' fun e w'' => e = .returned (.bool true) ∧ Below wr.heap.size wr w'' := fun w' A1 c1 A2 c2 h1 h2 hw' => (samevers A1 c1 VS A2 c2 VS w' h1 h2).mono fun _ _ ⟨he, hb⟩ => ⟨by rw [he, decide_eq_true rfl], trans0 hw' hb⟩
            have kT : ∀ w' : World, Below wr.heap.size wr w' → Calls Try.prog 23 #[.pointer (some ⟨t, 0, none⟩), .string o.lo, .string o.hi] w' fun e w'' => e = .returned (.bool (tcE S2 o.lo o.hi)) ∧ Below wr.heap.size wr w'' := fun w' hw' => (j_touches (hbe.out _ _ hJ9.out hw') (st_X2 (st_XD (by decide) (by decide)) (st_X2 (st_XB (by decide)) (st_XT 9))) hoj1.out hlj1.out o.lo o.hi).mono fun _ _ ⟨he, hb⟩ => ⟨he, trans0 hw' hb⟩
            have kU : ∀ w' : World, Below wr.heap.size wr w' → Calls Try.prog 24 #[.pointer (some ⟨q, 0, none⟩), .string o.lo, .string o.hi] w' fun e w'' => e = .returned (.bool (tcE S2 o.lo o.hi)) ∧ Below wr.heap.size wr w'' := fun w' hw' => (jd_touches (hbe.out _ _ hJ9.out hw') hoj1.out hlj1.out o.lo o.hi).mono fun _ _ ⟨he, hb⟩ => ⟨he, trans0 hw' hb⟩
            replace kL := Lib.hid kL
            replace kW := Lib.hid kW
            replace kD := Lib.hid kD
            replace kS := Lib.hid kS
            replace kT := Lib.hid kT
            replace kU := Lib.hid kU
            have hfinJ := Lib.hid (fun w' (hB : Below wr.heap.size wr w') => (by rw [hSe.out]; exact jd_drop (hbe.out _ _ hJ9.out hB) : J w (X2 (XS t (rn l (j + 1))) (X2 (XD q (rn l (j + 1))) XT)) w'))
            clear hkx h48 hVS hJ9 hbe hoj1 hlj1 hko hSe
            generalize tcE S2 o.lo o.hi = tb at *
            generalize S2.length = LL at *
            have htb : (tb != tb) = false := by simp
            go_upto_region 31 with (fail)
            go_region_held3 (SQ B q o Aq LL cq)
              (first | with_reducible exact hSd.out | with_reducible exact hS.out | with_reducible assumption | with_reducible exact sq_below hS.out (by assumption) | fail)
              (first
                | (go_at_call 19; ((with_reducible refine (kL.out _ (by first | assumption | exact (Below.refl _ _).drew)).mono ?_); rintro e w' ⟨rfl, hBx⟩))
                | (go_at_call 21; ((with_reducible refine (kW.out _ (by first | assumption | exact (Below.refl _ _).drew)).mono ?_); rintro e w' ⟨Av1, cv1, rfl, hV1, hBx⟩; replace hV1 := Lib.hid hV1))
                | (go_at_call 22; ((with_reducible refine (kD.out _ (by first | assumption | exact (Below.refl _ _).drew)).mono ?_); rintro e w' ⟨Av2, cv2, rfl, hV2, hBx, hBy⟩; have hV1' := Lib.hid (hV1.out.below hBy); replace hV2 := Lib.hid hV2; clear hBy))
                | (go_at_call 20; ((with_reducible refine (kS.out _ _ _ _ _ hV1'.out hV2.out (by first | assumption | exact (Below.refl _ _).drew)).mono ?_); rintro e w' ⟨rfl, hBx⟩))
                | (go_at_call 23; ((with_reducible refine (kT.out _ (by first | assumption | exact (Below.refl _ _).drew)).mono ?_); rintro e w' ⟨rfl, hBx⟩))
                | (go_at_call 24; ((with_reducible refine (kU.out _ (by first | assumption | exact (Below.refl _ _).drew)).mono ?_); rintro e w' ⟨rfl, hBx⟩))
                | fail)
            all_goals
              clear p0 p1 p2 p3 p4 p5 p6 z0 hS hSd kL kW kD kS kT kU
              go_wp2
              go_roundw
              case rel => exact ⟨j + 1, by go_num, by omega, by omega, Lib.hid (hfinJ.out _ (by assumption))⟩
              case measure => simp [intOf]; omega
    · clear hcell
      have hcut : (n ≤ j) ∨ (j < n ∧ ¬ j < 80) := by omega
      have haw := Lib.hid (awake_any wr)
      have hbl := Lib.hid hJ.out.bel
      clear hJ hok hln hlt
      rcases hcut with h1 | ⟨h1, h2⟩
      · have hjI : ¬ (j : Int) < (n : Int) := by omega
        go_wp2_with (fail)
        with_reducible refine haw.out.mono ?_
        rintro e w2 ⟨rfl, hB2⟩
        have hfin := Lib.hid (trans0 hbl.out hB2)
        clear hB2 hbl haw
        go_wp2
        go_ret
        exact ⟨rfl, hfin.out⟩
      · have hjI : (j : Int) < (n : Int) := by omega
        have hj6 : ¬ (j : Int) < 80 := by omega
        go_wp2_with (fail)
        with_reducible refine haw.out.mono ?_
        rintro e w2 ⟨rfl, hB2⟩
        have hfin := Lib.hid (trans0 hbl.out hB2)
        clear hB2 hbl haw
        go_wp2
        go_ret
        exact ⟨rfl, hfin.out⟩
end Go.Proofs.Ytafocefbpkcoaaa.coPl
