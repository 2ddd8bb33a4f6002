/- StabBelow. -/
import Derived.Test.YtmhflemmkoiffaaStbR
set_option linter.unusedVariables false
set_option linter.unusedSimpArgs false
namespace Go.Proofs.Ytmhflemmkoiffaa.stbW
open Go.ChangeShapes Go.WideShapes Go.ChangeAt Go.RowKit Go.Deep
open opG opB stVA stVB stVC stVD stVF stVH stVP stbA stbB stbC stbD stbE stbF stbG stbH stbN stbM stbR

theorem pick (s : Int) (n : Nat) (h0 : 0 < n) (h4 : n ≤ 40) : ∃ i : Nat, i < n ∧ wrap64 ((IntKind.u64.wrap s).tmod (n : Int)) = (i : Int) := by
  have h1 : 0 ≤ IntKind.u64.wrap s := by rw [IntKind.wrap_u64]; omega
  have h2 := Int.emod_lt_of_pos (IntKind.u64.wrap s) (show (0 : Int) < (n : Int) by omega)
  have h3 := Int.emod_nonneg (IntKind.u64.wrap s) (show (n : Int) ≠ 0 by omega)
  rw [Int.tmod_eq_emod_of_nonneg h1]
  generalize IntKind.u64.wrap s % (n : Int) = q at *
  refine ⟨q.toNat, by omega, ?_⟩
  unfold wrap64
  omega
/-! ### A box of a call -/
def lO (o : opB.Op) : List Value := [.int .i64 o.k, .int .i64 o.a, .int .i64 o.e, .int .u64 o.t]
abbrev RO (b : Nat) (o : opB.Op) (w : World) : Prop := w.rowIs b 34 4 (fun i => (lO o).getD i undef)
theorem RO.new (w : World) (o : opB.Op) : RO w.heap.size o (w.alloc (bO o)) := by
  have h := World.rowIs_alloc w #[.int .i64 o.k, .int .i64 o.a, .int .i64 o.e, .int .u64 o.t] 34 (fun i => (lO o).getD i undef) (fun i hi => ?_)
  · exact h
  · rcases four (j := i) (by simpa using hi) with rfl | rfl | rfl | rfl <;> rfl
theorem RO.below {b : Nat} {o : opB.Op} {w w1 : World} (h : RO b o w) (hB : Below w.heap.size w w1) : RO b o w1 := h.of_block (hB.block b h.lt)
theorem RO.kp {b p q : Nat} {o : opB.Op} {w w1 : World} (h : RO b o w) (hk : Kp p q w w1) (hp : b ≠ p) (hq : b ≠ q) : RO b o w1 := h.of_block (hk.block b h.lt hp hq)
abbrev CO (b : Nat) (o : opB.Op) (w : World) : Prop := w.cell? ⟨b, 0, none⟩ = some (.int .i64 o.k) ∧ w.cell? ⟨b, 1, none⟩ = some (.int .i64 o.a) ∧ w.cell? ⟨b, 2, none⟩ = some (.int .i64 o.e) ∧ w.cell? ⟨b, 3, none⟩ = some (.int .u64 o.t)
theorem RO.co {b : Nat} {o : opB.Op} {w : World} (h : RO b o w) : CO b o w := ⟨h.cell (i := 0) (by omega), h.cell (i := 1) (by omega), h.cell (i := 2) (by omega), h.cell (i := 3) (by omega)⟩
/-- the table, the call's box, the world -/
abbrev FF (W : World) (p q b : Nat) (s : Tb) (o : opB.Op) (w : World) : Prop := stbA.T p q s w ∧ RO b o w ∧ Below W.heap.size W w
theorem FF.fo {W w w1 : World} {p q b : Nat} {s : Tb} {o : opB.Op} (h : FF W p q b s o w) (hB : Below w.heap.size w w1) : FF W p q b s o w1 := ⟨h.1.below hB, RO.below h.2.1 hB, trans0 h.2.2 hB⟩
theorem mxP (x y : Int) : (x < y ∧ mx x y = y) ∨ (¬ x < y ∧ mx x y = x) := by
  by_cases h : x < y
  · exact .inl ⟨h, if_pos h⟩
  · exact .inr ⟨h, if_neg h⟩
set_option maxRecDepth 100000 in
set_option maxHeartbeats 4000000 in
theorem below_any (n : Int) (g : V) (a : Option Addr) (len cap : Nat) (l : List opB.Op) (who : Int) (W : World) (h : Rs W QOp 4 a len l) : Calls Try.prog 4 #[.int .i64 n, hV g, .slice a len cap, .int .i64 who] W fun r w' => r = .returned (.bool true) ∧ Below W.heap.size W w' := by
  obtain ⟨hl, hm, h0⟩ := h
  have hB0 := Lib.hid (al0 W (.cells #[.bool true, .bool g.h1, .bool g.h2, .bool g.h3] 22))
  have hG := R4.new W g
  have f0 := hG.frozen 0
  obtain ⟨g0, g1, g2, g3⟩ := R4.cells hG
  obtain ⟨k0, hk0, hk⟩ := pick who 3 (by omega) (by omega)
  obtain ⟨m0, hm0, hmm⟩ := pick n 4 (by omega) (by omega)
  obtain ⟨wo, hwo⟩ : ∃ wo : Nat, wo = k0 + 1 := ⟨_, rfl⟩
  obtain ⟨no, hno⟩ : ∃ no : Nat, no = m0 + 1 := ⟨_, rfl⟩
  have hk2 : wrap64 ((k0 : Int) + 1) = (wo : Int) := by unfold wrap64; omega
  have hm2 : wrap64 ((m0 : Int) + 1) = (no : Int) := by unfold wrap64; omega
  rw [show ((3 : Nat) : Int) = 3 from rfl] at hk
  rw [show ((4 : Nat) : Int) = 4 from rfl] at hmm
  have hw4 : wo < 4 := by omega
  have hw0 : Hid ((0 : Int) ≠ (wo : Int)) := Lib.hid (by omega)
  have hn4 : 1 ≤ no ∧ no ≤ 4 := by omega
  have hnw := Lib.hid (new_ok 0 no ⟨0, true, g.h1, g.h2, g.h3, 0, 0, 0, 0⟩ (W.alloc (.cells #[.bool true, .bool g.h1, .bool g.h2, .bool g.h3] 22)) (by decide) hn4)
  have he1 := Lib.hid (eq_new 0 no ⟨0, true, g.h1, g.h2, g.h3, 0, 0, 0, 0⟩)
  have hb1 := Lib.hid (bl_new wo 0 no ⟨0, true, g.h1, g.h2, g.h3, 0, 0, 0, 0⟩ hw4)
  clear hwo hno hk0 hm0 hG
  rcases h0 with h0 | ⟨b, off, rfl, hbl, hq⟩
  · subst h0
    go_enter Try.func4, Try.ntmps4
    go_wp2_with (fail)
    refine hnw.out.mono ?_
    rintro e w1 ⟨p, q, rfl, hp, hq, hT, hB1⟩
    have hB2 := Lib.hid (trans0 hB0.out hB1)
    rw [hk2]
    clear hB1 g0 g1 g2 g3 f0 hnw hB0 hT hk hmm hk2 hm2
    generalize (IntKind.u64.wrap who).tmod 3 = z1 at *
    generalize (IntKind.u64.wrap n).tmod 4 = z2 at *
    go_wp2
    go_loopw [14] (fun i wr => i = .int .i64 0 ∧ wr = w1) (fun i _ => 50 - (intOf i).toNat)
    case atStart => exact ⟨rfl, rfl⟩
    case round =>
      obtain ⟨rfl, rfl⟩ := hrel
      go_wp2_with (fail)
      refine (awake_any _).mono ?_
      rintro e w2 ⟨rfl, hB⟩
      replace hB := Lib.hid (trans0 hB2.out hB)
      go_wp2
      go_ret
      exact ⟨rfl, hB.out⟩
  · have hq' := Lib.hid hq
    clear hq
    have hl' := Lib.hid hl
    clear hl
    go_enter Try.func4, Try.ntmps4
    go_wp2_with (fail)
    refine hnw.out.mono ?_
    rintro e w1 ⟨p, q, rfl, hp, hq, hT, hB1⟩
    have hB2 := Lib.hid (trans0 hB0.out hB1)
    have hT1 := Lib.hid hT
    have hpq : Hid (W.heap.size ≤ p ∧ W.heap.size ≤ q) := Lib.hid (by rw [World.size_alloc] at hp hq; omega)
    rw [hk2]
    clear hB1 g0 g1 g2 g3 f0 hnw hB0 hT hp hq hk hmm hk2 hm2
    generalize (IntKind.u64.wrap who).tmod 3 = z1 at *
    generalize (IntKind.u64.wrap n).tmod 4 = z2 at *
    go_wp2
    go_loopw [11, 12, 13, 14] (fun u v x i wr => ∃ (j : Nat) (s : Tb) (d : Wd), u = .int .u64 d.told ∧ v = .int .u64 d.ahead ∧ x = .int .i64 d.joined ∧ i = .int .i64 j ∧ j ≤ len ∧ j ≤ 150 ∧ Hid (stbA.T p q s wr) ∧ Hid (s.eq ∧ s.dc = 0 ∧ Bl wo s d) ∧ Hid (Below W.heap.size W wr)) (fun _ _ _ i _ => 150 - (intOf i).toNat)
    case atStart => exact ⟨0, _, ⟨0, 0, 0⟩, rfl, rfl, rfl, rfl, by omega, by omega, hT1, Lib.hid ⟨he1.out, rfl, hb1.out⟩, hB2⟩
    case round =>
      clear hT1 he1 hb1 hB2
      obtain ⟨j, s, d, rfl, rfl, rfl, rfl, hj, hj5, hT, hE, hB⟩ := hrel
      by_cases h1 : j < len
      · by_cases h2 : j < 150
        · have hQ := Lib.hid (hq'.out j h1)
          generalize l.getD j default = o at *
          have hE2 : Hid ((doS s o).eq ∧ (doS s o).dc = 0 ∧ Bl wo (doS s o) (wdS s o wo d)) := Lib.hid ⟨eq_do hE.out.1 o, (dc_do s o).trans hE.out.2.1, bl_step o hw4 (by rw [hE.out.2.1]; exact hw0.out) hE.out.1 hE.out.2.2⟩
          have kD := Lib.hid (fun wx (hx : stbA.T p q s wx) => do_any o wx hx hE.out.1)
          obtain ⟨er, her⟩ : ∃ er, doE s o = er := ⟨_, rfl⟩
          obtain ⟨D, hD⟩ : ∃ D, w1S s o wo d = D := ⟨_, rfl⟩
          unfold wdS at hE2
          rw [hD] at hE2
          have hdj := Lib.hid hE.out.2.2.jo
          rw [her] at kD
          replace her := Lib.hid her
          replace hD := Lib.hid hD
          generalize doS s o = s2 at *
          clear hE
          obtain ⟨k0, k1, k2, k3⟩ := op_at hQ.out hB.out
          have hTa := Lib.hid (hT.out.below (al0 _ (bO o)))
          have hBa := Lib.hid (trans0 hB.out (al0 _ (bO o)))
          have hRa := Lib.hid (RO.new wr o)
          have hbx : Hid (wr.heap.size ≠ p ∧ wr.heap.size ≠ q) := Lib.hid (by have h1 := hT.out.row.lt; have h2 := hT.out.bts.lt; omega)
          obtain ⟨o0, o1, o2, o3⟩ := RO.co hRa.out
          go_wp2_with (fail)
          refine (stable_any _ hTa.out).mono ?_
          rintro e wb ⟨rfl, rfl⟩
          go_wp2_with (fail)
          refine (kD.out _ hTa.out).mono ?_
          rintro e w5 ⟨rfl, hT5, hK5⟩
          have hF5 : Hid (FF W p q wr.heap.size s2 o w5) := Lib.hid ⟨hT5, RO.kp hRa.out hK5 hbx.out.1 hbx.out.2, kp_below hBa.out hK5 hpq.out.1 hpq.out.2⟩
          clear hT5 hK5 hTa hBa hRa hbx kD k0 k1 k2 k3 o0 o1 o2 o3 hT hB
          generalize wr.heap.size = bx at *
          obtain ⟨o0, o1, o2, o3⟩ := RO.co hF5.out.2.1
          go_upto_block 2 with fail
          go_cut [11, 12, 13] from 50 to 102 (fun u v x wx => u = .int .u64 D.told ∧ v = .int .u64 D.ahead ∧ x = .int .i64 D.joined ∧ Hid (FF W p q bx s2 o wx))
          case first =>
            by_cases n3 : o.k = 3
            · rw [n3] at o0
              by_cases hz : er = 0
              · subst hz
                have eD := hD.out
                unfold w1S at eD
                rw [if_pos ⟨n3, her.out⟩] at eD
                subst eD
                clear hE2 hD her hdj hQ
                go_upto_region 15 with (fail)
                go_quiet (fail)
                have hF6 : Hid (FF W p q bx s2 o (w5.drewN nq)) := Lib.hid (hF5.out.fo (bdrN nq (Below.refl _ _)))
                go_wp2
                go_meet
                exact ⟨rfl, rfl, rfl, hF6⟩
              · have bz : (er == 0) = false := by simpa using hz
                have eD := hD.out
                unfold w1S at eD
                rw [if_neg (by rw [her.out]; exact fun x => hz x.2), if_neg (by omega), if_neg (by omega)] at eD
                subst eD
                clear hE2 hD her hdj hQ
                go_wp2
                go_meet
                exact ⟨rfl, rfl, rfl, hF5⟩
            by_cases n2 : o.k = 2
            · rw [n2] at o0
              by_cases ha : o.a = (wo : Int)
              · by_cases hje : d.joined ≤ o.e
                · rcases mxP d.told o.t with ⟨hlt, hmx⟩ | ⟨hlt, hmx⟩
                  · rw [ha] at o1
                    have eD := hD.out
                    unfold w1S at eD
                    rw [if_neg (by omega), if_pos ⟨n2, ha, hje⟩, hmx] at eD
                    subst eD
                    clear hE2 hD her hdj hQ
                    go_wp2
                    go_meet
                    exact ⟨rfl, rfl, rfl, hF5⟩
                  · rw [ha] at o1
                    have eD := hD.out
                    unfold w1S at eD
                    rw [if_neg (by omega), if_pos ⟨n2, ha, hje⟩, hmx] at eD
                    subst eD
                    clear hE2 hD her hdj hQ
                    go_wp2
                    go_meet
                    exact ⟨rfl, rfl, rfl, hF5⟩
                · rw [ha] at o1
                  have hje' : o.e < d.joined := by omega
                  have eD := hD.out
                  unfold w1S at eD
                  rw [if_neg (by omega), if_neg (fun x => hje x.2.2), if_neg (by omega)] at eD
                  subst eD
                  clear hE2 hD her hdj hQ
                  go_wp2
                  go_meet
                  exact ⟨rfl, rfl, rfl, hF5⟩
              · have ba : (o.a == (wo : Int)) = false := by simpa using ha
                have eD := hD.out
                unfold w1S at eD
                rw [if_neg (by omega), if_neg (fun x => ha x.2.1), if_neg (by omega)] at eD
                subst eD
                clear hE2 hD her hdj hQ
                go_wp2
                go_meet
                exact ⟨rfl, rfl, rfl, hF5⟩
            have b3 : (o.k == 3) = false := by simpa using n3
            have b2 : (o.k == 2) = false := by simpa using n2
            by_cases n0 : o.k < 0
            · rcases mxP d.ahead o.t with ⟨hlt, hmx⟩ | ⟨hlt, hmx⟩
              · have eD := hD.out
                unfold w1S at eD
                rw [if_neg (by omega), if_neg (by omega), if_pos (.inl n0), hmx] at eD
                subst eD
                clear hE2 hD her hdj hQ
                go_wp2
                go_meet
                exact ⟨rfl, rfl, rfl, hF5⟩
              · have eD := hD.out
                unfold w1S at eD
                rw [if_neg (by omega), if_neg (by omega), if_pos (.inl n0), hmx] at eD
                subst eD
                clear hE2 hD her hdj hQ
                go_wp2
                go_meet
                exact ⟨rfl, rfl, rfl, hF5⟩
            by_cases n4 : 4 < o.k
            · rcases mxP d.ahead o.t with ⟨hlt, hmx⟩ | ⟨hlt, hmx⟩
              · have eD := hD.out
                unfold w1S at eD
                rw [if_neg (by omega), if_neg (by omega), if_pos (.inr n4), hmx] at eD
                subst eD
                clear hE2 hD her hdj hQ
                go_wp2
                go_meet
                exact ⟨rfl, rfl, rfl, hF5⟩
              · have eD := hD.out
                unfold w1S at eD
                rw [if_neg (by omega), if_neg (by omega), if_pos (.inr n4), hmx] at eD
                subst eD
                clear hE2 hD her hdj hQ
                go_wp2
                go_meet
                exact ⟨rfl, rfl, rfl, hF5⟩
            · have eD := hD.out
              unfold w1S at eD
              rw [if_neg (by omega), if_neg (by omega), if_neg (by omega)] at eD
              subst eD
              clear hE2 hD her hdj hQ
              go_wp2
              go_meet
              exact ⟨rfl, rfl, rfl, hF5⟩
          case rest =>
            obtain ⟨rfl, rfl, rfl, hF6⟩ := hcut
            clear hF5 hD her hdj o0 o1 o2 o3
            have hix := ix s2.g hw4
            go_wp2_with (fail)
            refine (members_any _ hF6.out.1).mono ?_
            rintro e w7 ⟨rfl, hB9⟩
            have hF7 := Lib.hid (FF.fo hF6.out hB9)
            clear hB9 hF6
            obtain ⟨o0, -, -, -⟩ := RO.co hF7.out.2.1
            have hW : Hid (w2S s2 o wo D = if hb s2.g wo = true then D else ⟨if o.k = 3 then D.told else 0, mx D.ahead s2.st, D.joined⟩) := Lib.hid rfl
            obtain ⟨D2, hD2⟩ : ∃ D2, w2S s2 o wo D = D2 := ⟨_, rfl⟩
            rw [hD2] at hE2 hW
            clear hD2
            have hask := Lib.hid (bl_asks hE2.out.2.2)
            generalize hb s2.g wo = m at *
            obtain ⟨tld, ahd, jnd⟩ := D
            cases m
            · rcases mxP ahd s2.st with ⟨hlt, hmx⟩ | ⟨hlt, hmx⟩
              · by_cases n3 : o.k = 3
                · have eD : D2 = ⟨tld, s2.st, jnd⟩ := hW.out.trans (by rw [if_neg (by decide), if_pos n3]; exact congrArg (fun x => (⟨tld, x, jnd⟩ : Wd)) hmx)
                  subst eD
                  clear hW
                  rw [n3] at o0
                  have hk2 := hask.out
                  rcases mxP tld s2.st with ⟨hlt2, hmx2⟩ | ⟨hlt2, hmx2⟩
                  · rw [show mx (⟨tld, s2.st, jnd⟩ : Wd).told (⟨tld, s2.st, jnd⟩ : Wd).ahead = _ from hmx2] at hk2
                    go_wp2_with (fail)
                    refine (stable_any _ hF7.out.1).mono ?_
                    rintro e wb ⟨rfl, rfl⟩
                    go_wp2_with (fail)
                    refine (stable_any _ hF7.out.1).mono ?_
                    rintro e wb ⟨rfl, rfl⟩
                    have hT9 := Lib.hid hF7.out.1
                    have hB9 := Lib.hid hF7.out.2.2
                    clear hix hask hF7 o0
                    go_wp2
                    go_roundw
                    case rel => exact ⟨j + 1, s2, ⟨tld, s2.st, jnd⟩, rfl, rfl, rfl, by go_num, by omega, by omega, hT9, hE2, hB9⟩
                    case measure => simp [intOf]; omega
                  · rw [show mx (⟨tld, s2.st, jnd⟩ : Wd).told (⟨tld, s2.st, jnd⟩ : Wd).ahead = _ from hmx2] at hk2
                    go_wp2_with (fail)
                    refine (stable_any _ hF7.out.1).mono ?_
                    rintro e wb ⟨rfl, rfl⟩
                    go_wp2_with (fail)
                    refine (stable_any _ hF7.out.1).mono ?_
                    rintro e wb ⟨rfl, rfl⟩
                    have hT9 := Lib.hid hF7.out.1
                    have hB9 := Lib.hid hF7.out.2.2
                    clear hix hask hF7 o0
                    go_wp2
                    go_roundw
                    case rel => exact ⟨j + 1, s2, ⟨tld, s2.st, jnd⟩, rfl, rfl, rfl, by go_num, by omega, by omega, hT9, hE2, hB9⟩
                    case measure => simp [intOf]; omega
                · have eD : D2 = ⟨0, s2.st, jnd⟩ := hW.out.trans (by rw [if_neg (by decide), if_neg n3]; exact congrArg (fun x => (⟨0, x, jnd⟩ : Wd)) hmx)
                  subst eD
                  clear hW
                  have b3 : (o.k != 3) = true := by simpa using n3
                  have hk2 := hask.out
                  rcases mxP 0 s2.st with ⟨hlt2, hmx2⟩ | ⟨hlt2, hmx2⟩
                  · rw [show mx (⟨0, s2.st, jnd⟩ : Wd).told (⟨0, s2.st, jnd⟩ : Wd).ahead = _ from hmx2] at hk2
                    go_wp2_with (fail)
                    refine (stable_any _ hF7.out.1).mono ?_
                    rintro e wb ⟨rfl, rfl⟩
                    go_wp2_with (fail)
                    refine (stable_any _ hF7.out.1).mono ?_
                    rintro e wb ⟨rfl, rfl⟩
                    have hT9 := Lib.hid hF7.out.1
                    have hB9 := Lib.hid hF7.out.2.2
                    clear hix hask hF7 o0
                    go_wp2
                    go_roundw
                    case rel => exact ⟨j + 1, s2, ⟨0, s2.st, jnd⟩, rfl, rfl, rfl, by go_num, by omega, by omega, hT9, hE2, hB9⟩
                    case measure => simp [intOf]; omega
                  · rw [show mx (⟨0, s2.st, jnd⟩ : Wd).told (⟨0, s2.st, jnd⟩ : Wd).ahead = _ from hmx2] at hk2
                    go_wp2_with (fail)
                    refine (stable_any _ hF7.out.1).mono ?_
                    rintro e wb ⟨rfl, rfl⟩
                    go_wp2_with (fail)
                    refine (stable_any _ hF7.out.1).mono ?_
                    rintro e wb ⟨rfl, rfl⟩
                    have hT9 := Lib.hid hF7.out.1
                    have hB9 := Lib.hid hF7.out.2.2
                    clear hix hask hF7 o0
                    go_wp2
                    go_roundw
                    case rel => exact ⟨j + 1, s2, ⟨0, s2.st, jnd⟩, rfl, rfl, rfl, by go_num, by omega, by omega, hT9, hE2, hB9⟩
                    case measure => simp [intOf]; omega
              · by_cases n3 : o.k = 3
                · have eD : D2 = ⟨tld, ahd, jnd⟩ := hW.out.trans (by rw [if_neg (by decide), if_pos n3]; exact congrArg (fun x => (⟨tld, x, jnd⟩ : Wd)) hmx)
                  subst eD
                  clear hW
                  rw [n3] at o0
                  have hk2 := hask.out
                  rcases mxP tld ahd with ⟨hlt2, hmx2⟩ | ⟨hlt2, hmx2⟩
                  · rw [show mx (⟨tld, ahd, jnd⟩ : Wd).told (⟨tld, ahd, jnd⟩ : Wd).ahead = _ from hmx2] at hk2
                    go_wp2_with (fail)
                    refine (stable_any _ hF7.out.1).mono ?_
                    rintro e wb ⟨rfl, rfl⟩
                    go_wp2_with (fail)
                    refine (stable_any _ hF7.out.1).mono ?_
                    rintro e wb ⟨rfl, rfl⟩
                    have hT9 := Lib.hid hF7.out.1
                    have hB9 := Lib.hid hF7.out.2.2
                    clear hix hask hF7 o0
                    go_wp2
                    go_roundw
                    case rel => exact ⟨j + 1, s2, ⟨tld, ahd, jnd⟩, rfl, rfl, rfl, by go_num, by omega, by omega, hT9, hE2, hB9⟩
                    case measure => simp [intOf]; omega
                  · rw [show mx (⟨tld, ahd, jnd⟩ : Wd).told (⟨tld, ahd, jnd⟩ : Wd).ahead = _ from hmx2] at hk2
                    go_wp2_with (fail)
                    refine (stable_any _ hF7.out.1).mono ?_
                    rintro e wb ⟨rfl, rfl⟩
                    go_wp2_with (fail)
                    refine (stable_any _ hF7.out.1).mono ?_
                    rintro e wb ⟨rfl, rfl⟩
                    have hT9 := Lib.hid hF7.out.1
                    have hB9 := Lib.hid hF7.out.2.2
                    clear hix hask hF7 o0
                    go_wp2
                    go_roundw
                    case rel => exact ⟨j + 1, s2, ⟨tld, ahd, jnd⟩, rfl, rfl, rfl, by go_num, by omega, by omega, hT9, hE2, hB9⟩
                    case measure => simp [intOf]; omega
                · have eD : D2 = ⟨0, ahd, jnd⟩ := hW.out.trans (by rw [if_neg (by decide), if_neg n3]; exact congrArg (fun x => (⟨0, x, jnd⟩ : Wd)) hmx)
                  subst eD
                  clear hW
                  have b3 : (o.k != 3) = true := by simpa using n3
                  have hk2 := hask.out
                  rcases mxP 0 ahd with ⟨hlt2, hmx2⟩ | ⟨hlt2, hmx2⟩
                  · rw [show mx (⟨0, ahd, jnd⟩ : Wd).told (⟨0, ahd, jnd⟩ : Wd).ahead = _ from hmx2] at hk2
                    go_wp2_with (fail)
                    refine (stable_any _ hF7.out.1).mono ?_
                    rintro e wb ⟨rfl, rfl⟩
                    go_wp2_with (fail)
                    refine (stable_any _ hF7.out.1).mono ?_
                    rintro e wb ⟨rfl, rfl⟩
                    have hT9 := Lib.hid hF7.out.1
                    have hB9 := Lib.hid hF7.out.2.2
                    clear hix hask hF7 o0
                    go_wp2
                    go_roundw
                    case rel => exact ⟨j + 1, s2, ⟨0, ahd, jnd⟩, rfl, rfl, rfl, by go_num, by omega, by omega, hT9, hE2, hB9⟩
                    case measure => simp [intOf]; omega
                  · rw [show mx (⟨0, ahd, jnd⟩ : Wd).told (⟨0, ahd, jnd⟩ : Wd).ahead = _ from hmx2] at hk2
                    go_wp2_with (fail)
                    refine (stable_any _ hF7.out.1).mono ?_
                    rintro e wb ⟨rfl, rfl⟩
                    go_wp2_with (fail)
                    refine (stable_any _ hF7.out.1).mono ?_
                    rintro e wb ⟨rfl, rfl⟩
                    have hT9 := Lib.hid hF7.out.1
                    have hB9 := Lib.hid hF7.out.2.2
                    clear hix hask hF7 o0
                    go_wp2
                    go_roundw
                    case rel => exact ⟨j + 1, s2, ⟨0, ahd, jnd⟩, rfl, rfl, rfl, by go_num, by omega, by omega, hT9, hE2, hB9⟩
                    case measure => simp [intOf]; omega
            · have eD : D2 = ⟨tld, ahd, jnd⟩ := hW.out.trans (if_pos rfl)
              subst eD
              clear hW
              have hk2 := hask.out
              rcases mxP tld ahd with ⟨hlt2, hmx2⟩ | ⟨hlt2, hmx2⟩
              · rw [show mx (⟨tld, ahd, jnd⟩ : Wd).told (⟨tld, ahd, jnd⟩ : Wd).ahead = _ from hmx2] at hk2
                go_wp2_with (fail)
                refine (stable_any _ hF7.out.1).mono ?_
                rintro e wb ⟨rfl, rfl⟩
                have hT9 := Lib.hid hF7.out.1
                have hB9 := Lib.hid hF7.out.2.2
                clear hix hask hF7 o0
                go_wp2
                go_roundw
                case rel => exact ⟨j + 1, s2, ⟨tld, ahd, jnd⟩, rfl, rfl, rfl, by go_num, by omega, by omega, hT9, hE2, hB9⟩
                case measure => simp [intOf]; omega
              · rw [show mx (⟨tld, ahd, jnd⟩ : Wd).told (⟨tld, ahd, jnd⟩ : Wd).ahead = _ from hmx2] at hk2
                go_wp2_with (fail)
                refine (stable_any _ hF7.out.1).mono ?_
                rintro e wb ⟨rfl, rfl⟩
                have hT9 := Lib.hid hF7.out.1
                have hB9 := Lib.hid hF7.out.2.2
                clear hix hask hF7 o0
                go_wp2
                go_roundw
                case rel => exact ⟨j + 1, s2, ⟨tld, ahd, jnd⟩, rfl, rfl, rfl, by go_num, by omega, by omega, hT9, hE2, hB9⟩
                case measure => simp [intOf]; omega
        · obtain rfl : j = 150 := by omega
          go_wp2_with (fail)
          refine (awake_any _).mono ?_
          rintro e w2 ⟨rfl, hB2⟩
          have hB3 := Lib.hid (trans0 hB.out hB2)
          go_wp2
          go_ret
          exact ⟨rfl, hB3.out⟩
      · obtain rfl : j = len := by omega
        go_wp2_with (fail)
        refine (awake_any _).mono ?_
        rintro e w2 ⟨rfl, hB2⟩
        have hB3 := Lib.hid (trans0 hB.out hB2)
        go_wp2
        go_ret
        exact ⟨rfl, hB3.out⟩
end Go.Proofs.Ytmhflemmkoiffaa.stbW
