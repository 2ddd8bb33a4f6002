/- The document's Put (for StorePlays). -/
import Derived.Test.YtlojmojmijklmaaStoRb
import Derived.Test.YtlojmojmijklmaaStoC
import Derived.Test.YtlojmojmijklmaaChnK
import Derived.Test.YtlojmojmijklmaaChnF
import Derived.Deep.DeepCutAuto
import Derived.Deep.CutBlock
import Derived.Deep.CutRange
set_option linter.unusedVariables false
set_option maxRecDepth 100000
namespace Go.Proofs.Ytlojmojmijklmaa.stoRc
open Go.ChangeShapes Go.WideShapes Go.ChangeAt Go.RowKit Go.Deep
open opV chnM gen chnA chnB chnR chnE chnF chnG chnK chnT stoM stoA stoB stoC stoRa stoRb
attribute [local go_sem high] bin_slt bin_sle bin_sge bin_sgt bin_seq bin_sne

/-- what the document's Put leaves -/
def DPut (B : Nat → Prop) (M : Nat) (s : St) (v : Ver) (w : World) (e : Ending) (w' : World) : Prop :=
  e = .returned (.int .i64 (puE s v : Nat)) ∧ Chg (fun k => k = M) w w' ∧ DAt B w' M (puS s v)
theorem DPut.no {B : Nat → Prop} {M : Nat} {s : St} {v : Ver} {w w' : World} {E : Int} (h : DAt B w M s) (hE : (puE s v : Int) = E) (h0 : puE s v ≠ 0) (hB : Below w.heap.size w w') : DPut B M s v w (.returned (.int .i64 E)) w' :=
  ⟨by rw [hE], Chg.of_below _ hB, by unfold puS; rw [if_neg h0]; exact h.below hB⟩
abbrev SP (W : World) (p q M : Nat) (fl : Int) (v x : Ver) (w : World) : Prop := V6 p 0 v w ∧ V6 q 0 x w ∧ Below W.heap.size W w
theorem SP.fo {W w w1 : World} {p q M : Nat} {fl : Int} {v x : Ver} (hB : Below w.heap.size w w1) (h : SP W p q M fl v x w) : SP W p q M fl v x w1 := ⟨h.1.below hB, h.2.1.below hB, trans0 h.2.2 hB⟩
set_option maxHeartbeats 8000000 in
theorem dput_any {B : Nat → Prop} {M : Nat} {s : St} (v : Ver) (w : World) (h : DAt B w M s) (hof : (of s.ch v.key).length ≤ 60000) (hcl : s.ch.length ≤ 60000) :
    Calls Try.prog 12 #[.pointer (some ⟨M, 0, none⟩), .agg #[.string v.key, .string v.val, .bool v.gone, .int .u64 v.ts, .int .i64 v.dc, .int .i64 v.tx]] w (DPut B M s v w) := by
  obtain ⟨w0, hw0⟩ : ∃ w0, w.alloc (.cells #[.string v.key, .string v.val, .bool v.gone, .int .u64 v.ts, .int .i64 v.dc, .int .i64 v.tx] 35) = w0 := ⟨_, rfl⟩
  have hB0 : Below w.heap.size w w0 := by rw [← hw0]; exact al0 _ _
  have hV0 : V6 w.heap.size 0 v w0 := by rw [← hw0]; exact V6.new w v _
  obtain ⟨E, hE⟩ : ∃ E : Int, ((chk v : Nat) : Int) = E := ⟨_, rfl⟩
  have hck := rcheck_any v w0
  rw [hE] at hck
  replace hck := Lib.hid hck
  replace hw0 := Lib.hid hw0
  replace hB0 := Lib.hid hB0
  replace hV0 := Lib.hid hV0
  replace h := Lib.hid h
  obtain ⟨D, hD⟩ : ∃ D, DPut B M s v w = D := ⟨_, rfl⟩
  rw [hD]
  replace hD := Lib.hid hD
  by_cases hc : chk v = 0
  · have hE0 : E = 0 := by rw [← hE, hc]; rfl
    subst hE0
    clear hE
    obtain ⟨E2, hE2⟩ : ∃ E : Int, ((putE (of s.ch v.key) v : Nat) : Int) = E := ⟨_, rfl⟩
    go_enter Try.func12, Try.ntmps12
    go_wp2_with (fail)
    rw [hw0.out]
    with_reducible refine hck.out.mono ?_
    rintro e w1 ⟨rfl, hB1⟩
    have h1 := Lib.hid ((h.out.below hB0.out).below hB1)
    have hV1 := Lib.hid (hV0.out.below hB1)
    have hBx := Lib.hid (trans0 hB0.out hB1)
    clear hck hB1 hV0 hB0 hw0
    obtain ⟨a0, a1, a2, a3, a4, a5⟩ := hV1.out
    go_wp2_with (fail)
    with_reducible refine (dof_any v.key w1 h1.out).mono ?_
    rintro e w' ⟨⟨vv, rfl, hDV⟩, rfl⟩
    obtain ⟨A, c, rfl, hHV, hno⟩ := hDV
    generalize hl : of s.ch v.key = l at *
    have hpu := Lib.hid (rput_any A c l v w1 hHV (by omega))
    replace hHV := Lib.hid hHV
    clear hno
    go_wp2_with (fail)
    with_reducible refine hpu.out.mono ?_
    rintro e w2 ⟨A2, c2, rfl, hG2, hB2⟩
    rw [hE2]
    have h2 := Lib.hid (h1.out.below hB2)
    have hV2 := Lib.hid (hV1.out.below hB2)
    have hBy := Lib.hid (trans0 hBx.out hB2)
    have hHV2 := Lib.hid (hHV.out.below hB2)
    replace hG2 := Lib.hid hG2
    clear hpu hB2 h1 hV1 hBx hHV a0 a1 a2 a3 a4 a5
    by_cases hp : putE l v = 0
    · have hE0 : E2 = 0 := by rw [← hE2, hp]; rfl
      subst hE0
      clear hE2
      have hpl : putL l v = put l v := if_pos hp
      rw [hpl] at hG2 ⊢
      obtain ⟨Am, cm, Rm, hDm⟩ := h2.out
      obtain ⟨b0, b1⟩ := hDm.cells
      replace hDm := Lib.hid hDm
      have hat := Lib.hid (rat_any A c l s.fl w2 hHV2.out)
      obtain ⟨x, hx⟩ : ∃ x, atV l s.fl = x := ⟨_, rfl⟩
      obtain ⟨y, hy⟩ : ∃ y, atB l s.fl = y := ⟨_, rfl⟩
      rw [hx, hy] at hat
      go_wp2_with (fail)
      with_reducible refine hat.out.mono ?_
      rintro e w3 ⟨rfl, hB3⟩
      obtain ⟨w4, hw4⟩ : ∃ w4, w3.alloc (.cells #[.string x.key, .string x.val, .bool x.gone, .int .u64 x.ts, .int .i64 x.dc, .int .i64 x.tx] 35) = w4 := ⟨_, rfl⟩
      obtain ⟨p4, hp4⟩ : ∃ p4, w3.heap.size = p4 := ⟨_, rfl⟩
      have hB4 : Below w2.heap.size w2 w4 := by rw [← hw4]; exact bal hB3 _
      have hX4 : V6 p4 0 x w4 := by rw [← hw4, ← hp4]; exact V6.new w3 x _
      have hS4 := Lib.hid (show SP w4 w.heap.size p4 M s.fl v x w4.drew from ⟨(hV2.out.below hB4).below (below_drew w4), hX4.below (below_drew w4), below_drew w4⟩)
      have hBz := Lib.hid (trans0 hBy.out hB4)
      have h4 := Lib.hid (h2.out.below hB4)
      have hG4 := Lib.hid (hG2.out.below hB4)
      replace hw4 := Lib.hid hw4
      replace hp4 := Lib.hid hp4
      clear hat hB3 hB4 hX4 h2 hV2 hBy hHV2 hG2 hDm b0 b1
      go_upto_region 9 with (fail)
      rw [hw4.out, hp4.out]
      clear hw4 hp4
      have hlt : isAhead (v.ts, v.dc, v.tx) (x.ts, x.dc, x.tx) = lt v x := rfl
      have hless := less_any (v.ts, v.dc, v.tx) (x.ts, x.dc, x.tx)
      rw [hlt] at hless
      replace hless := Lib.hid hless
      obtain ⟨g, hg⟩ : ∃ g, lt v x = g := ⟨_, rfl⟩
      rw [hg] at hless
      have hgg := Lib.hid hg
      clear hlt hg
      go_cut [45] from 38 to 45 (fun z wx => z = .bool (y && g) ∧ Hid (SP w4 w.heap.size p4 M s.fl v x wx))
      case first =>
        obtain ⟨a0, a1, a2, a3, a4, a5⟩ := hS4.out.1
        obtain ⟨z0, z1, z2, z3, z4, z5⟩ := hS4.out.2.1
        cases y
        · go_quiet (fail)
          have hS6 := Lib.hid (show SP w4 w.heap.size p4 M s.fl v x (w4.drewN nq) from ⟨hS4.out.1, hS4.out.2.1, bdrN nq (Below.refl _ _)⟩)
          clear hS4
          go_wp2
          go_meet
          exact ⟨rfl, hS6⟩
        · clear a0 a1 a2 a3 a4 a5 z0 z1 z2 z3 z4 z5
          go_region_held3 (SP w4 w.heap.size p4 M s.fl v x)
            (first | with_reducible exact hS4.out | with_reducible assumption | with_reducible exact SP.fo (by assumption) (by assumption) | (go_must (exact (0 : Nat))) | fail)
            (first
              | (go_at_call 40; ((with_reducible refine (rof_any _ _).mono ?_); rintro e w' ⟨rfl, hB9⟩))
              | (go_at_call 39; ((with_reducible refine (hless.out _).mono ?_); rintro e w' ⟨rfl, hB9⟩))
              | fail)
          rename_i hH
          have hS6 := Lib.hid hH
          clear hH hB9
          go_wp2
          go_meet
          exact ⟨by simp, hS6⟩
      case rest =>
        obtain ⟨rfl, hS6⟩ := hcut
        have hpe0 : (y && g) = true → puE s v = 11 := by
          intro q
          unfold puE
          rw [if_neg (by omega), hl, if_neg (by omega), hy, hx, hgg.out, q, if_pos rfl]
        have hpe1 : (y && g) = false → puE s v = 0 := by
          intro q
          unfold puE
          rw [if_neg (by omega), hl, if_neg (by omega), hy, hx, hgg.out, q, if_neg (by simp)]
        have hBw : Below w.heap.size w wc := trans0 hBz.out hS6.out.2.2
        clear hx hy hgg hless hS4
        generalize (y && g) = t at *
        cases t
        · have hpe := hpe1 rfl
          have hc5 := h4.out.below hS6.out.2.2
          obtain ⟨Ak, ck, Rk, hDk⟩ := hc5
          obtain ⟨b0, b1⟩ := hDk.cells
          have hbd := hDk.bd
          have hpn : (put l v).length ≤ 60001 := by rw [put_len]; omega
          have htn := trm_le (put l v) s.fl
          have htr := Lib.hid (rtrim_any A2 c2 (put l v) s.fl wc ((hG4.out.below hS6.out.2.2).hv (by omega)))
          have hDa := Lib.hid (show DAt B wc M s from ⟨Ak, ck, Rk, hDk⟩)
          have hVc := Lib.hid hS6.out.1
          replace hBw := Lib.hid hBw
          replace hbd := Lib.hid hbd
          clear hpe0 hpe1 hDk hS6 hG4 h4
          generalize hm : trm (put l v) s.fl = m at *
          have hm64 : m.length * 64 ≤ 140737488355328 := by omega
          go_wp2_with (fail)
          with_reducible refine htr.out.mono ?_
          rintro e w5 ⟨A5, c5, rfl, hG5, hB5⟩
          have hD5 := Lib.hid (hDa.out.below hB5)
          have hV5 := Lib.hid (hVc.out.below hB5)
          have hds := Lib.hid (dset_any v.key m (.slice A5 m.length c5) w5 hD5.out (DV.of_gv hG5 hm64 hbd.out) hcl)
          have hBv := Lib.hid (trans0 hBw.out hB5)
          clear htr hG5 hB5 hDa hVc hbd hD5 b0 b1
          obtain ⟨a0, a1, a2, a3, a4, a5⟩ := hV5.out
          go_wp2_with (fail)
          with_reducible refine hds.out.mono ?_
          rintro e w6 ⟨rfl, hC6, hD6⟩
          have hps : puS s v = ⟨stC s.ch v.key m, s.fl⟩ := by unfold puS puC; rw [if_pos hpe, hl, hm]
          have hfin := Lib.hid (show DPut B M s v w (.returned (.int .i64 0)) w6 from ⟨by rw [hpe]; rfl, (Chg.of_below _ hBv.out).trans hC6, by rw [hps]; exact hD6⟩)
          rw [hD.out] at hfin
          clear hds hC6 hD6 hBv hV5 hps hpe hm a0 a1 a2 a3 a4 a5
          go_wp2
          exact hfin.out
        · have hpe := hpe0 rfl
          have hfin := Lib.hid (show DPut B M s v w (.returned (.int .i64 11)) wc from DPut.no h.out (by rw [hpe]; rfl) (by rw [hpe]; decide) hBw)
          rw [hD.out] at hfin
          clear hpe0 hpe1 hpe hBw
          go_wp2
          exact hfin.out
    · have hne : (E2 != 0) = true := by rw [← hE2, bne_iff_ne]; omega
      have hpe : puE s v = putE l v := by unfold puE; rw [if_neg (by omega), hl, if_pos hp]
      have hfin := Lib.hid (show DPut B M s v w (.returned (.int .i64 E2)) w2 from DPut.no h.out (by rw [hpe, hE2]) (by rw [hpe]; exact hp) hBy.out)
      rw [hD.out] at hfin
      clear hE2 hp hpe
      go_wp2
      exact hfin.out
  · have hne : (E != 0) = true := by rw [← hE, bne_iff_ne]; omega
    have hpe : puE s v = chk v := by unfold puE; rw [if_pos hc]
    have hhh := Lib.hid (fun (w' : World) (hB : Below w.heap.size w w') => (show DPut B M s v w (.returned (.int .i64 E)) w' from DPut.no h.out (by rw [hpe, hE]) (by rw [hpe]; exact hc) hB))
    rw [hD.out] at hhh
    clear hE hc hpe
    go_enter Try.func12, Try.ntmps12
    go_wp2_with (fail)
    rw [hw0.out]
    with_reducible refine hck.out.mono ?_
    rintro e w1 ⟨rfl, hB1⟩
    have hfin := Lib.hid (hhh.out w1 (trans0 hB0.out hB1))
    clear hck hB1 hhh
    go_wp2
    exact hfin.out
end Go.Proofs.Ytlojmojmijklmaa.stoRc
