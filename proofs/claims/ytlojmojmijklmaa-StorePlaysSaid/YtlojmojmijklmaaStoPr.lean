/- The contract of a store's Put, where the version may be taken. -/
import Derived.Test.YtlojmojmijklmaaStoP
import Derived.Deep.CutBlock
import Derived.Deep.CutRange
set_option linter.unusedVariables false
set_option maxRecDepth 100000
namespace Go.Proofs.Ytlojmojmijklmaa.stoPr
open Go.ChangeShapes Go.WideShapes Go.ChangeAt Go.RowKit Go.Deep
open opV chnM gen chnA chnB chnR chnE chnG chnJ stoM stoA stoL stoB stoC stoP

set_option maxHeartbeats 4000000 in
theorem put_rest {B : Nat → Prop} {S b : Nat} {s : St} (v : Ver) (w : World) (h : SAt B w S b s) (hc : chk v = 0) (hp : putE (of s.ch v.key) v = 0) (hln : ln s.ch < 60000) :
    Calls Try.prog 11 #[.pointer (some ⟨S, 0, none⟩), .agg #[.string v.key, .string v.val, .bool v.gone, .int .u64 v.ts, .int .i64 v.dc, .int .i64 v.tx]] w (Put B S b s v w) := by
  obtain ⟨hk1, hk2⟩ := chk_zero hc
  obtain ⟨D, hI⟩ := h
  obtain ⟨A, c, hlk, hHV, -⟩ := look_all hI v.key (by unfold maxLen; omega)
  have hSC : Hid (SC S b s.fl w) := Lib.hid (SIs.cells hI)
  have hll := Nat.le_trans (of_len hI.inv v.key) hI.ln
  have hB0 := al0 w (.cells #[.string v.key, .string v.val, .bool v.gone, .int .u64 v.ts, .int .i64 v.dc, .int .i64 v.tx] 35)
  have hv0 := R6.new w v
  obtain ⟨W, hW⟩ : ∃ W, w.alloc (.cells #[.string v.key, .string v.val, .bool v.gone, .int .u64 v.ts, .int .i64 v.dc, .int .i64 v.tx] 35) = W := ⟨_, rfl⟩
  rw [hW] at hB0 hv0
  have hck := Lib.hid (check_any v W)
  rw [hc] at hck
  have hpc := fun w' => put_any A c (of s.ch v.key) v w'
  replace hpc := Lib.hid fun w' (hB : Below w.heap.size w w') => hpc w' (hHV.below hB) (by omega)
  have hat := fun w' => at_any A c (of s.ch v.key) s.fl w'
  replace hat := Lib.hid fun w' (hB : Below w.heap.size w w') => hat w' (hHV.below hB)
  have hB0' := Lib.hid hB0
  have hv0' := Lib.hid hv0
  replace hW := Lib.hid hW
  replace hlk := Lib.hid hlk
  have hI' := Lib.hid hI
  have hpe : Hid (putE (of s.ch v.key) v = 0) := Lib.hid hp
  rw [hp] at hpc
  have hL : putL (of s.ch v.key) v = put (of s.ch v.key) v := by unfold putL; rw [if_pos hp]
  rw [hL] at hpc
  have hpl := put_len (of s.ch v.key) v
  clear hI hp hB0 hHV hv0 hL
  obtain ⟨n, hn⟩ : ∃ n, (of s.ch v.key).length = n := ⟨_, rfl⟩
  rw [hn] at hlk hpc hat hpl
  obtain ⟨L, hL⟩ : ∃ L, put (of s.ch v.key) v = L := ⟨_, rfl⟩
  rw [hL] at hpc hpl
  obtain ⟨sn, hsn⟩ : ∃ sn, atV (of s.ch v.key) s.fl = sn := ⟨_, rfl⟩
  obtain ⟨sb, hsb⟩ : ∃ sb, atB (of s.ch v.key) s.fl = sb := ⟨_, rfl⟩
  rw [hsn, hsb] at hat
  obtain ⟨fl, hfl⟩ : ∃ fl, s.fl = fl := ⟨_, rfl⟩
  rw [hfl] at hSC hat
  replace hn := Lib.hid hn
  replace hL := Lib.hid hL
  replace hsn := Lib.hid hsn
  replace hsb := Lib.hid hsb
  replace hfl := Lib.hid hfl
  go_enter Try.func11, Try.ntmps11
  obtain ⟨a0, a1, a2, a3, a4, a5⟩ := hv0'.out.v6
  go_wp2_with (fail)
  rw [hW.out]
  with_reducible refine hck.out.mono ?_
  rintro e w1 ⟨rfl, hB1⟩
  clear a0 a1 a2 a3 a4 a5
  obtain ⟨a0, a1, a2, a3, a4, a5⟩ := (hv0'.out.below hB1).v6
  have hBw1 := Lib.hid (trans0 hB0'.out hB1)
  have hV1 := Lib.hid (hv0'.out.below hB1)
  clear hB1
  go_wp2_with (fail)
  with_reducible refine (texts_any v w1 (by omega) (by omega)).mono ?_
  rintro e w2 ⟨rfl, hB2⟩
  clear a0 a1 a2 a3 a4 a5
  obtain ⟨a0, a1, a2, a3, a4, a5⟩ := (hV1.out.below hB2).v6
  obtain ⟨f0, f1, f2, f3, f4, f5⟩ := (hV1.out.below hB2).fz
  have hV2 := Lib.hid (hV1.out.below hB2)
  have hBw2 := Lib.hid (trans0 hBw1.out hB2)
  obtain ⟨w3, hw3⟩ : ∃ w3, put6 w2 w.heap.size v = w3 := ⟨_, rfl⟩
  have hV3 := hV2.out.put v
  have hBw3 : Below w.heap.size w w3 := by rw [← hw3]; exact put6_below hBw2.out (Nat.le_refl _) v
  rw [hw3] at hV3
  unfold put6 at hw3
  replace hw3 := Lib.hid hw3
  have hS3 : Hid (LS S b fl w v A n c w3.drew) := Lib.hid ⟨(hSC.out.below hBw3).below (below_drew _), hV3.below (below_drew _), (hV3.below (below_drew _)).v6, hlk.out _ hBw3.drew, hBw3.drew⟩
  clear hB2
  go_wp2_with (fail)
  rw [hw3.out]
  clear a0 a1 a2 a3 a4 a5 f0 f1 f2 f3 f4 f5
  clear hV1 hV2 hBw1 hBw2 hv0' hck hB0' hSC hW hw3 hV3 hBw3
  go_region_held3 (LS S b fl w v A n c)
    (first | with_reducible exact hS3.out | with_reducible assumption | with_reducible exact LS.of hlk (by assumption) (by assumption) | fail)
    (first
      | (go_at_call 32; ((with_reducible refine (hpc.out _ (And.right (And.right (And.right (And.right (by assumption)))))).mono ?_); rintro e w' ⟨A', c', rfl, hG, hB9⟩)) | fail)
  rename_i hH
  have hS4 : Hid (LS S b fl w v A n c w'.drew) := Lib.hid (LS.of hlk hH (below_drew _))
  have hS5 : Hid (LS S b fl w v A n c (w'.alloc (.cells #[.string { data := #[] }, .string { data := #[] }, .bool false, .int .u64 0, .int .i64 0, .int .i64 0] 35)).drew) := Lib.hid (LS.of hlk hH (bdr (al0 w' (.cells #[.string { data := #[] }, .string { data := #[] }, .bool false, .int .u64 0, .int .i64 0, .int .i64 0] 35))))
  have hBa := Lib.hid hS4.out.2.2.2.2
  have hBb := Lib.hid hS5.out.2.2.2.2
  have hnw : Hid (R6 w'.heap.size default (w'.alloc (.cells #[.string { data := #[] }, .string { data := #[] }, .bool false, .int .u64 0, .int .i64 0, .int .i64 0] 35)).drew) := Lib.hid (R6.new w' default)
  have hz4 : Hid (w.heap.size < w'.heap.size ∧ S < w'.heap.size) := Lib.hid ⟨hH.2.1.lt, World.block_lt_of_cell? _ _ hH.1.1⟩
  have hEA : Hid (∀ w4, Below w'.drew.heap.size w'.drew w4 → V6 w4.heap.size 0 sn (w4.alloc (.cells #[.string sn.key, .string sn.val, .bool sn.gone, .int .u64 sn.ts, .int .i64 sn.dc, .int .i64 sn.tx] 35)) ∧ LS S b fl w v A n c (w4.alloc (.cells #[.string sn.key, .string sn.val, .bool sn.gone, .int .u64 sn.ts, .int .i64 sn.dc, .int .i64 sn.tx] 35)) ∧ GV (w4.alloc (.cells #[.string sn.key, .string sn.val, .bool sn.gone, .int .u64 sn.ts, .int .i64 sn.dc, .int .i64 sn.tx] 35)) w3.drew.heap.size A' c' L) := Lib.hid fun w4 hB => ⟨V6.new w4 sn _, LS.of hlk (LS.of hlk hS4.out hB) (al0 _ _), hG.below (trans0 (trans0 (below_drew w') hB) (al0 _ _))⟩
  have hEB : Hid (∀ w4, Below (w'.alloc (.cells #[.string { data := #[] }, .string { data := #[] }, .bool false, .int .u64 0, .int .i64 0, .int .i64 0] 35)).drew.heap.size (w'.alloc (.cells #[.string { data := #[] }, .string { data := #[] }, .bool false, .int .u64 0, .int .i64 0, .int .i64 0] 35)).drew w4 → V6 w'.heap.size 0 sn (put6 w4 w'.heap.size sn) ∧ LS S b fl w v A n c (put6 w4 w'.heap.size sn) ∧ GV (put6 w4 w'.heap.size sn) w3.drew.heap.size A' c' L) := Lib.hid fun w4 hB =>
    ⟨((R6.below hnw.out hB).put sn).v6, LS.put hlk (LS.of hlk hS5.out hB) hz4, hG.below (put6_below (trans0 (bdr (al0 w' (.cells #[.string { data := #[] }, .string { data := #[] }, .bool false, .int .u64 0, .int .i64 0, .int .i64 0] 35))) hB) (Nat.le_refl _) sn)⟩
  unfold put6 at hEB
  have hnz := Lib.hid hnw.out.v6
  clear hH hS3 hB9 hG hpc
  obtain ⟨⟨c0, c1⟩, -, ⟨a0, a1, a2, a3, a4, a5⟩, hlk4, -⟩ := hS4.out
  obtain ⟨⟨d0, d1⟩, -, ⟨b0, b1, b2, b3, b4, b5⟩, hlk5, -⟩ := hS5.out
  clear hS4 hS5 hz4
  go_upto_region 10 with (fail)
  go_cut [8, 9] from 8 to 48 (fun x y wx => y = .bool sb ∧ ∃ p, x = .pointer (some ⟨p, 0, none⟩) ∧ Hid (V6 p 0 sn wx ∧ LS S b fl w v A n c wx ∧ GV wx w3.drew.heap.size A' c' L))
  case first =>
    clear hI' hpe hlk hn hL hsn hsb hfl hc hln hk1 hk2 hll hpl
    go_region_law ((go_simp; go_at_call 33; ((with_reducible refine (hat.out _ (by first | with_reducible exact hBa.out | with_reducible exact hBb.out)).mono ?_); rintro e w4 ⟨rfl, hB9⟩; (first | (have hzz : R6 w'.heap.size default w4 := by with_reducible exact R6.below hnw.out hB9) | (have hzz := R6.new w4 default)); obtain ⟨z0, z1, z2, z3, z4, z5⟩ := hzz.v6; obtain ⟨f0, f1, f2, f3, f4, f5⟩ := hzz.fz; clear hzz)))
    all_goals
      clear hlk4 hlk5 c0 c1 a0 a1 a2 a3 a4 a5 d0 d1 b0 b1 b2 b3 b4 b5
      go_wp2
      go_meet
      exact ⟨rfl, _, rfl, Lib.hid (by first | with_reducible exact hEA.out _ hB9 | with_reducible exact hEB.out _ hB9)⟩
  case rest =>
    obtain ⟨rfl, p, rfl, hQ⟩ := hcut
    have hv5 := hQ.out.1
    have hL5 := hQ.out.2.1
    have hG5 := Lib.hid hQ.out.2.2
    clear hQ hlk4 hlk5 c0 c1 a0 a1 a2 a3 a4 a5 d0 d1 b0 b1 b2 b3 b4 b5 hEA hEB hnw hnz hBa hBb hat
    have hE0 : (sb && lt v sn) = true → (puE s v : Int) = 11 := by
      intro hx
      unfold puE
      rw [if_neg (by omega), if_neg (by rw [hpe.out]; omega), hsb.out, hsn.out, hx]; rfl
    have hE1 : (sb && lt v sn) = false → puE s v = 0 := by
      intro hx
      unfold puE
      rw [if_neg (by omega), if_neg (by rw [hpe.out]; omega), hsb.out, hsn.out, hx]; rfl
    have hBl := Lib.hid (isBelow_any v sn)
    obtain ⟨s0, s1, s2, s3, s4, s5⟩ := hv5
    have hL5' := Lib.hid hL5
    obtain ⟨⟨c0, c1⟩, -, ⟨a0, a1, a2, a3, a4, a5⟩, -, -⟩ := hL5
    cases hx : (sb && lt v sn)
    case true =>
      obtain ⟨h1, h2⟩ : sb = true ∧ lt v sn = true := by simpa using hx
      subst h1
      rw [h2] at hBl
      have hE := hE0 hx
      have hfin : Hid (∀ w', Below wc.heap.size wc w' → Put B S b s v w (.returned (.int .i64 11)) w') := Lib.hid fun w' hB => Put.no ⟨D, hI'.out⟩ hE (by omega) (trans0 hL5'.out.2.2.2.2 hB)
      clear hE0 hE1 hE hx h2
      go_wp2_with (fail)
      with_reducible refine (hBl.out _).mono ?_
      rintro e w6 ⟨rfl, hB6⟩
      have hy := Lib.hid (hfin.out _ hB6)
      clear hfin hB6
      go_wp2
      go_ret
      exact hy.out
    case false =>
      have hE := hE1 hx
      have hkz : v.key.size ≤ maxLen := by unfold maxLen; omega
      have hpuC : puC s v = trm L fl := by unfold puC; rw [hL.out, hfl.out]
      have hBL := Lib.hid hL5'.out.2.2.2.2
      have hwc : Below w.heap.size w wc := hL5'.out.2.2.2.2
      have hlL : L.length * 64 ≤ 140737488355328 := by have := hn.out; omega
      have htr : Hid (∀ X, Below wc.heap.size wc X → Calls Try.prog 35 #[.slice A' (n + 1) c', .int .u64 fl] X.drew (TV (L.length - (trm L fl).length) (trm L fl) X.drew)) := Lib.hid (by
        intro X hX
        have := trim_any A' c' L fl X.drew ((hG5.out.hv hlL).below hX.drew)
        rw [hpl] at this
        rw [hpl]
        exact this)
      have hst : Hid (∀ w1 A2 c2, Below w.heap.size w w1 → ∃ w', (Instr.mapUpdate 63 (.map (some b)) (.string v.key) (.slice A2 (trm L fl).length c2)).run Try.prog w1 = .ok () w' ∧ w'.ownsMap Try.prog 9 hR b (s.ch.length + 1) (D.put (kS v.key) (.held (.slice A2 (trm L fl).length c2))) ∧ w1.mapTurned w' b) := Lib.hid (by
        intro w1 A2 c2 q1
        exact World.ownsMap.store (ps := []) (hI'.out.below q1).map law Try.underlying63 (by have := hI'.out.len; unfold maxLen; omega) (hkey v.key hkz) rfl)
      have hfin : Hid (∀ base w6 w9 A2 c2, Below w.heap.size w w6 → w.heap.size ≤ base → GV w6 base A2 c2 (trm L fl) → w9.ownsMap Try.prog 9 hR b (s.ch.length + 1) (D.put (kS v.key) (.held (.slice A2 (trm L fl).length c2))) → w6.mapTurned w9 b → Put B S b s v w (.returned (.int .i64 0)) w9) := Lib.hid (by
        intro base w6 w9 A2 c2 q1 q0 q2 q3 q4
        rw [← hpuC] at q2 q3
        exact put_fin hI'.out hE hln q1 q2 q0 q3 q4)
      have hSC5 : Hid (SC S b fl wc ∧ V6 w.heap.size 0 v wc ∧ Below w.heap.size w wc) := Lib.hid ⟨hL5'.out.1, hL5'.out.2.2.1, hwc⟩
      have hsl : sb = true → lt v sn = false := by
        intro h1
        rw [h1] at hx
        simpa using hx
      clear hE0 hE1 hE hG5 hL5' hI' hpe hlk hn hL hsn hsb hfl hc hln hk1 hk2 hll hpl hlL hwc hpuC hBL
      cases sb
      case false =>
        have hBX := Lib.hid (hSC5.out.2.2.drew)
        have hT := Lib.hid (htr.out wc (Below.refl _ _))
        clear hBl hsl hx s0 s1 s2 s3 s4 s5 htr
        go_wp2
        go_region_law ((go_simp; go_at_call 35; (with_reducible refine (hT.out).mono ?_); rintro e w6 ⟨A2, c2, rfl, hG6, hB6⟩; have hBw6 := Lib.hid (trans0 hBX.out hB6); obtain ⟨y0, y1⟩ := SC.below (hSC5.out.1.below (below_drew wc)) hB6; obtain ⟨q0, q1, q2, q3, q4, q5⟩ := V6.below (V6.below hSC5.out.2.1 (below_drew wc)) hB6; obtain ⟨w9, hrun, hm9, ht9⟩ := hst.out w6 A2 c2 hBw6.out))
        all_goals
          have hy := Lib.hid (hfin.out _ _ _ _ _ hBw6.out hBX.out.size hG6 hm9 ht9)
          clear hfin hst hG6 hm9 ht9 hB6 hBw6 hrun c0 c1 a0 a1 a2 a3 a4 a5
          go_wp2
          go_ret
          exact hy.out
      case true =>
        rw [hsl rfl] at hBl
        clear hsl hx
        go_wp2_with (fail)
        with_reducible refine (hBl.out _).mono ?_
        rintro e w5 ⟨rfl, hB5⟩
        have hBX := Lib.hid ((trans0 hSC5.out.2.2 hB5).drew)
        have hT := Lib.hid (htr.out w5 hB5)
        have hS6 : Hid (SC S b fl w5.drew ∧ V6 w.heap.size 0 v w5.drew) := Lib.hid ⟨(hSC5.out.1.below hB5).below (below_drew w5), V6.below (V6.below hSC5.out.2.1 hB5) (below_drew w5)⟩
        clear hBl s0 s1 s2 s3 s4 s5 htr c0 c1 a0 a1 a2 a3 a4 a5 hB5
        obtain ⟨⟨c0, c1⟩, a0, a1, a2, a3, a4, a5⟩ := hS6.out
        go_wp2
        go_region_law ((go_simp; go_at_call 35; (with_reducible refine (hT.out).mono ?_); rintro e w6 ⟨A2, c2, rfl, hG6, hB6⟩; have hBw6 := Lib.hid (trans0 hBX.out hB6); obtain ⟨y0, y1⟩ := SC.below hS6.out.1 hB6; obtain ⟨q0, q1, q2, q3, q4, q5⟩ := V6.below hS6.out.2 hB6; obtain ⟨w9, hrun, hm9, ht9⟩ := hst.out w6 A2 c2 hBw6.out))
        all_goals
          have hy := Lib.hid (hfin.out _ _ _ _ _ hBw6.out hBX.out.size hG6 hm9 ht9)
          clear hfin hst hG6 hm9 ht9 hB6 hBw6 hrun c0 c1 a0 a1 a2 a3 a4 a5
          go_wp2
          go_ret
          exact hy.out
theorem put_any {B : Nat → Prop} {S b : Nat} {s : St} (v : Ver) (w : World) (h : SAt B w S b s) (hln : ln s.ch < 60000) :
    Calls Try.prog 11 #[.pointer (some ⟨S, 0, none⟩), .agg #[.string v.key, .string v.val, .bool v.gone, .int .u64 v.ts, .int .i64 v.dc, .int .i64 v.tx]] w (Put B S b s v w) := by
  by_cases h1 : chk v = 0
  · by_cases h2 : putE (of s.ch v.key) v = 0
    · exact put_rest v w h h1 h2 hln
    · exact put_has v w h h1 h2
  · exact put_chk v w h h1
end Go.Proofs.Ytlojmojmijklmaa.stoPr
