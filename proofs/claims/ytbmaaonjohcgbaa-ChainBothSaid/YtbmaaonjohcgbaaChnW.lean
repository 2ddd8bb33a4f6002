/- The statement ChainBoth. -/
import Derived.Test.YtbmaaonjohcgbaaChnS
import Derived.Test.YtbmaaonjohcgbaaRowA
set_option linter.unusedVariables false
namespace Go.Proofs.Ytbmaaonjohcgbaa.chnW
open Go.ChangeShapes Go.WideShapes Go.ChangeAt Go.RowKit Go.Deep
open opV chnM gen chnA chnB chnR chnC chnD chnE chnF chnG chnI chnJ chnK chnL chnN chnO chnOg chnP chnT chnS rowA

/-- two rows lie apart -/
def Apart (A B : Option Addr) : Prop := ∀ k, (Value.slice A 0 0).ownBlock = some k → (Value.slice B 0 0).ownBlock ≠ some k
theorem Apart.symm {A B : Option Addr} (h : Apart A B) : Apart B A := fun k e e2 => h k e2 e
theorem Apart.nil_ (B : Option Addr) : Apart none B := fun k e => by cases e
theorem blk_of (A : Option Addr) (n c : Nat) : (Value.slice A n c).ownBlock = (Value.slice A 0 0).ownBlock := by cases A <;> rfl
theorem box_on {X1 w9 : World} {bb : Nat} {x : Ver} {v : Value} (hv : V6 bb 0 x X1) (hlt : ∀ k, v.ownBlock = some k → k < bb) (hg : X1.grownBy w9 v.ownBlock) : V6 bb 0 x w9 :=
  hv.of_block (hg.block bb hv.lt (fun e => absurd (hlt bb e.symm) (Nat.lt_irrefl _)))
/-- two rows that are made side by side -/
structure Par (W : World) (A : Option Addr) (c : Nat) (a : List Ver) (B : Option Addr) (d : Nat) (b : List Ver) (X : World) : Prop where
  ga : GV X W.heap.size A c a
  gb : GV X W.heap.size B d b
  ap : Apart A B
  bel : Below W.heap.size W X
section
variable {W X X1 w9 : World} {A B A9 : Option Addr} {c d c9 : Nat} {a b : List Ver} {x : Ver}
theorem Par.symm (h : Par W A c a B d b X) : Par W B d b A c a X := ⟨h.gb, h.ga, h.ap.symm, h.bel⟩
theorem Par.below (h : Par W A c a B d b X) (hB : Below X.heap.size X X1) : Par W A c a B d b X1 := ⟨h.ga.below hB, h.gb.below hB, h.ap, trans0 h.bel hB⟩
theorem Par.add (h : Par W A c a B d b X) (hB : Below X.heap.size X X1)
    (ho : w9.ownsRow W.heap.size 25 6 (.slice A9 (a.length + 1) c9) (a.length + 1) (fl a ++ [.string x.key, .string x.val, .bool x.gone, .int .u64 x.ts, .int .i64 x.dc, .int .i64 x.tx])) (hg : X1.grownBy w9 (Value.slice A a.length c).ownBlock)
    (hat : (Value.slice A9 (a.length + 1) c9).ownBlock = (Value.slice A a.length c).ownBlock ∨ (Value.slice A9 (a.length + 1) c9).ownBlock = some X1.heap.size) : Par W A9 c9 (a ++ [x]) B d b w9 := by
  obtain ⟨h1, h2⟩ := grow_on h.bel h.ga (Nat.le_refl _) hB ho hg
  have hb1 : GV X1 W.heap.size B d b := h.gb.below hB
  refine ⟨h1, hb1.block fun k e => hg.block k (World.ownsRow.lt hb1 k e).2 (fun e2 => h.ap k (by rw [← blk_of A a.length c]; exact e2.symm) (by rw [← blk_of B b.length d]; exact e)), fun k e e2 => ?_, h2⟩
  rw [← blk_of A9 (a.length + 1) c9] at e
  rcases hat with hat | hat
  · rw [hat, blk_of] at e
    exact h.ap k e e2
  · rw [hat] at e
    have := (World.ownsRow.lt hb1 k (by rw [blk_of]; exact e2)).2
    cases e
    exact absurd this (Nat.lt_irrefl _)
end
theorem cov_a {L a b : List Ver} {j : Nat} (h : Cov L j a b) : Cov L (j + 1) (a ++ [nt L j]) b := fun i hi => by
  by_cases e : i = j
  · subst e; exact .inl (by simp)
  · exact (h i (by omega)).imp (fun h => List.mem_append.2 (.inl h)) id
theorem cov_b {L a b : List Ver} {j : Nat} (h : Cov L j a b) : Cov L (j + 1) a (b ++ [nt L j]) := fun i hi => by
  by_cases e : i = j
  · subst e; exact .inr (by simp)
  · exact (h i (by omega)).imp id (fun h => List.mem_append.2 (.inl h))
theorem cov_ab {L a b : List Ver} {j : Nat} (h : Cov L j a b) : Cov L (j + 1) (a ++ [nt L j]) (b ++ [nt L j]) := fun i hi => by
  by_cases e : i = j
  · subst e; exact .inl (by simp)
  · exact (h i (by omega)).imp (fun h => List.mem_append.2 (.inl h)) (fun h => List.mem_append.2 (.inl h))
/-- the parts, so far -/
structure Pts (L : List Ver) (j : Nat) (a b : List Ver) : Prop where
  sa : Sub L j a
  sb : Sub L j b
  cv : Cov L j a b
theorem pts_end {L a b : List Ver} (hc : Chain L) (h : Pts L L.length a b) : (joiE a b = 0 ∧ joiL a b = L) ∧ (joiE b a = 0 ∧ joiL b a = L) ∧ (joiE L b = 0 ∧ joiL L b = L) := by
  have ia := fun x hx => h.sa.in_ (Nat.le_refl _) (x := x) hx
  have ib := fun x hx => h.sb.in_ (Nat.le_refl _) (x := x) hx
  have cv : ∀ x ∈ L, x ∈ a ∨ x ∈ b := fun x hx => by
    obtain ⟨i, hi, rfl⟩ := mem_nt hx
    exact h.cv i hi
  exact ⟨joi_is hc h.sa.ch ia ib cv, joi_is hc h.sb.ch ib ia (fun x hx => (cv x hx).symm), joi_is hc hc (fun _ h => h) ib (fun x hx => .inl hx)⟩
set_option maxRecDepth 100000 in
set_option maxHeartbeats 8000000 in
theorem both (A : Option Addr) (c : Nat) (l0 : List Ver) (D : Option Addr) (len cap : Nat) (zs : List Int) (w : World) (h : HV w A c l0) (hz : IsRow .i64 w D len cap zs) :
    Calls Try.prog 10 #[.slice A l0.length c, .slice D len cap] w fun e w' => e = .returned (.bool true) ∧ Below w.heap.size w w' := by
  obtain ⟨iV, hiV, hzV0, hzV1, hzV2⟩ := info_parts infoV
  have hof := Lib.hid (lof_any A c l0 w h)
  have hc := ofL_chain l0
  have hl := ofL_len l0
  obtain ⟨hz1, hz2⟩ := row_len hz
  have hcell := Lib.hid (fun (j : Nat) (hj : j < len) => row_at hz j hj)
  clear h hz
  generalize ofL l0 = L at *
  have hm0 : Hid (L.length * 64 ≤ 140737488355328) := Lib.hid (by omega)
  have hpe := Lib.hid (fun a b => pts_end (a := a) (b := b) hc)
  replace hc := Lib.hid hc
  go_enter Try.func10, Try.ntmps10
  go_wp2_with (fail)
  with_reducible refine hof.out.mono ?_
  rintro e W ⟨A1, c1, rfl, hG1, hB1⟩
  have hv1 := Lib.hid (hG1.hv hm0.out)
  replace hB1 := Lib.hid hB1
  clear hG1 hof
  go_wp2
  go_loopw [5, 6, 20] (fun s z i wr => ∃ (j : Nat) (a b : List Ver) (Aa : Option Addr) (ca : Nat) (Ab : Option Addr) (cb : Nat), j ≤ L.length ∧ s = .slice Aa a.length ca ∧ z = .slice Ab b.length cb ∧ i = .int .i64 j ∧ Hid (Pts L j a b) ∧ Hid (Par W Aa ca a Ab cb b wr)) (fun _ _ i _ => L.length - (intOf i).toNat)
  case atStart => exact ⟨0, [], [], none, 0, none, 0, by omega, rfl, rfl, rfl, Lib.hid ⟨Sub.nil_ _, Sub.nil_ _, fun i hi => by omega⟩, Lib.hid ⟨GV.nil_ _ _, GV.nil_ _ _, Apart.nil_ _, Below.refl _ _⟩⟩
  case round =>
    obtain ⟨j, a, b, Aa, ca, Ab, cb, hj, rfl, rfl, rfl, hP, hR⟩ := hrel
    by_cases hlt : j < L.length
    · obtain ⟨pb, po, rfl, hpb, hcx⟩ := (hv1.out.below hR.out.bel).at hlt
      have hjI : (j : Int) < (L.length : Int) := by omega
      have hal := hP.out.sa.le
      have hbl := hP.out.sb.le
      have hA := Lib.hid (show Pts L (j + 1) (a ++ [nt L j]) b from ⟨hP.out.sa.more hc.out hlt, hP.out.sb.stay, cov_a hP.out.cv⟩)
      have hBb := Lib.hid (show Pts L (j + 1) a (b ++ [nt L j]) from ⟨hP.out.sa.stay, hP.out.sb.more hc.out hlt, cov_b hP.out.cv⟩)
      have hAB := Lib.hid (show Pts L (j + 1) (a ++ [nt L j]) (b ++ [nt L j]) from ⟨hP.out.sa.more hc.out hlt, hP.out.sb.more hc.out hlt, cov_ab hP.out.cv⟩)
      generalize nt L j = x at *
      have hall := al0 wr (.cells #[.string x.key, .string x.val, .bool x.gone, .int .u64 x.ts, .int .i64 x.dc, .int .i64 x.tx] 25)
      have hbx := V6.new wr x 25
      have hbx2 := hbx.below (al0 _ (.cells #[.string x.key, .string x.val, .bool x.gone, .int .u64 x.ts, .int .i64 x.dc, .int .i64 x.tx] 25))
      obtain ⟨W1, hW1⟩ : ∃ W1, wr.alloc (.cells #[.string x.key, .string x.val, .bool x.gone, .int .u64 x.ts, .int .i64 x.dc, .int .i64 x.tx] 25) = W1 := ⟨_, rfl⟩
      rw [hW1] at hall
      have hR1 := Lib.hid (hR.out.below hall)
      obtain ⟨b0, b1, b2, b3, b4, b5⟩ := hbx
      obtain ⟨c0, c1', c2, c3, c4, c5⟩ := hcx
      replace hW1 := Lib.hid hW1
      have hls : Hid ((a.length + 1 ≤ maxLen ∧ (a.length + 1) * 64 ≤ 140737488355328) ∧ (b.length + 1 ≤ maxLen ∧ (b.length + 1) * 64 ≤ 140737488355328)) := Lib.hid ⟨⟨by unfold maxLen; omega, by omega⟩, by unfold maxLen; omega, by omega⟩
      clear hP hall hbx2 hal hbl
      have hR2 : Hid (Par W Aa ca a (Ab) cb b (wr.alloc (.cells #[.string x.key, .string x.val, .bool x.gone, .int .u64 x.ts, .int .i64 x.dc, .int .i64 x.tx] 25))) := Lib.hid (by rw [hW1.out]; exact hR1.out)
      have hbxf := Lib.hid (V6.new wr x 25)
      have hap := Lib.hid (fun k (e : (Value.slice Aa a.length ca).ownBlock = some k) => (World.ownsRow.lt hR.out.ga k e).2)
      by_cases hin : j < len
      · obtain ⟨zb, zo, z, rfl, hcz, hwf⟩ := hcell.out j hin
        have hcz := keep_cell (trans0 hB1.out hR.out.bel) hcz
        have hczb := keep_cell (al0 wr (.cells #[.string x.key, .string x.val, .bool x.gone, .int .u64 x.ts, .int .i64 x.dc, .int .i64 x.tx] 25)) hcz
        have hinI : (j : Int) < (len : Int) := by omega
        have hz9 := bounds_i64 hwf
        have hr := Int.tmod_lt_of_pos z (show (0 : Int) < 3 by omega)
        have hr2 := Int.lt_tmod_of_pos z (show (0 : Int) < 3 by omega)
        clear hR hwf
        obtain ⟨q, hq⟩ : ∃ q, z.tmod 3 = q := ⟨_, rfl⟩
        rw [hq] at hr hr2
        by_cases h1 : q = 1
        · subst h1
          go_wp2_with (at_builtin; go_must (refine wpList_gen rfl (.tmp 42) (.tmp 44) 22 rfl W.heap.size 25 iV _ 6 64 Try.underlying22 hiV hzV0 hzV1 hzV2 rfl (by decide) _ b.length (fl b) (by rfl) (World.ownsRow.alloc hR2.out.symm.ga _) (some ⟨_, 0, none⟩) 1 1 [_, _, _, _, _, _] (by rfl) rfl (stand_at (by simp)) (six_one rfl rfl rfl rfl rfl rfl) hls.out.2.1 hls.out.2.2 (bal hR2.out.symm.bel _).size ?_); intro A9 c9 w9 hr9 hg9 hat9; have hR3 := Lib.hid (hR2.out.symm.add (al0 _ _) hr9 hg9 hat9).symm; clear hr9 hg9 hat9)
          go_roundw
          case rel => exact ⟨j + 1, a, b ++ [x], Aa, ca, A9, c9, by omega, rfl, by rw [len_on], by go_num, hBb, hR3⟩
          case measure => simp [intOf]; omega
        · by_cases h2 : q = 2
          · subst h2
            go_wp2_with (at_builtin; go_must (refine wpList_gen rfl (.tmp 36) (.tmp 38) 22 rfl W.heap.size 25 iV _ 6 64 Try.underlying22 hiV hzV0 hzV1 hzV2 rfl (by decide) _ a.length (fl a) (by rfl) (World.ownsRow.alloc hR2.out.ga _) (some ⟨_, 0, none⟩) 1 1 [_, _, _, _, _, _] (by rfl) rfl (stand_at (by simp)) (six_one rfl rfl rfl rfl rfl rfl) hls.out.1.1 hls.out.1.2 (bal hR2.out.bel _).size ?_); intro A9 c9 w9 hr9 hg9 hat9; have hR3 := Lib.hid (hR2.out.add (al0 _ _) hr9 hg9 hat9); clear hr9 hg9 hat9)
            go_roundw
            case rel => exact ⟨j + 1, a ++ [x], b, A9, c9, Ab, cb, by omega, by rw [len_on], rfl, by go_num, hA, hR3⟩
            case measure => simp [intOf]; omega
          · have h1b : (q != 1) = true := by rw [bne_iff_ne]; exact h1
            have h2b : (q != 2) = true := by rw [bne_iff_ne]; exact h2
            go_wp2_with (first
              | (at_builtin; refine wpList_gen rfl (.tmp 36) (.tmp 38) 22 rfl W.heap.size 25 iV _ 6 64 Try.underlying22 hiV hzV0 hzV1 hzV2 rfl (by decide) _ a.length (fl a) (by rfl) (World.ownsRow.alloc hR2.out.ga _) (some ⟨_, 0, none⟩) 1 1 [_, _, _, _, _, _] (by rfl) rfl (stand_at (by simp)) (six_one rfl rfl rfl rfl rfl rfl) hls.out.1.1 hls.out.1.2 (bal hR2.out.bel _).size ?_; intro A7 c7 w7 hr9 hg9 hat9; have hR3 := Lib.hid (hR2.out.add (al0 _ _) hr9 hg9 hat9); obtain ⟨e0, e1, e2, e3, e4, e5⟩ := box_on (hbxf.out.below (al0 _ (.cells #[.string x.key, .string x.val, .bool x.gone, .int .u64 x.ts, .int .i64 x.dc, .int .i64 x.tx] 25))) hap.out hg9; clear hr9 hg9 hat9)
              | (at_builtin; refine wpList_gen rfl (.tmp 42) (.tmp 44) 22 rfl W.heap.size 25 iV _ 6 64 Try.underlying22 hiV hzV0 hzV1 hzV2 rfl (by decide) _ b.length (fl b) (by rfl) (World.ownsRow.alloc hR3.out.symm.ga _) (some ⟨_, 0, none⟩) 1 1 [_, _, _, _, _, _] (by rfl) rfl (stand_at (by simp)) (six_one rfl rfl rfl rfl rfl rfl) hls.out.2.1 hls.out.2.2 (bal hR3.out.symm.bel _).size ?_; intro A9 c9 w9 hr9 hg9 hat9; have hR4 := Lib.hid (hR3.out.symm.add (al0 _ _) hr9 hg9 hat9).symm; clear hr9 hg9 hat9) | fail)
            go_roundw
            case rel => exact ⟨j + 1, a ++ [x], b ++ [x], A7, c7, A9, c9, by omega, by rw [len_on], by rw [len_on], by go_num, hAB, hR4⟩
            case measure => simp [intOf]; omega
      · have hinI : ¬ (j : Int) < (len : Int) := by omega
        clear hR
        go_wp2_with (first
          | (at_builtin; refine wpList_gen rfl (.tmp 36) (.tmp 38) 22 rfl W.heap.size 25 iV _ 6 64 Try.underlying22 hiV hzV0 hzV1 hzV2 rfl (by decide) _ a.length (fl a) (by rfl) (World.ownsRow.alloc hR2.out.ga _) (some ⟨_, 0, none⟩) 1 1 [_, _, _, _, _, _] (by rfl) rfl (stand_at (by simp)) (six_one rfl rfl rfl rfl rfl rfl) hls.out.1.1 hls.out.1.2 (bal hR2.out.bel _).size ?_; intro A7 c7 w7 hr9 hg9 hat9; have hR3 := Lib.hid (hR2.out.add (al0 _ _) hr9 hg9 hat9); obtain ⟨e0, e1, e2, e3, e4, e5⟩ := box_on (hbxf.out.below (al0 _ (.cells #[.string x.key, .string x.val, .bool x.gone, .int .u64 x.ts, .int .i64 x.dc, .int .i64 x.tx] 25))) hap.out hg9; clear hr9 hg9 hat9)
          | (at_builtin; refine wpList_gen rfl (.tmp 42) (.tmp 44) 22 rfl W.heap.size 25 iV _ 6 64 Try.underlying22 hiV hzV0 hzV1 hzV2 rfl (by decide) _ b.length (fl b) (by rfl) (World.ownsRow.alloc hR3.out.symm.ga _) (some ⟨_, 0, none⟩) 1 1 [_, _, _, _, _, _] (by rfl) rfl (stand_at (by simp)) (six_one rfl rfl rfl rfl rfl rfl) hls.out.2.1 hls.out.2.2 (bal hR3.out.symm.bel _).size ?_; intro A9 c9 w9 hr9 hg9 hat9; have hR4 := Lib.hid (hR3.out.symm.add (al0 _ _) hr9 hg9 hat9).symm; clear hr9 hg9 hat9) | fail)
        go_roundw
        case rel => exact ⟨j + 1, a ++ [x], b ++ [x], A7, c7, A9, c9, by omega, by rw [len_on], by rw [len_on], by go_num, hAB, hR4⟩
        case measure => simp [intOf]; omega
    · obtain rfl : j = L.length := by omega
      obtain ⟨⟨e1, e2⟩, ⟨e3, e4⟩, e5, e6⟩ := hpe.out a b hP.out
      have hal := hP.out.sa.le
      have hbl := hP.out.sb.le
      have hva := hR.out.ga.hv (by omega)
      have hvb := Lib.hid (hR.out.gb.hv (by omega))
      have hj1 := join_any Aa ca a Ab cb b wr hva hvb.out (by omega)
      rw [e1, e2] at hj1
      have hj2 := fun X (hX : Below wr.heap.size wr X) => join_any Ab cb b Aa ca a X (hvb.out.below hX) (hva.below hX) (by omega)
      simp only [e3, e4] at hj2
      have hj3 := fun X (hX : Below wr.heap.size wr X) A5 c5 (hv5 : HV X A5 c5 L) => join_any A5 c5 L Ab cb b X hv5 (hvb.out.below hX) (by omega)
      simp only [e5, e6] at hj3
      have hv1w := Lib.hid (hv1.out.below hR.out.bel)
      have hBw := Lib.hid (trans0 hB1.out hR.out.bel)
      replace hj1 := Lib.hid hj1
      replace hj2 := Lib.hid hj2
      replace hj3 := Lib.hid hj3
      clear hva e1 e2 e3 e4 e5 e6 hP hR hal hbl hpe hv1 hvb hc hcell
      go_wp2_with (fail)
      with_reducible refine hj1.out.mono ?_
      rintro e w1 ⟨A5, c5, rfl, hG5, hB5⟩
      have hv5 := Lib.hid (hG5.hv hm0.out)
      have hv11 := Lib.hid (hv1w.out.below hB5)
      replace hB5 := Lib.hid hB5
      clear hG5 hj1 hv1w
      go_wp2_with (fail)
      with_reducible refine (hj2.out w1 hB5.out).mono ?_
      rintro e w2 ⟨A6, c6, rfl, hG6, hB6⟩
      have hv6 := Lib.hid (hG6.hv hm0.out)
      have hv52 := Lib.hid (hv5.out.below hB6)
      have hv12 := Lib.hid (hv11.out.below hB6)
      have hB6' := Lib.hid (trans0 hB5.out hB6)
      clear hG6 hB6 hj2 hv5 hv11
      go_wp2_with (fail)
      with_reducible refine (hj3.out w2 hB6'.out A5 c5 hv52.out).mono ?_
      rintro e w3 ⟨A7, c7, rfl, hG7, hB7⟩
      have hv7 := Lib.hid (hG7.hv hm0.out)
      have hv53 := Lib.hid (hv52.out.below hB7)
      have hv63 := Lib.hid (hv6.out.below hB7)
      have hv13 := Lib.hid (hv12.out.below hB7)
      have hB7' := Lib.hid (trans0 hB6'.out hB7)
      clear hG7 hB7 hj3 hv52 hv12 hv6
      go_wp2_with (fail)
      with_reducible refine (awake_any w3).mono ?_
      rintro e w4 ⟨rfl, hB8⟩
      have hs := fun X (hX : Below w3.heap.size w3 X) A8 c8 (hv8 : HV X A8 c8 L) => samevers A5 c5 L A8 c8 L X (hv53.out.below hX) hv8
      simp only [decide_true] at hs
      have h64 := Lib.hid (hv63.out.below hB8)
      have h74 := Lib.hid (hv7.out.below hB8)
      have h14 := Lib.hid (hv13.out.below hB8)
      replace hs := Lib.hid hs
      replace hB8 := Lib.hid hB8
      clear hv63 hv7 hv13
      go_wp2_with (fail)
      with_reducible refine (hs.out w4 hB8.out A6 c6 h64.out).mono ?_
      rintro e w5 ⟨rfl, hB9⟩
      have h75 := Lib.hid (h74.out.below hB9)
      have h15 := Lib.hid (h14.out.below hB9)
      have hB9' := Lib.hid (trans0 hB8.out hB9)
      clear hB9 h64 h74 h14
      go_wp2_with (fail)
      with_reducible refine (hs.out w5 hB9'.out A7 c7 h75.out).mono ?_
      rintro e w6 ⟨rfl, hBa⟩
      have h16 := Lib.hid (h15.out.below hBa)
      have hBa' := Lib.hid (trans0 hB9'.out hBa)
      clear hBa h75 h15
      go_wp2_with (fail)
      with_reducible refine (hs.out w6 hBa'.out _ c1 h16.out).mono ?_
      rintro e w7 ⟨rfl, hBb⟩
      have hfin := Lib.hid (trans0 hBw.out (trans0 hB7'.out (trans0 hBa'.out hBb)))
      clear hBb
      go_wp2
      go_ret
      exact ⟨rfl, hfin.out⟩
end Go.Proofs.Ytbmaaonjohcgbaa.chnW
