/- SpanFinds. -/
import Derived.Test.YtihaapjobkpdcaaSpnW
import Derived.Test.YtihaapjobkpdcaaSpnT
import Derived.Deep.RegionHeld3
import Derived.Test.YtihaapjobkpdcaaQuR
set_option linter.unusedVariables false
namespace Go.Proofs.Ytihaapjobkpdcaa.spnZ
open Go.ChangeShapes Go.WideShapes Go.ChangeAt Go.RowKit Go.Shelf
open spnM spnA spnB spnC spnN spnP spnD spnE spnF spnH spnI spnQ spnR spnS spnT spnW rngR quR
attribute [local go_sem high] bin_slt bin_sle bin_sge bin_seq bin_sne
attribute [local go_sem] Oper.semAt_some

/-- the law's boxes -/
structure FB (b5 b10 b16 : Nat) (A1 : Option Addr) (c1 : Nat) (A2 : Option Addr) (c2 : Nat) (m : M) (n : Int) (W : World) : Prop where
  mb : MB b5 A1 c1 A2 c2 m W
  re : O1 b10 (.bool false) W
  nn : O1 b16 (.int .i64 n) W
section
variable {b5 b10 b16 c1 c2 : Nat} {A1 A2 : Option Addr} {m : M} {n : Int} {W W' : World}
theorem FB.below (h : FB b5 b10 b16 A1 c1 A2 c2 m n W) (hB : Below W.heap.size W W') : FB b5 b10 b16 A1 c1 A2 c2 m n W' := ⟨h.mb.below hB, h.re.below hB, h.nn.below hB⟩
theorem FB.kept {row : Option Nat} (h : FB b5 b10 b16 A1 c1 A2 c2 m n W) (hg : W.grownBy W' row) (hr : ∀ r, row = some r → ∃ o : Obj, W.heap[r]? = some o ∧ o.isCells = false) : FB b5 b10 b16 A1 c1 A2 c2 m n W' := ⟨MB.kept h.mb hg hr, h.re.kept hg hr, h.nn.kept hg hr⟩
theorem FB.put (h : FB b5 b10 b16 A1 c1 A2 c2 m n W) (h1 : b5 ≠ b16) (h2 : b10 ≠ b16) (ha1 : ∀ b off, m.cs.length ≠ 0 → A1 = some ⟨b, off, none⟩ → b ≠ b16) (ha2 : ∀ b off, m.ns.length ≠ 0 → A2 = some ⟨b, off, none⟩ → b ≠ b16) (n' : Int) :
    FB b5 b10 b16 A1 c1 A2 c2 m n' (W.setCell ⟨b16, 0, none⟩ (.int .i64 n')) := by
  have hk : ∀ k, k ≠ b16 → (W.setCell ⟨b16, 0, none⟩ (.int .i64 n')).heap[k]? = W.heap[k]? := fun k h1 => Below.heap_setCell _ _ _ _ h1
  exact ⟨⟨(World.cell?_of_block (a := ⟨b5, 0, none⟩) (hk b5 h1)).trans h.mb.p0, (World.cell?_of_block (a := ⟨b5, 1, none⟩) (hk b5 h1)).trans h.mb.p1, HM.same h.mb.hm (fun b off h0 e => hk b (ha1 b off h0 e)) (fun b off h0 e => hk b (ha2 b off h0 e))⟩, h.re.other h2 _, h.nn.put _⟩
end
/-- between two rounds -/
def FI (w : World) (b5 b10 b16 : Nat) (A1 : Option Addr) (c1 : Nat) (A2 : Option Addr) (c2 : Nat) (m : M) (pre : List Nat) (W : World) : Prop :=
  FB b5 b10 b16 A1 c1 A2 c2 m (pre.length : Nat) W ∧ Below w.heap.size w W
theorem FI.from_ {w : World} {b5 b10 b16 c1 c2 C : Nat} {A1 A2 : Option Addr} {m : M} (hC : w.heap.size ≤ C) : OwnFrom C (FI w b5 b10 b16 A1 c1 A2 c2 m) := by
  rintro pre W W' row ⟨h1, hB⟩ hg hrow
  exact ⟨h1.kept hg fun r e => (hrow r e).2, hB.grown hg hB.size (fun k e => Nat.le_trans hC (hrow k e).1)⟩
theorem there_cnt (m : M) : there m (cnt m : Nat) = false := by
  cases h : there m (cnt m : Nat) with
  | false => rfl
  | true =>
    obtain ⟨h1, h2, h3⟩ := (there_iff m _).1 h
    unfold cnt at h3
    rw [if_pos ((has_iff m).2 h1)] at h3
    omega
theorem cnt_le (m : M) : cnt m ≤ m.ns.length := by unfold cnt; split <;> omega
set_option maxRecDepth 100000 in
set_option maxHeartbeats 4000000 in
theorem finds (A1 : Option Addr) (c1 : Nat) (A2 : Option Addr) (c2 : Nat) (m : M) (key lk hk : ByteArray) (i : Int) (w : World) (h : HM w A1 c1 A2 c2 m) (hi : -9223372036854775808 ≤ i ∧ i ≤ 9223372036854775807) :
    Calls Try.prog 4 #[.agg #[.slice A1 m.cs.length c1, .slice A2 m.ns.length c2], .string key, .string lk, .string hk, .int .i64 i] w fun e w' => e = .returned (.bool true) ∧ Below w.heap.size w w' := by
  obtain ⟨W, hW⟩ : ∃ W, (w.alloc (.cells #[.slice A1 m.cs.length c1, .slice A2 m.ns.length c2] 25)).alloc (.cells #[.bool false] 4) = W := ⟨_, rfl⟩
  have hB := trans0 (al0 w (.cells #[.slice A1 m.cs.length c1, .slice A2 m.ns.length c2] 25)) (al0 _ (.cells #[.bool false] 4))
  have hmb := (MB.new h).below (al0 _ (.cells #[.bool false] 4))
  have hre := O1.new (w.alloc (.cells #[.slice A1 m.cs.length c1, .slice A2 m.ns.length c2] 25)) (.bool false) 4
  rw [World.size_alloc] at hre
  rw [hW] at hB hmb hre
  have hA1 := Lib.hid (RL.low h.cs)
  have hA2 := Lib.hid (RL.low h.ns)
  have hs1 := Lib.hid (show m.cs.length * 16 ≤ 140737488351232 ∧ m.ns.length * 8 ≤ 140737488351232 from ⟨h.s1, h.s2⟩)
  obtain ⟨al, ah, an, ai, hat, hen, hcs⟩ : ∃ (al ah : ByteArray) (an : Int) (ai : Bool),
      (∀ w', HM w' A1 c1 A2 c2 m → Calls Try.prog 15 #[.agg #[.slice A1 m.cs.length c1, .slice A2 m.ns.length c2], .int .i64 i] w' fun e w'' => e = .returned (.tuple #[.agg #[.string al, .string ah, .int .i64 an], .bool ai]) ∧ Below w'.heap.size w' w'') ∧
      (∀ w', HM w' A1 c1 A2 c2 m → Calls Try.prog 16 #[.agg #[.slice A1 m.cs.length c1, .slice A2 m.ns.length c2], .int .i64 i] w' fun e w'' => e = .returned (.tuple #[.string al, .string ah, .bool ai]) ∧ Below w'.heap.size w' w'') ∧
      (ai = true → 0 ≤ i ∧ i < m.ns.length ∧ an = nt m.ns i.toNat) :=
    ⟨_, _, _, _, fun w' hw => at_any A1 c1 A2 c2 m i w' hw, fun w' hw => ends_any A1 c1 A2 c2 m i w' hw hi.1 hi.2, fun e => by
      obtain ⟨-, h2, h3⟩ := (there_iff m i).1 e
      exact ⟨h2, h3, by rw [if_pos e]; rfl⟩⟩
  replace hmb := Lib.hid hmb
  replace hre := Lib.hid hre
  replace hB := Lib.hid hB
  replace hW := Lib.hid hW
  replace hat := Lib.hid hat
  replace hen := Lib.hid hen
  replace hcs := Lib.hid hcs
  clear h hi
  refine (callsIn_wide (n := 6)).1 ?_
  refine callsIn_of_wp_marks Try.func4 rfl trivial ?_ rfl
  simp only [Try.ntmps4, List.size_toArray, List.length_cons, List.length_nil, Nat.reduceAdd, Nat.reduceSub, Array.replicate_succ, Array.replicate_zero, List.push_toArray, List.append_toArray, List.nil_append, List.cons_append]
  refine wpIn_wide.2 ?_
  go_wp2_with (fail)
  rw [hW.out]
  refine (awake_any W).mono ?_
  rintro e w1 ⟨rfl, hB1⟩
  have hmb1 := hmb.out.below hB1
  have hre1 := hre.out.below hB1
  have hBw1 := Lib.hid (trans0 hB.out hB1)
  have hgr := great_any A1 c1 A2 c2 m w1
  obtain ⟨p0, p1, -⟩ := id hmb1
  replace hmb1 := Lib.hid hmb1
  replace hre1 := Lib.hid hre1
  cases hg : grt m with
  | true =>
    rw [hg] at hgr
    replace hgr := Lib.hid hgr
    clear hB1 hmb hre hg
    go_wp2_with (fail)
    refine hgr.out.mono ?_
    rintro e w2 ⟨rfl, hB2⟩
    have hre2 := Lib.hid (hre1.out.below hB2)
    have hBw2 := Lib.hid (trans0 hBw1.out hB2)
    clear hB2 p0 p1 hgr hmb1 hre1
    go_wp2_with (fail)
    refine (awake_any w2).mono ?_
    rintro e w3 ⟨rfl, hB3⟩
    have hre3 := hre2.out.below hB3
    have hB3' := Lib.hid (trans0 hBw2.out hB3)
    obtain ⟨t0, t1⟩ := id hre3
    have hfin := Lib.hid (hre3.put (.bool true)).c
    clear hB3 hre3
    go_wp2
    refine ⟨.bool true, ?_, rfl, hB3'.out.setCell (p := ⟨w.heap.size + 1, 0, none⟩) (show w.heap.size ≤ w.heap.size + 1 by omega) _⟩
    simp [results, Try.f4, go_sem, hfin.out]
  | false =>
    rw [hg] at hgr
    replace hgr := Lib.hid hgr
    clear hB1 hmb hre hg
    go_wp2_with (fail)
    refine hgr.out.mono ?_
    rintro e w2 ⟨rfl, hB2⟩
    have hmb2 := hmb1.out.below hB2
    have hre2 := Lib.hid (hre1.out.below hB2)
    have hBw2 := Lib.hid (trans0 hBw1.out hB2)
    have hat2 := Lib.hid (hat.out w2 hmb2.hm)
    clear p0 p1
    obtain ⟨p0, p1, -⟩ := id hmb2
    replace hmb2 := Lib.hid hmb2
    clear hB2 hgr hmb1 hre1 hat
    go_wp2_with (fail)
    refine hat2.out.mono ?_
    rintro e w3 ⟨rfl, hB3⟩
    have hBa := trans0 hB3 (al0 w3 (.cells #[.string al, .string ah, .int .i64 an] 32))
    obtain ⟨s0, s1, s2⟩ := cells3 w3 (.string al) (.string ah) (.int .i64 an) 32
    obtain ⟨W3, hW3⟩ : ∃ W3, w3.alloc (.cells #[.string al, .string ah, .int .i64 an] 32) = W3 := ⟨_, rfl⟩
    rw [hW3] at hBa s0 s1 s2
    have hmb3 := hmb2.out.below hBa
    have hre3 := Lib.hid (hre2.out.below hBa)
    have hBw3 := Lib.hid (trans0 hBw2.out hBa)
    have hen3 := Lib.hid (hen.out W3 hmb3.hm)
    have hsb := Lib.hid (fun w' (hw : Below W3.heap.size W3 w') => (⟨keep_cell hw s0, keep_cell hw s1, keep_cell hw s2⟩ : w'.cell? ⟨w3.heap.size, 0, none⟩ = some (.string al) ∧ w'.cell? ⟨w3.heap.size, 1, none⟩ = some (.string ah) ∧ w'.cell? ⟨w3.heap.size, 2, none⟩ = some (.int .i64 an)))
    clear p0 p1 s0 s1 s2
    obtain ⟨p0, p1, -⟩ := id hmb3
    rw [← hW3] at p0 p1
    replace hmb3 := Lib.hid hmb3
    have hW3f := Lib.hid hW3
    clear hB3 hBa hmb2 hre2 hat2 hen hW3
    go_wp2_with (fail)
    rw [hW3f.out]
    refine hen3.out.mono ?_
    rintro e w4 ⟨rfl, hB4⟩
    obtain ⟨s0, s1, s2⟩ := hsb.out w4 hB4
    have hmb4 := hmb3.out.below hB4
    have hre4 := Lib.hid (hre3.out.below hB4)
    have hBw4 := Lib.hid (trans0 hBw3.out hB4)
    have hsq1 := seq_self al
    have hsq2 := seq_self ah
    clear p0 p1 hsb hB4 hen3 hmb3 hre3 hW3f
    have hi0 := hmb4.hm.ns
    cases ai
    case' false =>
      clear hcs hi0
      replace hmb4 := Lib.hid hmb4
      obtain ⟨p0, p1⟩ : w4.cell? ⟨w.heap.size, 0, none⟩ = some (.slice A1 m.cs.length c1) ∧ w4.cell? ⟨w.heap.size, 1, none⟩ = some (.slice A2 m.ns.length c2) := ⟨hmb4.out.p0, hmb4.out.p1⟩
      go_wp2
      go_quiet (fail)
      clear p0 p1 s0 s1 s2
    case' true =>
      obtain ⟨g0, g1, rfl⟩ := hcs.out rfl
      obtain ⟨b, off, e2, hb, hc⟩ := hi0.at (i := i.toNat) (by omega)
      have k := hc i.toNat (by omega)
      replace hmb4 := Lib.hid hmb4
      obtain ⟨p0, p1⟩ : w4.cell? ⟨w.heap.size, 0, none⟩ = some (.slice A1 m.cs.length c1) ∧ w4.cell? ⟨w.heap.size, 1, none⟩ = some (.slice A2 m.ns.length c2) := ⟨hmb4.out.p0, hmb4.out.p1⟩
      rw [e2] at p1
      clear hcs hc e2 hb hi0
      generalize nt m.ns i.toNat = x at *
      go_wp2
      go_quiet (fail)
      clear p0 p1 s0 s1 s2 k
    all_goals
      obtain ⟨W4, hW4⟩ : ∃ W4, w4.drewN nq = W4 := ⟨_, rfl⟩
      rw [hW4]
      have hq4 : Below w4.heap.size w4 W4 := by rw [← hW4]; exact below_drewN (Below.refl _ _) _
      have hmb5 := hmb4.out.below (trans0 hq4 (al0 W4 (.cells #[.int .i64 0] 3)))
      have hre5 := hre4.out.below (trans0 hq4 (al0 W4 (.cells #[.int .i64 0] 3)))
      have hn5 := O1.new W4 (.int .i64 0) 3
      have hB5 := trans0 hBw4.out (trans0 hq4 (al0 W4 (.cells #[.int .i64 0] 3)))
      have hwl4 := Lib.hid (trans0 hBw4.out hq4).size
      have hl10 := Lib.hid (Nat.lt_of_lt_of_le (World.block_lt_of_cell? _ _ hre4.out.c) hq4.size)
      obtain ⟨W5, hW5⟩ : ∃ W5, W4.alloc (.cells #[.int .i64 0] 3) = W5 := ⟨_, rfl⟩
      rw [hW5] at hmb5 hre5 hn5 hB5
      obtain ⟨p0, p1, -⟩ := id hmb5
      rw [← hW5] at p0 p1
      have hgo := Lib.hid (shards_any A1 c1 A2 c2 m W5 hmb5.hm)
      have hFB := Lib.hid (⟨hmb5, hre5, hn5⟩ : FB w.heap.size (w.heap.size + 1) W4.heap.size A1 c1 A2 c2 m 0 W5)
      have hBw5 := Lib.hid hB5
      have hlt5 := Lib.hid (show W4.heap.size < W5.heap.size by rw [← hW5]; simp)
      have hW5f := Lib.hid hW5
      clear hW4 hq4 hmb4 hre4 hBw4 hmb5 hre5 hn5 hB5 hW5
      go_wp2_with (fail)
      rw [hW5f.out]
      refine hgo.out.mono ?_
      rintro e w6 ⟨B, B1, d1, B3, d2, rfl, hI, hB6⟩
      have hwl : w.heap.size ≤ w6.heap.size := (trans0 hBw5.out hB6).size
      have hWl : W5.heap.size ≤ w6.heap.size := hB6.size
      have hPI : Hid (FI w w.heap.size (w.heap.size + 1) W4.heap.size A1 c1 A2 c2 m [] w6) := Lib.hid ⟨hFB.out.below hB6, trans0 hBw5.out hB6⟩
      replace hI := Lib.hid hI
      clear p0 p1 hgo hB6 hFB
      go_wp2
      refine (wpIn_wide (n := 6)).1 ?_
      refine' range_reads rfl (by omega) (gf := 38) (lb := #[.pointer (some ⟨B, 0, none⟩)]) rfl trivial (enters_of Try.func38 (by kernel_rfl) rfl)
        (iter_reads 5 (by omega) W5.heap.size w6.heap.size B d1 d2 B1 B3 m w6 (Nat.le_refl _) hI.out) KS.trans (KS.book (Nat.le_refl _)) (fun _ => rfl)
        (FI w w.heap.size (w.heap.size + 1) W4.heap.size A1 c1 A2 c2 m) (fun _ _ _ => False) (FI.from_ hwl) (fun _ _ _ _ _ h _ _ => h.elim) (fun pre => RF.from_ m pre _) hPI.out (sbox m) (KS.alloc _ _) _ ?assign ?body ?done ?stop
      case assign =>
        intro l x W K hbe1 hbe hK
        simp only [encs]
        unfold sbox at hK
        replace hbe := Lib.hid hbe
        gi_wp2
        rw [← hbe.out]
        exact hK
      case stop =>
        rintro D c pre W hD _ h _
        exact h.elim
      case body =>
        rintro l pre x b V hb0 hb ⟨hPV, hBV⟩ ⟨hx, hlt, hnc⟩
        unfold sbox at hb
        subst hx
        have u0 := (cell_of_row V b 0 _ _ (0, 0) hb).trans (show _ = some (.string (spnM.lo m pre.length)) from rfl)
        have u1 := (cell_of_row V b 1 _ _ (0, 0) hb).trans (show _ = some (.string (spnM.hi m pre.length)) from rfl)
        have u2 := (cell_of_row V b 2 _ _ (0, 0) hb).trans (show _ = some (.int .i64 (nt m.ns pre.length)) from rfl)
        have hth : there m (pre.length : Int) = true := (there_iff m _).2 ⟨hnc, by omega, by omega⟩
        have hen := ends_any A1 c1 A2 c2 m (pre.length : Int) V hPV.mb.hm (by omega) (by have := hs1.out.2; omega)
        rw [hth, if_pos rfl, if_pos rfl, show ((pre.length : Nat) : Int).toNat = pre.length from Int.toNat_natCast _] at hen
        have hls : (pre ++ [pre.length]).length = pre.length + 1 := by simp
        have hlen9 : pre.length < 9223372036854775807 := by have := hs1.out.2; omega
        have hput := Lib.hid (fun V' (hv : Below V.heap.size V V') => FB.put (hPV.below hv) (n' := ((pre.length + 1 : Nat) : Int)) (by have := hwl4.out; have := hl10.out; omega) (by have := hl10.out; omega) (fun b off h0 e => by have := hA1.out b off h0 e; have := hwl4.out; omega) (fun b off h0 e => by have := hA2.out b off h0 e; have := hwl4.out; omega))
        have hbx := Lib.hid (fun V' (hv : Below V.heap.size V V') => (⟨keep_cell hv u0, keep_cell hv u1, keep_cell hv u2⟩ : V'.cell? ⟨b, 0, none⟩ = some (.string (spnM.lo m pre.length)) ∧ V'.cell? ⟨b, 1, none⟩ = some (.string (spnM.hi m pre.length)) ∧ V'.cell? ⟨b, 2, none⟩ = some (.int .i64 (nt m.ns pre.length))))
        obtain ⟨p0, p1, -⟩ := id hPV.mb
        have hPV' := Lib.hid hPV
        have hBV' := Lib.hid hBV
        have hlt' := Lib.hid hlt
        replace hen := Lib.hid hen
        replace hls := Lib.hid hls
        clear hb hPV hBV hth u0 u1 u2 hlt hnc hI hPI
        gi_wp2
        refine ⟨trivial, ?_⟩
        refine (CallsIn.inRound l (callsIn_wide.2 hen.out)).mono ?_
        rintro e V1 ⟨rfl, hB1⟩
        obtain ⟨u0, u1, u2⟩ := hbx.out V1 hB1
        clear p0 p1
        have hP1 := hPV'.out.below hB1
        obtain ⟨n0, n1⟩ := id hP1.nn
        obtain ⟨p0, p1, hm1⟩ := id hP1.mb
        obtain ⟨bb, off, e2, hbb, hc⟩ := hm1.ns.at hlt'.out
        have k := hc pre.length hlt'.out
        have hnn0 : (0 : Int) ≤ (pre.length : Int) := by omega
        have hnn1 : (pre.length : Int) < (m.ns.length : Int) := by have := hlt'.out; omega
        have hsq1 := seq_self (spnM.lo m pre.length)
        have hsq2 := seq_self (spnM.hi m pre.length)
        rw [e2] at p1
        have hB1' := Lib.hid hB1
        clear hP1 hm1 hbb hc e2 hB1 hen hbx
        generalize spnM.lo m pre.length = l1 at *
        generalize spnM.hi m pre.length = l2 at *
        generalize nt m.ns pre.length = xn at *
        gi_wp2
        refine quiet_round rfl (by kernel_rfl) (by kernel_rfl) (by kernel_rfl) ?_
        repeat (gi_big_quiet_step (fail))
        refine wpQuietIn_nil ?_
        rintro _ ⟨nq, rfl⟩
        all_goals
          obtain ⟨V2, hV2⟩ : ∃ V2, V1.drewN nq = V2 := ⟨_, rfl⟩
          rw [hV2]
          have hq2 : Below V.heap.size V V2 := by rw [← hV2]; exact below_drewN hB1'.out _
          have hpu := Lib.hid (hput.out V2 hq2)
          obtain ⟨z0, z1⟩ := id (hPV'.out.below hq2).nn
          have hks : KeepsOthers V (V2.setCell ⟨W4.heap.size, 0, none⟩ (.int .i64 ((pre.length + 1 : Nat) : Int))) ∧ KS W5.heap.size w6.heap.size V (V2.setCell ⟨W4.heap.size, 0, none⟩ (.int .i64 ((pre.length + 1 : Nat) : Int))) := by
            refine ⟨KeepsOthers.trans (⟨hq2.size, fun k o hk ho => (hq2.block k (Array.getElem?_eq_some_iff.1 hk).1).trans hk⟩ : KeepsOthers V V2) (KeepsOthers.setCell _ _ _), (KS.below hq2).trans ⟨by simp, fun _ k h1 h2 => Below.heap_setCell V2 ⟨W4.heap.size, 0, none⟩ _ k (show k ≠ W4.heap.size by have := hlt5.out; omega)⟩⟩
          have hbe := Lib.hid ((trans0 hBV'.out hq2).setCell (p := ⟨W4.heap.size, 0, none⟩) (show w.heap.size ≤ W4.heap.size from hwl4.out) (.int .i64 ((pre.length + 1 : Nat) : Int)))
          have hks' := Lib.hid hks
          clear hV2 hq2 n0 n1 p0 p1 u0 u1 u2 k hks hB1'
          gi_wp2
          rw [show ((pre.length : Nat) : Int) + 1 = ((pre.length + 1 : Nat) : Int) by omega]
          refine ⟨hks'.out.1, hks'.out.2, ?_, hbe.out⟩
          show FB _ _ _ _ _ _ _ _ _ _
          rw [hls.out]
          exact hpu.out
      case done =>
        rintro D ys V hD hlen ⟨hPV, hBV⟩ hK
        rw [hlen] at hPV
        have hen := ends_any A1 c1 A2 c2 m (cnt m : Nat) V hPV.mb.hm (by omega) (by have := hs1.out.2; have := cnt_le m; omega)
        rw [there_cnt m] at hen
        simp only [Bool.false_eq_true, if_false] at hen
        replace hen := Lib.hid hen
        obtain ⟨p0, p1, -⟩ := id hPV.mb
        obtain ⟨n0, n1⟩ := id hPV.nn
        replace hPV := Lib.hid hPV
        replace hBV := Lib.hid hBV
        have hl10' := hl10.out
        clear hI hPI hl10'
        generalize cnt m = cn at *
        go_wp2_with (fail)
        refine hen.out.mono ?_
        rintro e V1 ⟨rfl, hB1⟩
        have hP1 := hPV.out.below hB1
        have hB1' := Lib.hid (trans0 hBV.out hB1)
        have hK1 : V1.heap[D]? = some (.deferred (some [])) := (hB1.block D (Array.getElem?_eq_some_iff.1 hK).1).trans hK
        have hS := Lib.hid (show ∀ w', Below V1.heap.size V1 w' → SL w.heap.size (.slice A1 m.cs.length c1) (.slice A2 m.ns.length c2) w' from fun w' hw => (hP1.below hw).mb.sl)
        have hSd := Lib.hid (hS.out V1.drew (below_drew V1))
        have kA := Lib.hid (up_awake V1)
        have kF := Lib.hid (show Up 18 #[.agg #[.slice A1 m.cs.length c1, .slice A2 m.ns.length c2], .string key] (.returned (.int .i64 (fnd m.cs key : Nat))) V1 from up_of fun w' hw => find_any A1 c1 _ m.cs key w' (hP1.below hw).mb.hm.cs (by have := hs1.out.1; omega))
        have kG := Lib.hid (show Up 19 #[.agg #[.slice A1 m.cs.length c1, .slice A2 m.ns.length c2], .string key] (.returned (.int .i64 (fnd m.cs key : Nat))) V1 from up_of fun w' hw => rfind_any A1 c1 _ m.cs key w' (hP1.below hw).mb.hm.cs (by have := hs1.out.1; omega))
        have kO := Lib.hid (show Up 20 #[.agg #[.slice A1 m.cs.length c1, .slice A2 m.ns.length c2], .string key] (.returned (.int .i64 (own m key))) V1 from up_of fun w' hw => owner_any A1 c1 A2 c2 m key w' (hP1.below hw).mb.hm)
        have kQ := Lib.hid (show Up 21 #[.agg #[.slice A1 m.cs.length c1, .slice A2 m.ns.length c2], .string key] (.returned (.int .i64 (own m key))) V1 from up_of fun w' hw => rowner_any A1 c1 A2 c2 m key w' (hP1.below hw).mb.hm)
        have kW := Lib.hid (show Up 22 #[.string key, .string lk, .string hk] (.returned (.bool (wth key lk hk))) V1 from fun w' hw => (within_any key lk hk w').mono fun _ _ ⟨he, hb⟩ => ⟨he, hb ▸ hw⟩)
        have kX := Lib.hid (show Up 23 #[.string key, .string lk, .string hk] (.returned (.bool (wth key lk hk))) V1 from fun w' hw => (rwithin_any key lk hk w').mono fun _ _ ⟨he, hb⟩ => ⟨he, hb ▸ hw⟩)
        have hre := Lib.hid (fun w' (hw : Below V1.heap.size V1 w') => (hP1.below hw).re)
        have hne := Lib.hid (show w.heap.size ≠ w.heap.size + 1 by omega)
        replace hK1 := Lib.hid hK1
        clear hP1 hB1 hPV hBV hK p0 p1 n0 n1 hen
        generalize own m key = ow at *
        generalize fnd m.cs key = fk at *
        generalize wth key lk hk = wk at *
        go_wp2
        go_region_held3 (SL w.heap.size (.slice A1 m.cs.length c1) (.slice A2 m.ns.length c2))
          (first | with_reducible exact hSd.out | with_reducible assumption | with_reducible exact hS.out _ (by assumption) | with_reducible exact SL.set (by assumption) hne.out 0 _ | fail)
          (first
            | (go_at_call 11; ((with_reducible refine (kA.out _ (by first | assumption | exact (Below.refl _ _).drew)).mono ?_); rintro e w' ⟨rfl, hBx⟩))
            | (go_at_call 18; ((with_reducible refine (kF.out _ (by first | assumption | exact (Below.refl _ _).drew)).mono ?_); rintro e w' ⟨rfl, hBx⟩))
            | (go_at_call 19; ((with_reducible refine (kG.out _ (by first | assumption | exact (Below.refl _ _).drew)).mono ?_); rintro e w' ⟨rfl, hBx⟩))
            | (go_at_call 20; ((with_reducible refine (kO.out _ (by first | assumption | exact (Below.refl _ _).drew)).mono ?_); rintro e w' ⟨rfl, hBx⟩))
            | (go_at_call 21; ((with_reducible refine (kQ.out _ (by first | assumption | exact (Below.refl _ _).drew)).mono ?_); rintro e w' ⟨rfl, hBx⟩))
            | (go_at_call 22; ((with_reducible refine (kW.out _ (by first | assumption | exact (Below.refl _ _).drew)).mono ?_); rintro e w' ⟨rfl, hBx⟩; obtain ⟨hc6, hf6⟩ := hre.out _ hBx))
            | (go_at_call 23; ((with_reducible refine (kX.out _ (by first | assumption | exact (Below.refl _ _).drew)).mono ?_); rintro e w' ⟨rfl, hBx⟩; obtain ⟨hc6, hf6⟩ := hre.out _ hBx)) | fail)
        all_goals
          have hKb : w'.heap[D]? = some (.deferred (some [])) := (hBx.block D (Array.getElem?_eq_some_iff.1 hK1.out).1).trans hK1.out
          have hK' := Lib.hid ((KeepsOthers.setCell w' ⟨w.heap.size + 1, 0, none⟩ (.bool true)).same D _ hKb rfl)
          have hput := Lib.hid (O1.put ⟨hc6, hf6⟩ (.bool true) : O1 (w.heap.size + 1) (.bool true) (w'.setCell ⟨w.heap.size + 1, 0, none⟩ (.bool true)))
          have hbe := Lib.hid ((trans0 hB1'.out hBx).setCell (p := ⟨w.heap.size + 1, 0, none⟩) (show w.heap.size ≤ w.heap.size + 1 by omega) (.bool true))
          clear hKb hBx hc6 hf6
          go_wp2
          refine ⟨by simp, .inl ⟨_, _, rfl, run_takeDeferred hK'.out, ?_⟩⟩
          have h5 := hput.out.kept (grownBy_putObj' _ D (.deferred none)) (fun r e => by cases e; exact ⟨_, hK'.out, rfl⟩)
          have x0 := h5.c
          refine ⟨.bool true, ?_, rfl, hbe.out.trans (belowK_b (w := w) (Nat.le_refl _) _ D _ _ (by omega) hK'.out rfl rfl)⟩
          simp [results, Try.f4, go_sem, x0]
end Go.Proofs.Ytihaapjobkpdcaa.spnZ
