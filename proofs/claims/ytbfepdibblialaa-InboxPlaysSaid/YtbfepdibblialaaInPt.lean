/- The program's Put. -/
import Derived.Test.YtbfepdibblialaaInP
set_option linter.unusedVariables false
set_option linter.unusedSimpArgs false
set_option maxRecDepth 100000
namespace Go.Proofs.Ytbfepdibblialaa.inPt
open Go.ChangeShapes Go.WideShapes Go.ChangeAt Go.RowKit Go.Deep
open opV chnM gen chnA chnR chnE ordA ordB ordC inM inW inL inN inP

/-- the cells of a copied commit -/
abbrev cM (m : MR) (A : Option Addr) (c : Nat) : Array Value := #[.int .u64 m.ts, .int .i64 m.dc, .int .i64 m.tx, .slice A m.vs.length c]
section
variable {col : Nat → Nat} {c p : Nat} {S : Bx}
theorem putS_box {col' : Nat → Nat} {w w' : World} {Ao Ai : Option Addr} {co ci mb n : Nat} {ms : List MR} {D : DM} {m : MR} {at0 : Int} (hok : S.ok) (he : at0 = S.nxt) (hC : Cn c col w col' w') (h : BoxM col' c w' p S.ap Ao co S.outs Ai ci (ms ++ [m]) mb n D S.g) (hr : ms.map MR.r = S.came.drop S.handed) (hn : n ≤ S.hearts.length) (hm : MapRel S.hearts S.ap S.g D) : Lv col c p (bxS S at0 m.r) w w' := by
  have e0 := ap_put S at0 m.r
  have e1 : (bxS S at0 m.r).hearts = S.hearts := by unfold bxS; split <;> rfl
  have e2 : (bxS S at0 m.r).g = S.g := by unfold Bx.g; rw [e0, e1]
  have e3 : (bxS S at0 m.r).outs = S.outs := by
    unfold bxS Bx.outs
    rw [if_pos he]
    simp only [lead_app]
    rw [List.take_append_of_le_length (by rw [hok.len]; exact hok.hd)]
  refine ⟨col', hC, _, _, _, _, ms ++ [m], mb, n, D, by rw [e0, e2, e3]; exact h, ?_, by rw [e1]; exact hn, by rw [e0, e1, e2]; exact hm⟩
  unfold bxS
  rw [if_pos he, List.map_append, hr]
  simp only
  rw [List.drop_append_of_le_length hok.hd]
  rfl
theorem pt_end {w w4 w6 : World} {ap g : Int} {Ao Ai Ac A' : Option Addr} {co ci mb n cc c' : Nat} {xo : List Bool} {ms : List MR} {D : DM} {m : MR} {o : Obj} (h : BoxM col c w p ap Ao co xo Ai ci ms mb n D g) (hc : c ≠ 0) (hf : Fresh col w) (hB : Below w.heap.size w w4) (hG : GV w4 w.heap.size Ac cc m.vs) (hsz : m.vs.length * 64 ≤ 140737488355328) (hs : Sm m.vs)
    (hw : Win w6 0 30 4 A' (ms.length + 1) c' (gl ms ++ cR { m with A := Ac, c := cc })) (hg : (w4.alloc o).grownBy w6 (Value.slice Ai ms.length ci).ownBlock) (hat : (Value.slice A' (ms.length + 1) c').ownBlock = (Value.slice Ai ms.length ci).ownBlock ∨ (Value.slice A' (ms.length + 1) c').ownBlock = some (w4.alloc o).heap.size) :
    w6.cell? ⟨p, 2, none⟩ = some (.slice Ai ms.length ci) ∧ w6.frozen? ⟨p, 2, none⟩ = false ∧ ∃ col', Cn c col w col' (w6.setCell ⟨p, 2, none⟩ (.slice A' (ms.length + 1) c')) ∧ BoxM col' c (w6.setCell ⟨p, 2, none⟩ (.slice A' (ms.length + 1) c')) p ap Ao co xo A' c' (ms ++ [{ m with A := Ac, c := cc }]) mb n D g := by
  have hB5 := trans0 hB (al0 w4 o)
  have h5 := h.below hB5
  have hd : DV col (w4.alloc o) { m with A := Ac, c := cc } := (DV.of_gv (m := { m with A := Ac, c := cc }) hG hsz hs hf).below (al0 w4 o)
  have hl : (ms ++ [{ m with A := Ac, c := cc }]).length = ms.length + 1 := by simp
  rw [← gl_one, ← gl_app] at hw
  rw [← hl] at hw hat ⊢
  obtain ⟨z1, z2, col', hC, h'⟩ := h5.grI hc (hf.up hB5.size) hg hw hat (fun x hx => by
    rcases List.mem_append.1 hx with hx | hx
    · exact h5.dv x hx
    · rw [List.mem_singleton.1 hx]; exact hd)
  exact ⟨z1, z2, col', (Cn.below hf hB5).trans hC, h'⟩
set_option maxHeartbeats 4000000 in
theorem put_at (w : World) (h : BoxAt col c w p S) (hok : S.ok) (hl : S.lim) (hc : c ≠ 0) (hf : Fresh col w) (at0 : Int) (m : MR) (hm : HV w m.A m.c m.vs) (hs : Sm m.vs) : Calls Try.prog 10 #[.pointer (some ⟨p, 0, none⟩), .int .i64 at0, rv m] w fun e w' =>
    e = .returned (.int .i64 (bxE S at0)) ∧ Lv col c p (bxS S at0 m.r) w w' := by
  obtain ⟨W, hW⟩ : ∃ W, w.alloc (.cells #[.int .u64 m.ts, .int .i64 m.dc, .int .i64 m.tx, .slice m.A m.vs.length m.c] 30) = W := ⟨_, rfl⟩
  have hP : P4 w.heap.size m W := by rw [← hW]; exact P4.new w m
  have hB : Below w.heap.size w W := by rw [← hW]; exact al0 _ _
  have hwt := Lib.hid (fun w' (hB : Below w.heap.size w w') => wanting_at w' (h.below hB) hok hl)
  have hst := Lib.hid (fun w' (hB : Below w.heap.size w w') => lv_stay h hf hB)
  replace hW := Lib.hid hW
  rcases Int.lt_trichotomy at0 (S.nxt : Int) with ht | ht | ht
  · have hE : bxE S at0 = 11 := if_pos ht
    have hS : bxS S at0 m.r = S := if_neg (by omega)
    rw [hE, hS]
    clear h hok hl hm hs hE hS
    generalize (S.nxt : Int) = nx at *
    go_enter Try.func10, Try.ntmps10
    go_upto_region 1 with (fail)
    rw [hW.out]
    go_wp2_with (fail)
    with_reducible refine (hwt.out _ hB).mono ?_
    rintro e w1 ⟨rfl, hB1⟩
    have hfin := Lib.hid (hst.out _ (trans0 hB hB1))
    clear hB hB1 hst hwt
    go_wp2
    go_ret
    exact ⟨rfl, hfin.out⟩
  · have hE : bxE S at0 = 0 := by unfold bxE; rw [if_neg (by omega), if_neg (by omega)]
    rw [hE]
    obtain ⟨Ao, co, Ai, ci, ms, mb, n, D, h, hr, hn, hmr⟩ := h
    have h1 := hok.outs_len
    have h2 := ms_len hr
    have h3 := hok.hd
    obtain ⟨a1, a2, a3⟩ := hl
    have ht1 : ¬ at0 < (S.nxt : Int) := by omega
    have ht2 : ¬ (S.nxt : Int) < at0 := by omega
    have ew : IntKind.i64.wrap ((S.outs.length : Int) + (ms.length : Int)) = (S.outs.length : Int) + (ms.length : Int) := wrap_in _ (by omega) (by omega)
    have e4 : ¬ (4096 : Int) ≤ (S.outs.length : Int) + (ms.length : Int) := by omega
    have hml : ms.length ≤ 150 := by omega
    have hend := Lib.hid (fun (w4 w6 : World) Ac cc A' c' o (hB : Below w.heap.size w w4) hG hw hg hat => (by
      obtain ⟨z1, z2, c2, hC, hx⟩ := pt_end (w4 := w4) (w6 := w6) (m := m) (Ac := Ac) (cc := cc) (A' := A') (c' := c') (o := o) h hc hf hB hG hm.sm hs hw hg hat
      exact ⟨z1, z2, putS_box (m := { m with A := Ac, c := cc }) hok ht hC hx hr hn hmr⟩ : w6.cell? ⟨p, 2, none⟩ = some (.slice Ai ms.length ci) ∧ w6.frozen? ⟨p, 2, none⟩ = false ∧ Lv col c p (bxS S at0 m.r) w (w6.setCell ⟨p, 2, none⟩ (.slice A' (ms.length + 1) c'))))
    have hcopy := Lib.hid (fun w' (hB : Below w.heap.size w w') => copy_any m w' (hm.below hB) hs)
    have hcl := Lib.hid (fun w' (hB : Below w.heap.size w w') => (h.below hB).cells)
    have hfz := Lib.hid (fun w' (hB : Below w.heap.size w w') => (h.below hB).fz 2)
    have hown := Lib.hid (fun w' (hB : Below w.heap.size w w') => (h.below hB).wi)
    obtain ⟨iR, hiR, hzR0, hzR1, hzR2⟩ := info_parts infoR
    clear h hok hm hs hE hr hn hmr h1 h2 h3 a1 a2 a3 hst hf hc ht
    generalize bxS S at0 m.r = S' at *
    generalize (S.nxt : Int) = nx at *
    generalize S.outs = xo at *
    go_enter Try.func10, Try.ntmps10
    go_upto_region 1 with (fail)
    rw [hW.out]
    go_wp2_with (fail)
    with_reducible refine (hwt.out _ hB).mono ?_
    rintro e w1 ⟨rfl, hB1⟩
    have hBB := Lib.hid (trans0 hB hB1)
    have hP1 := Lib.hid (P4.below hP hB1)
    clear hB hB1 hP
    go_wp2_with (fail)
    with_reducible refine (hwt.out _ hBB.out).mono ?_
    rintro e w2 ⟨rfl, hB2⟩
    have hB0 := Lib.hid (trans0 hBB.out hB2)
    have hP2 := Lib.hid (P4.below hP1.out hB2)
    clear hBB hP1 hB2 hwt
    obtain ⟨k0, k1, k2, k3, k4⟩ := hcl.out _ hB0.out
    have hall := Lib.hid (fun nn => And.intro (bdrN nn hB0.out) (P4.below hP2.out (bdrN nn (Below.refl _ _))))
    go_upto_region 7 with (fail)
    go_quiet (fail)
    obtain ⟨hB3, hP3⟩ := hall.out nq
    clear hall k0 k1 k2 k3 k4 hP2 hB0
    generalize w2.drewN nq = W3 at *
    obtain ⟨k0, k1, k2, k3, k4⟩ := hcl.out _ hB3
    have f2 := hfz.out _ hB3
    have hBd := Lib.hid hB3.drew
    have hpl := World.block_lt_of_cell? _ _ k1
    have hb8 := P4.r4 hP3
    have hbx8 := Lib.hid hb8
    have hwl := World.block_lt_of_cell? _ _ hb8.1
    obtain ⟨b0, b1, b2, b3⟩ := hb8
    replace hB3 := Lib.hid hB3
    replace hP3 := Lib.hid hP3
    go_upto_region 9 with (fail)
    go_region_law (first
      | (go_simp; go_at_call 28; ((with_reducible refine (hcopy.out _ hBd.out).mono ?_); rintro e w4 ⟨Ac, cc, rfl, hG4, hB4⟩); have hB4w := Lib.hid (trans0 hBd.out hB4); have hG4w := Lib.hid (hG4.more hBd.out.size); have e1' := keep_cell hB4 (show W3.drew.cell? ⟨p, 2, none⟩ = _ from k2); have hp4 := World.block_lt_of_cell? _ _ e1'; obtain ⟨d0, d1, d2, d3⟩ := R4.below (show R4 w.heap.size 0 m W3.drew from hbx8.out) hB4; have hal4 := Lib.hid (al0 w4 (.cells (cM m Ac cc) 30)); have hst4 := Lib.hid (stand_new w4 (cR { m with A := Ac, c := cc }) 30 1); have hown4 := Lib.hid ((hown.out w4 hB4w.out).below hal4.out); clear hG4 hB4)
      | (refine step_win rfl (.tmp 37) (.tmp 40) 45 rfl 0 30 iR _ 4 48 Try.underlying45 hiR hzR0 hzR1 hzR2 rfl (by decide) Ai ms.length ci (gl ms) (by rfl) hown4.out (some ⟨w4.heap.size, 0, none⟩) 1 1 (cR { m with A := Ac, c := cc }) (by rfl) rfl hst4.out (cR_one _) (by unfold maxLen; omega) (by omega) (Nat.zero_le _) ?_; intro A' c' w6 hw hg hat; obtain ⟨z1, z2, hD⟩ := hend.out _ _ _ _ _ _ _ hB4w.out hG4w.out hw hg hat; replace hD := Lib.hid hD; clear hw hg hat)
      | fail)
    all_goals
      go_wp2
      go_ret
      exact ⟨rfl, hD.out⟩
  · have hE : bxE S at0 = 7 := by unfold bxE; rw [if_neg (by omega), if_pos ht]
    have hS : bxS S at0 m.r = S := if_neg (by omega)
    have ht2 : ¬ at0 < (S.nxt : Int) := by omega
    rw [hE, hS]
    clear h hok hl hm hs hE hS
    generalize (S.nxt : Int) = nx at *
    go_enter Try.func10, Try.ntmps10
    go_upto_region 1 with (fail)
    rw [hW.out]
    go_wp2_with (fail)
    with_reducible refine (hwt.out _ hB).mono ?_
    rintro e w1 ⟨rfl, hB1⟩
    have hBB := Lib.hid (trans0 hB hB1)
    clear hB hB1
    go_wp2_with (fail)
    with_reducible refine (hwt.out _ hBB.out).mono ?_
    rintro e w2 ⟨rfl, hB2⟩
    have hfin := Lib.hid (hst.out _ (trans0 hBB.out hB2))
    clear hB2 hst hwt
    go_wp2
    go_ret
    exact ⟨rfl, hfin.out⟩
end
end Go.Proofs.Ytbfepdibblialaa.inPt
