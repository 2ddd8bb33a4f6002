/- The document's Put. -/
import Derived.Test.YtbfepdibblialaaInR
set_option linter.unusedVariables false
set_option linter.unusedSimpArgs false
set_option maxRecDepth 100000
namespace Go.Proofs.Ytbfepdibblialaa.inU
open Go.ChangeShapes Go.WideShapes Go.ChangeAt Go.RowKit Go.Deep
open opG opV opR chnM gen chnA chnR chnE ordA ordB ordC ordCr ordE2 inM inW inL inN inP inPt inG inD inA inK inQ inR

section
variable {col : Nat → Nat} {c q : Nat} {S : Bx} {f hd g : Int} {Ac Ad Ah Az A' : Option Addr} {cc cd ch cz c' : Nat} {xd : List Bool} {ms : List MR} {hs : List (Int × Int)} {w w4 w6 : World} {m : MR} {o : Obj}
theorem dpt_end (h : DocM col c w q f Ac cc ms hd Ad cd xd Ah ch hs g) (hc : c ≠ 0) (hf : Fresh col w) (hB : Below w.heap.size w w4) (hG : GV w4 w.heap.size Az cz m.vs) (hsz : m.vs.length * 64 ≤ 140737488355328) (hs0 : Sm m.vs)
    (hw : Win w6 0 30 4 A' (ms.length + 1) c' (gl ms ++ cR { m with A := Az, c := cz })) (hg : (w4.alloc o).grownBy w6 (Value.slice Ac ms.length cc).ownBlock) (hat : (Value.slice A' (ms.length + 1) c').ownBlock = (Value.slice Ac ms.length cc).ownBlock ∨ (Value.slice A' (ms.length + 1) c').ownBlock = some (w4.alloc o).heap.size) :
    w6.cell? ⟨q, 1, none⟩ = some (.slice Ac ms.length cc) ∧ w6.frozen? ⟨q, 1, none⟩ = false ∧ ∃ col', Cn c col w col' (w6.setCell ⟨q, 1, none⟩ (.slice A' (ms.length + 1) c')) ∧ DocM col' c (w6.setCell ⟨q, 1, none⟩ (.slice A' (ms.length + 1) c')) q f A' c' (ms ++ [{ m with A := Az, c := cz }]) hd Ad cd xd Ah ch hs g := by
  have hB5 := trans0 hB (al0 w4 o)
  have h5 := h.below hB5
  have hd0 : DV col (w4.alloc o) { m with A := Az, c := cz } := (DV.of_gv (m := { m with A := Az, c := cz }) hG hsz hs0 hf).below (al0 w4 o)
  have hl : (ms ++ [{ m with A := Az, c := cz }]).length = ms.length + 1 := by simp
  rw [← gl_one, ← gl_app] at hw
  rw [← hl] at hw hat ⊢
  obtain ⟨z1, z2, col', hC, h'⟩ := h5.grc hc (hf.up hB5.size) hg hw hat (fun x hx => by
    rcases List.mem_append.1 hx with hx | hx
    · exact h5.dv x hx
    · rw [List.mem_singleton.1 hx]; exact hd0)
  exact ⟨z1, z2, col', (Cn.below hf hB5).trans hC, h'⟩
theorem dpt_done {w7 : World} (h : DocM col c w q f Ac cc ms hd Ad cd xd Ah ch hs g) (hc : c ≠ 0) (hf : Fresh col w) (hw : Win w7 0 4 1 A' (xd.length + 1) c' (bo xd ++ [.bool false])) (hg : (w.alloc o).grownBy w7 (Value.slice Ad xd.length cd).ownBlock)
    (hat : (Value.slice A' (xd.length + 1) c').ownBlock = (Value.slice Ad xd.length cd).ownBlock ∨ (Value.slice A' (xd.length + 1) c').ownBlock = some (w.alloc o).heap.size) :
    w7.cell? ⟨q, 3, none⟩ = some (.slice Ad xd.length cd) ∧ w7.frozen? ⟨q, 3, none⟩ = false ∧ ∃ col', Cn c col w col' (w7.setCell ⟨q, 3, none⟩ (.slice A' (xd.length + 1) c')) ∧ DocM col' c (w7.setCell ⟨q, 3, none⟩ (.slice A' (xd.length + 1) c')) q f Ac cc ms hd A' c' (xd ++ [false]) Ah ch hs g := by
  have hB := al0 w o
  have hl : (xd ++ [false]).length = xd.length + 1 := by simp
  have he : bo xd ++ [Value.bool false] = bo (xd ++ [false]) := by rw [bo_app]; rfl
  rw [he] at hw
  rw [← hl] at hw hat ⊢
  obtain ⟨z1, z2, col', hC, h'⟩ := (h.below hB).grd hc (hf.up hB.size) hg hw hat
  exact ⟨z1, z2, col', (Cn.below hf hB).trans hC, h'⟩
theorem dputS_box {w' : World} {col' : Nat → Nat} {at0 : Int} (he : at0 = S.nxt) (hC : Cn c col w col' w') (h : DocM col' c w' q S.first Ac cc (ms ++ [m]) S.handed Ad cd (S.done ++ [false]) Ah ch S.hearts S.g) (hr : ms.map MR.r = S.came) : DLv col c q (bxS S at0 m.r) w w' := by
  have e2 : (bxS S at0 m.r).g = S.g := by unfold Bx.g; rw [ap_put, show (bxS S at0 m.r).hearts = S.hearts by unfold bxS; split <;> rfl]
  refine ⟨col', hC, Ac, cc, ms ++ [m], Ad, cd, Ah, ch, ?_, ?_⟩
  · rw [e2]
    unfold bxS
    rw [if_pos he]
    exact h
  · unfold bxS
    rw [if_pos he, List.map_append, hr]
    rfl
set_option maxHeartbeats 8000000 in
theorem dput_at (w : World) (h : DocAt col c w q S) (hok : S.ok) (hl : S.lim) (hc : c ≠ 0) (hf : Fresh col w) (at0 : Int) (m : MR) (hm : HV w m.A m.c m.vs) (hs : Sm m.vs) : Calls Try.prog 12 #[.pointer (some ⟨q, 0, none⟩), .int .i64 at0, rv m] w fun e w' =>
    e = .returned (.int .i64 (bxE S at0)) ∧ DLv col c q (bxS S at0 m.r) w w' := by
  obtain ⟨W, hW⟩ : ∃ W, w.alloc (.cells #[.int .u64 m.ts, .int .i64 m.dc, .int .i64 m.tx, .slice m.A m.vs.length m.c] 30) = W := ⟨_, rfl⟩
  have hP : P4 w.heap.size m W := by rw [← hW]; exact P4.new w m
  have hB : Below w.heap.size w W := by rw [← hW]; exact al0 _ _
  have hst := Lib.hid (fun w' (hB : Below w.heap.size w w') => dlv_stay h hf hB)
  have hap := Lib.hid (fun w' (hB : Below w.heap.size w w') => dapplied_at w' (h.below hB) hok hl)
  obtain ⟨Ac, cc, ms, Ad, cd, Ah, ch, h, hr⟩ := h
  have hml : S.came.length = ms.length := by rw [← hr, List.length_map]
  obtain ⟨k0, k1, k2, k3, k4, k5⟩ := (h.below hB).cells
  have a1 := hl.f
  have a2 := hl.c
  have hnx : (S.nxt : Int) = (S.first : Int) + (ms.length : Int) := by unfold Bx.nxt; omega
  have ew : IntKind.i64.wrap ((S.first : Int) + (ms.length : Int)) = (S.nxt : Int) := by rw [hnx]; exact wrap_in _ (by omega) (by omega)
  have hall := Lib.hid (fun nn => And.intro (bdrN nn hB) (P4.below hP (bdrN nn (Below.refl _ _))))
  replace hW := Lib.hid hW
  rcases Int.lt_trichotomy at0 (S.nxt : Int) with ht | ht | ht
  · have hE : bxE S at0 = 11 := if_pos ht
    have hS : bxS S at0 m.r = S := if_neg (by omega)
    rw [hE, hS]
    clear h hok hl hm hs hE hS hB hP hap hr hml a1 a2 hnx
    generalize (S.nxt : Int) = nx at *
    go_enter Try.func12, Try.ntmps12
    go_upto_region 1 with (fail)
    rw [hW.out]
    go_quiet (fail)
    have hfin := Lib.hid (hst.out _ (hall.out nq).1)
    clear hall hst k0 k1 k2 k3 k4 k5
    go_wp2
    go_ret
    exact ⟨rfl, hfin.out⟩
  · have hE : bxE S at0 = 0 := by unfold bxE; rw [if_neg (by omega), if_neg (by omega)]
    rw [hE]
    have hlh := hok.lh
    have hhd := hok.hd
    have hln := hok.len
    have ht1 : ¬ at0 < (S.nxt : Int) := by omega
    have ht2 : ¬ (S.nxt : Int) < at0 := by omega
    have eap : (S.ap : Int) = S.first + lead S.done := by unfold Bx.ap; omega
    have ew2 : IntKind.i64.wrap ((S.nxt : Int) - (S.ap : Int)) = (S.nxt : Int) - (S.ap : Int) := wrap_in _ (by omega) (by omega)
    have e4 : ¬ (4096 : Int) ≤ (S.nxt : Int) - (S.ap : Int) := by omega
    have hml9 : ms.length ≤ 150 := by omega
    have hdl9 : S.done.length ≤ 150 := by omega
    have hend := Lib.hid (fun (w4 w6 : World) Az cz A' c' o (hB : Below w.heap.size w w4) hG hw hg hat => dpt_end (w4 := w4) (w6 := w6) (m := m) (Az := Az) (cz := cz) (A' := A') (c' := c') (o := o) h hc hf hB hG hm.sm hs hw hg hat)
    have hend2 := Lib.hid (fun (w6 w8 : World) (col6 col8 : Nat → Nat) Az cz A' c' A2 c2 (hC6 : Cn c col w col6 w6) (hC8 : Cn c col6 w6 col8 w8) h8 => (show DLv col c q (bxS S at0 m.r) w w8 from dputS_box (m := { m with A := Az, c := cz }) (Ac := A') (cc := c') (Ad := A2) (cd := c2) (Ah := Ah) (ch := ch) (ms := ms) ht (hC6.trans hC8) h8 hr))
    have hcopy := Lib.hid (fun w' (hB : Below w.heap.size w w') => rcopy_any m w' (hm.below hB))
    have hcl := Lib.hid (fun w' (hB : Below w.heap.size w w') => (h.below hB).cells)
    have hfz := Lib.hid (fun w' (hB : Below w.heap.size w w') => (h.below hB).fz 1)
    have hown := Lib.hid (fun w' (hB : Below w.heap.size w w') => (h.below hB).wc)
    obtain ⟨iR, hiR, hzR0, hzR1, hzR2⟩ := info_parts infoR
    obtain ⟨iB, hiB, hzB0, hzB1, hzB2⟩ := info_parts infoBool
    clear h hok hl hm hs hE hr hst hf ht eap hlh hhd hln hnx hml a1 a2
    generalize bxS S at0 m.r = S' at *
    generalize (S.nxt : Int) = nx at *
    generalize (S.ap : Int) = ap at *
    generalize S.done = xd at *
    go_enter Try.func12, Try.ntmps12
    go_upto_region 1 with (fail)
    rw [hW.out]
    go_quiet (fail)
    obtain ⟨hB2, hP2⟩ := hall.out nq
    have hap2 := Lib.hid (hap.out _ hB2)
    generalize W.drewN nq = W2 at *
    clear hall hap k0 k1 k2 k3 k4 k5 hB hP
    go_wp2_with (fail)
    with_reducible refine hap2.out.mono ?_
    rintro e w3 ⟨rfl, rfl⟩
    obtain ⟨k0, k1, k2, k3, k4, k5⟩ := hcl.out _ hB2
    have f1 := hfz.out _ hB2
    have hBd := Lib.hid hB2.drew
    have hpl := World.block_lt_of_cell? _ _ k1
    have hb8 := P4.r4 hP2
    have hbx8 := Lib.hid hb8
    have hwl := World.block_lt_of_cell? _ _ hb8.1
    obtain ⟨b0, b1, b2, b3⟩ := hb8
    replace hB2 := Lib.hid hB2
    replace hP2 := Lib.hid hP2
    clear hap2
    go_upto_region 8 with (fail)
    go_region_law (first
      | (go_simp; go_at_call 26; ((with_reducible refine (hcopy.out _ hBd.out).mono ?_); rintro e w4 ⟨Az, cz, rfl, hG4, hB4⟩); have hB4w := Lib.hid (trans0 hBd.out hB4); have hG4w := Lib.hid (hG4.more hBd.out.size); have e1' := keep_cell hB4 (show W2.drew.cell? ⟨q, 1, none⟩ = _ from k1); have hp4 := World.block_lt_of_cell? _ _ e1'; obtain ⟨d0, d1, d2, d3⟩ := R4.below (show R4 w.heap.size 0 m W2.drew from hbx8.out) hB4; have hal4 := Lib.hid (al0 w4 (.cells (cM m Az cz) 30)); have hst4 := Lib.hid (stand_new w4 (cR { m with A := Az, c := cz }) 30 1); have hown4 := Lib.hid ((hown.out w4 hB4w.out).below hal4.out); clear hG4 hB4)
      | (refine step_win rfl (.tmp 33) (.tmp 36) 45 rfl 0 30 iR _ 4 48 Try.underlying45 hiR hzR0 hzR1 hzR2 rfl (by decide) Ac ms.length cc (gl ms) (by rfl) hown4.out (some ⟨w4.heap.size, 0, none⟩) 1 1 (cR { m with A := Az, c := cz }) (by rfl) rfl hst4.out (cR_one _) (by unfold maxLen; omega) (by omega) (Nat.zero_le _) ?_; intro A' c' w6 hw hg hat; obtain ⟨z1, z2, hD⟩ := hend.out _ _ _ _ _ _ _ hB4w.out hG4w.out hw hg hat; replace hD := Lib.hid hD; clear hw hg hat)
      | fail)
    all_goals
      obtain ⟨W6, hW6⟩ : ∃ W6, w6.setCell ⟨q, 1, none⟩ (.slice A' (ms.length + 1) c') = W6 := ⟨_, rfl⟩
      rw [hW6] at hD ⊢
      obtain ⟨c6, hC6, h6⟩ := hD.out
      clear hD z1 z2 hW6 hown4 hst4 hal4 d0 d1 d2 d3 e1' hp4 hG4w hB4w b0 b1 b2 b3 hbx8 hwl hpl k0 k1 k2 k3 k4 k5 f1 hend hcopy hcl hfz hown hB2 hP2 hBd
      obtain ⟨k0, k1, k2, k3, k4, k5⟩ := h6.cells
      have hF6 := Lib.hid hC6.2.1
      have hpl := h6.row.lt
      have hwd := Lib.hid h6.wd
      have hend3 := Lib.hid (fun o w8 A2 c2 hw hg hat => dpt_done (o := o) (w7 := w8) (A' := A2) (c' := c2) h6 hc hF6.out hw hg hat)
      have hfin := Lib.hid (fun w8 col8 A2 c2 hC8 h8 => hend2.out W6 w8 c6 col8 Az cz A' c' A2 c2 hC6 hC8 h8)
      clear hC6 h6 hF6 hend2
      go_wp2_with (at_builtin; go_must (refine wpList_win rfl (.tmp 44) (.tmp 45) 46 rfl 0 4 iB _ 1 1 Try.underlying46 hiB hzB0 hzB1 hzB2 rfl (by decide) Ad xd.length cd (bo xd) (by rfl) (hwd.out.below (al0 _ _)) (some ⟨_, 0, none⟩) 1 1 [.bool false] (by rfl) rfl (stand_new _ _ _ _) (bo_one [false]) (by unfold maxLen; omega) (by omega) (Nat.zero_le _) ?_); intro A2 c2 w8 hw hg hat; obtain ⟨y1, y2, hD8⟩ := hend3.out _ _ _ _ hw hg hat; replace hD8 := Lib.hid hD8; clear hw hg hat)
      obtain ⟨c8, hC8, h8⟩ := hD8.out
      have hL := Lib.hid (hfin.out _ _ _ _ hC8 h8)
      clear hC8 h8 hD8 hfin hend3 hwd y1 y2 k0 k1 k2 k3 k4 k5
      go_wp2
      go_ret
      exact ⟨rfl, hL.out⟩
  · have hE : bxE S at0 = 7 := by unfold bxE; rw [if_neg (by omega), if_pos ht]
    have hS : bxS S at0 m.r = S := if_neg (by omega)
    have ht2 : ¬ at0 < (S.nxt : Int) := by omega
    rw [hE, hS]
    clear h hok hl hm hs hE hS hB hP hap hr hml a1 a2 hnx
    generalize (S.nxt : Int) = nx at *
    go_enter Try.func12, Try.ntmps12
    go_upto_region 1 with (fail)
    rw [hW.out]
    go_quiet (fail)
    have hfin := Lib.hid (hst.out _ (hall.out nq).1)
    clear hall hst k0 k1 k2 k3 k4 k5
    go_wp2
    go_ret
    exact ⟨rfl, hfin.out⟩
end
end Go.Proofs.Ytbfepdibblialaa.inU
