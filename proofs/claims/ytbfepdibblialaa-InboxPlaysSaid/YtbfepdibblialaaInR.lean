/- The document's New, Applied, Next, Peek, Put. -/
import Derived.Test.YtbfepdibblialaaInQ
import Derived.Deep.RegionLaw
import Derived.BigRegion
set_option linter.unusedVariables false
set_option linter.unusedSimpArgs false
set_option maxRecDepth 100000
namespace Go.Proofs.Ytbfepdibblialaa.inR
open Go.ChangeShapes Go.WideShapes Go.ChangeAt Go.RowKit Go.Deep
open opG opV opR chnM gen chnA chnR chnE ordA ordB ordC ordCr ordE2 inM inW inL inN inP inPt inG inD inA inK inQ

abbrev newD (w : World) (f : Int) : World := w.alloc (.cells #[.int .i64 f, .slice none 0 0, .int .i64 0, .slice none 0 0, .slice none 0 0, .int .u64 0] TD)
theorem dnew_any (at0 : Int) (w : World) : Calls Try.prog 9 #[.int .i64 at0] w fun e w' => e = .returned (.pointer (some ⟨w.heap.size, 0, none⟩)) ∧ w' = newD w ((B0 at0).first : Nat) := by
  by_cases h : at0 < 0
  · have e : ((B0 at0).first : Int) = 0 := by simp only [B0]; omega
    rw [e]
    go_enter Try.func9, Try.ntmps9
    go_wp2
    go_ret
    exact ⟨rfl, rfl⟩
  · have e : ((B0 at0).first : Int) = at0 := by simp only [B0]; omega
    rw [e]
    go_enter Try.func9, Try.ntmps9
    go_wp2
    go_ret
    exact ⟨rfl, rfl⟩
theorem dat_new {col : Nat → Nat} {c : Nat} (w : World) (at0 : Int) (hf : Fresh col w) : DocAt (fun k => if k = w.heap.size then c else col k) c (newD w ((B0 at0).first : Nat)) w.heap.size (B0 at0) ∧ Cn c col w (fun k => if k = w.heap.size then c else col k) (newD w ((B0 at0).first : Nat)) := by
  have hB : Below w.heap.size w (newD w ((B0 at0).first : Nat)) := al0 _ _
  have hr := World.rowIs_alloc w #[.int .i64 ((B0 at0).first : Nat), .slice none 0 0, .int .i64 0, .slice none 0 0, .slice none 0 0, .int .u64 0] TD (cD ((B0 at0).first : Nat) (.slice none 0 0) 0 (.slice none 0 0) (.slice none 0 0) 0) (fun i hi => by
    rcases inQ.six (i := i) (by simpa using hi) with rfl | rfl | rfl | rfl | rfl | rfl <;> simp [cD])
  refine ⟨⟨none, 0, [], none, 0, none, 0, ?_, rfl⟩, fun k hk => if_neg (by omega), fun k hk => ?_, Chg.of_below _ _ hB⟩
  · exact { row := hr, wc := Win.nil _ _ _ _, wd := Win.nil _ _ _ _, wh := Win.nil _ _ _ _, dv := fun m hm => (by cases hm), cq := if_pos rfl, kc := fun k e => (by cases e), kd := fun k e => (by cases e), kh := fun k e => (by cases e) }
  · have : (newD w ((B0 at0).first : Nat)).heap.size = w.heap.size + 1 := by simp [newD]
    rw [this] at hk
    show (if k = w.heap.size then c else col k) = 0
    rw [if_neg (by omega)]
    exact hf k (by omega)
section
variable {col : Nat → Nat} {c q : Nat} {S : Bx} {w : World} {f hd g : Int} {Ac Ad Ah : Option Addr} {cc cd ch : Nat} {xd : List Bool} {ms : List MR} {hs : List (Int × Int)}
theorem docM_done (h : DocM col c w q f Ac cc ms hd Ad cd xd Ah ch hs g) {j : Nat} {b : Bool} (hj : xd[j]? = some b) : ∃ bb oo, Ad = some ⟨bb, oo, none⟩ ∧ bb < w.heap.size ∧ w.cell? ⟨bb, oo + j, none⟩ = some (.bool b) ∧ w.frozen? ⟨bb, oo + j, none⟩ = false := by
  obtain ⟨bb, oo, rfl⟩ := h.wd.pos (by have := (List.getElem?_eq_some_iff.1 hj).1; omega)
  exact ⟨bb, oo, rfl, h.wd.lt rfl, h.wd.cell (bo_at hj), h.wd.fz _⟩
theorem docM_came (h : DocM col c w q f Ac cc ms hd Ad cd xd Ah ch hs g) {j : Nat} (hj : j < ms.length) : ∃ bb oo, Ac = some ⟨bb, oo, none⟩ ∧ bb < w.heap.size ∧ R4 bb (oo + j * 4) (nt ms j) w := by
  obtain ⟨bb, oo, rfl⟩ := h.wc.pos (by omega)
  refine ⟨bb, oo, rfl, h.wc.lt rfl, R4.of fun k u hu => ?_⟩
  have := h.wc.cell (gl_get (l := ms) (i := j) (j := k) (x := nt ms j) (u := u) (by rw [nt_at hj]; exact List.getElem?_eq_getElem hj) hu)
  rwa [← Nat.add_assoc] at this
theorem docM_heart (h : DocM col c w q f Ac cc ms hd Ad cd xd Ah ch hs g) {j : Nat} {x : Int × Int} (hj : hs[j]? = some x) : ∃ bb oo, Ah = some ⟨bb, oo, none⟩ ∧ bb < w.heap.size ∧ w.cell? ⟨bb, oo + j * 2, none⟩ = some (.int .u64 x.1) ∧ w.cell? ⟨bb, oo + j * 2 + 1, none⟩ = some (.int .i64 x.2) := by
  obtain ⟨bb, oo, rfl⟩ := h.wh.pos (by have := (List.getElem?_eq_some_iff.1 hj).1; omega)
  have h0 := h.wh.cell (hv_get (j := 0) hj rfl)
  have h1 := h.wh.cell (hv_get (j := 1) hj rfl)
  exact ⟨bb, oo, rfl, h.wh.lt rfl, h0, h1⟩
set_option maxHeartbeats 1000000 in
theorem dapplied_any (w : World) (h : DocM col c w q f Ac cc ms hd Ad cd xd Ah ch hs g) (h0 : 0 ≤ f) (h9 : f ≤ 1152921504606847976) (hl : xd.length ≤ 150) :
    Calls Try.prog 23 #[.pointer (some ⟨q, 0, none⟩)] w fun e w' => e = .returned (.int .i64 (f + lead xd)) ∧ w = w' := by
  obtain ⟨k0, k1, k2, k3, k4, k5⟩ := h.cells
  have hcell := Lib.hid (fun j b (hj : xd[j]? = some b) => docM_done h hj)
  obtain ⟨ld, hld⟩ : ∃ z, lead xd = z := ⟨_, rfl⟩
  have hll := lead_le xd
  have hin := Lib.hid (fun j (hj : j < lead xd) => lead_lt hj)
  have hout := Lib.hid (fun (h : lead xd < xd.length) => lead_at h)
  rw [hld] at hin hout hll ⊢
  clear h k1 k2 k4 k5 hld
  go_enter Try.func23, Try.ntmps23
  go_wp2
  go_loopw [3] (fun a wr => ∃ j : Nat, a = .int .i64 j ∧ j ≤ ld ∧ wr = w) (fun a _ => ld - (intOf a).toNat)
  case atStart => exact ⟨0, rfl, by omega, rfl⟩
  case round =>
    obtain ⟨j, rfl, hj, rfl⟩ := hrel
    by_cases hlt : j < ld
    · obtain ⟨bb, oo, rfl, -, q0, -⟩ := hcell.out j true (hin.out j hlt)
      have hjI : (j : Int) < (xd.length : Int) := by omega
      clear hcell
      go_wp2
      go_roundw
      case rel => exact ⟨j + 1, by go_num, by omega, by first | rfl | trivial⟩
      case measure => simp [intOf]; omega
    · obtain rfl : j = ld := by omega
      have ew : IntKind.i64.wrap (f + (j : Int)) = f + (j : Int) := wrap_in _ (by omega) (by omega)
      rcases Nat.lt_or_ge j xd.length with h1 | h1
      · obtain ⟨bb, oo, rfl, -, q0, -⟩ := hcell.out _ false (hout.out h1)
        have hjI : (j : Int) < (xd.length : Int) := by omega
        clear hcell hlt
        go_wp2
        go_ret
        exact ⟨rfl, rfl⟩
      · have hjI : ¬ (j : Int) < (xd.length : Int) := by omega
        clear hcell hlt
        go_wp2
        go_ret
        exact ⟨rfl, rfl⟩
theorem dapplied_at (w : World) (h : DocAt col c w q S) (hok : S.ok) (hl : S.lim) : Calls Try.prog 23 #[.pointer (some ⟨q, 0, none⟩)] w fun e w' => e = .returned (.int .i64 S.ap) ∧ w = w' := by
  obtain ⟨Ac, cc, ms, Ad, cd, Ah, ch, h, hr⟩ := h
  have := dapplied_any w h (by omega) (by have := hl.f; omega) (by have := hl.c; have := hok.len; omega)
  rwa [show (S.first : Int) + (lead S.done : Nat) = (S.ap : Nat) by unfold Bx.ap; omega] at this
theorem ms_at {ms : List MR} (hr : ms.map MR.r = S.came) {j : Nat} (h : j < ms.length) : (nt ms j).r = nt S.came j := by
  have hl : S.came.length = ms.length := by rw [← hr, List.length_map]
  rw [nt_at h, nt_at (by omega)]
  have h1 : (ms.map MR.r)[j]? = S.came[j]? := by rw [hr]
  rw [List.getElem?_map, List.getElem?_eq_getElem h, List.getElem?_eq_getElem (by omega)] at h1
  simpa using h1
theorem hv_mz (w : World) : HV w mz.A mz.c mz.vs := (GV.nil_ w 0).hv (by simp)
set_option maxHeartbeats 4000000 in
theorem dpeek_at (w : World) (h : DocAt col c w q S) (hok : S.ok) (hc : c ≠ 0) (hf : Fresh col w) : Calls Try.prog 21 #[.pointer (some ⟨q, 0, none⟩)] w fun e w' =>
    ∃ m : MR, e = .returned (.tuple #[rv m, .bool (isThere S)]) ∧ m.r = nt S.came S.handed ∧ HV w' m.A m.c m.vs ∧ Below w.heap.size w w' := by
  obtain ⟨Ac, cc, ms, Ad, cd, Ah, ch, h, hr⟩ := h
  have hl : S.came.length = ms.length := by rw [← hr, List.length_map]
  obtain ⟨W, hW⟩ : ∃ W, w.alloc (.cells #[.int .u64 0, .int .i64 0, .int .i64 0, .slice none 0 0] 30) = W := ⟨_, rfl⟩
  have hP : P4 w.heap.size mz W := by rw [← hW]; exact P4.new w mz
  have hB : Below w.heap.size w W := by rw [← hW]; exact al0 _ _
  have hsW : W.heap.size = w.heap.size + 1 := by rw [← hW]; simp
  have h1 := h.below hB
  obtain ⟨k0, k1, k2, k3, k4, k5⟩ := h1.cells
  by_cases ht : S.handed < S.came.length
  · have hml : S.handed < ms.length := by omega
    have hth : isThere S = true := decide_eq_true ht
    have hI : (S.handed : Int) < (ms.length : Int) := by omega
    have hI2 : ¬ (ms.length : Int) ≤ (S.handed : Int) := by omega
    rw [hth]
    obtain ⟨bi, oi, rfl, hbi, hq4⟩ := docM_came h1 hml
    have hmr := ms_at hr hml
    have hdv := h1.dv _ (nt_mem hml)
    have hfin := Lib.hid (fun nn => (show (nt ms S.handed).r = nt S.came S.handed ∧ HV ((put4 (W.drewN nn) w.heap.size (nt ms S.handed)).drew) (nt ms S.handed).A (nt ms S.handed).c (nt ms S.handed).vs ∧ Below w.heap.size w ((put4 (W.drewN nn) w.heap.size (nt ms S.handed)).drew) from by
      have hB9 := (put4_below (bdrN nn hB) (Nat.le_refl _) (nt ms S.handed)).drew
      exact ⟨hmr, (h.dv _ (nt_mem hml)).hv.below hB9, hB9⟩))
    have hbx := Lib.hid (fun nn => And.intro (P4.r4 (P4.below hP (bdrN nn (Below.refl _ _)))) (P4.fz (P4.below hP (bdrN nn (Below.refl _ _)))))
    have hcl := Lib.hid (fun nn => And.intro (h1.below (bdrN nn (Below.refl _ _))).cells (R4.below hq4 (bdrN nn (Below.refl _ _))))
    clear h h1 hr hl hmr hdv hP hB hsW ht hth hq4
    generalize nt ms S.handed = m at *
    generalize ms.length = nm at *
    generalize S.handed = hh at *
    replace hW := Lib.hid hW
    go_enter Try.func21, Try.ntmps21
    go_upto_region 1 with (fail)
    rw [hW.out]
    go_quiet (fail)
    obtain ⟨⟨b0, b1, b2, b3⟩, f0, f1, f2, f3⟩ := hbx.out nq
    obtain ⟨⟨e0, e1, e2, e3, e4, e5⟩, y0, y1, y2, y3⟩ := hcl.out nq
    have z1 := hfin.out nq
    generalize W.drewN nq = W2 at *
    replace z1 := Lib.hid z1
    clear hbx hcl hfin k0 k1 k2 k3 k4 k5
    go_upto_region 3 with (fail)
    go_region
    all_goals
      go_wp2
      exact bodyPost_ret (v := .tuple #[rv m, .bool true]) (by simp [results, Try.results21, go_sem, b0, b1, b2, b3]) rfl ⟨_, rfl, z1.out⟩
  · have hml : ms.length ≤ S.handed := by omega
    have hth : isThere S = false := decide_eq_false ht
    have hI2 : (ms.length : Int) ≤ (S.handed : Int) := by omega
    rw [hth, nt_ge ht]
    have hfin := Lib.hid (fun nn => (show (⟨0, 0, 0, [], none, 0⟩ : MR).r = default ∧ HV (put4 (W.drewN nn) w.heap.size mz) none 0 [] ∧ Below w.heap.size w (put4 (W.drewN nn) w.heap.size mz) from ⟨rfl, hv_mz _, put4_below (bdrN nn hB) (Nat.le_refl _) _⟩))
    have hbx := Lib.hid (fun nn => And.intro (P4.r4 (P4.below hP (bdrN nn (Below.refl _ _)))) (P4.fz (P4.below hP (bdrN nn (Below.refl _ _)))))
    clear h h1 hr hl hP hB hsW ht hth
    generalize ms.length = nm at *
    generalize S.handed = hh at *
    replace hW := Lib.hid hW
    go_enter Try.func21, Try.ntmps21
    go_upto_region 1 with (fail)
    rw [hW.out]
    go_quiet (fail)
    obtain ⟨⟨b0, b1, b2, b3⟩, f0, f1, f2, f3⟩ := hbx.out nq
    have z1 := hfin.out nq
    generalize W.drewN nq = W2 at *
    replace z1 := Lib.hid z1
    clear hbx hfin k0 k1 k2 k3 k4 k5
    go_wp2
    exact bodyPost_ret (v := .tuple #[rv ⟨0, 0, 0, [], none, 0⟩, .bool false]) (by simp [results, Try.results21, go_sem, b0, b1, b2, b3]) rfl ⟨_, rfl, z1.out⟩
set_option maxHeartbeats 8000000 in
theorem dnext_at (w : World) (h : DocAt col c w q S) (hok : S.ok) (hlm : S.lim) (hc : c ≠ 0) (hf : Fresh col w) : Calls Try.prog 14 #[.pointer (some ⟨q, 0, none⟩)] w fun e w' =>
    ∃ m : MR, e = .returned (.tuple #[.int .i64 (nxP S), rv m, .bool (isThere S)]) ∧ m.r = nt S.came S.handed ∧ HV w' m.A m.c m.vs ∧ DLv col c q (nextS S) w w' := by
  have hA := h
  obtain ⟨Ac, cc, ms, Ad, cd, Ah, ch, h, hr⟩ := h
  have hl : S.came.length = ms.length := by rw [← hr, List.length_map]
  obtain ⟨W, hW⟩ : ∃ W, w.alloc (.cells #[.int .u64 0, .int .i64 0, .int .i64 0, .slice none 0 0] 30) = W := ⟨_, rfl⟩
  have hP : P4 w.heap.size mz W := by rw [← hW]; exact P4.new w mz
  have hB : Below w.heap.size w W := by rw [← hW]; exact al0 _ _
  have hsW : W.heap.size = w.heap.size + 1 := by rw [← hW]; simp
  by_cases ht : S.handed < S.came.length
  · have hml : S.handed < ms.length := by omega
    have hth : isThere S = true := decide_eq_true ht
    have hnp : nxP S = ((S.first + S.handed : Nat) : Int) := if_pos ht
    have hI : (S.handed : Int) < (ms.length : Int) := by omega
    have hI2 : ¬ (ms.length : Int) ≤ (S.handed : Int) := by omega
    have hns : nextS S = { S with handed := S.handed + 1 } := if_pos ht
    have b1 := hlm.f
    have b2 := hlm.c
    have ew0 : IntKind.i64.wrap ((S.handed : Int) + 1) = (S.handed : Int) + 1 := wrap_in _ (by omega) (by omega)
    obtain ⟨X, hX⟩ : ∃ X : Int, (S.first : Int) + ((S.handed : Int) + 1) = X := ⟨_, rfl⟩
    have ew1 : IntKind.i64.wrap ((S.first : Int) + ((S.handed : Int) + 1)) = X := by rw [← hX]; exact wrap_in _ (by omega) (by omega)
    have ew2 : IntKind.i64.wrap (X - 1) = ((S.first + S.handed : Nat) : Int) := by rw [show X - 1 = ((S.first + S.handed : Nat) : Int) by omega]; exact wrap_in _ (by omega) (by omega)
    have ew3 : IntKind.i64.wrap ((S.handed : Int) + 1 - 1) = (S.handed : Int) := by rw [show (S.handed : Int) + 1 - 1 = (S.handed : Int) by omega]; exact wrap_in _ (by omega) (by omega)
    have ew4 : IntKind.i64.wrap (S.handed : Int) = (S.handed : Int) := wrap_in _ (by omega) (by omega)
    rw [hth, hnp]
    have hE := ext_colR (w := w) col (a := w.heap.size) (b := w.heap.size) (d := c + 1) (Nat.le_refl _) (Nat.le_refl _)
    have hF := fresh_colR (w := w) (w2 := W) (col := col) (a := w.heap.size) (b := w.heap.size) (d := c + 1) hf hB.size (by omega) (by omega)
    have hca : colR col w.heap.size w.heap.size (c + 1) w.heap.size = c + 1 := if_pos (.inl rfl)
    have h1 := h.other (Chg.of_below col (c + 1) hB) (by omega) (by omega) hE
    obtain ⟨k0, k1, k2, k3, k4, k5⟩ := h1.cells
    obtain ⟨bi, oi, rfl, hbi, hq4⟩ := docM_came h1 hml
    have hmr := ms_at hr hml
    have hstep := Lib.hid (fun nn => (show Chg (colR col w.heap.size w.heap.size (c + 1)) c W ((W.drewN nn).setCell ⟨q, 2, none⟩ (.int .i64 ((S.handed : Int) + 1))) ∧ DocM (colR col w.heap.size w.heap.size (c + 1)) c ((W.drewN nn).setCell ⟨q, 2, none⟩ (.int .i64 ((S.handed : Int) + 1))) q S.first (some ⟨bi, oi, none⟩) cc ms ((S.handed : Int) + 1) Ad cd S.done Ah ch S.hearts S.g from by
      have h2 := h1.below (bdrN nn (Below.refl W.heap.size W))
      obtain ⟨g3, h3⟩ := h2.setF hc ((S.handed : Int) + 1)
      exact ⟨(Chg.of_below _ c (bdrN nn (Below.refl W.heap.size W))).tran g3, h3⟩))
    have hfin := Lib.hid (fun W3 (hg : Chg (colR col w.heap.size w.heap.size (c + 1)) c W W3) (h3 : DocM (colR col w.heap.size w.heap.size (c + 1)) c W3 q S.first (some ⟨bi, oi, none⟩) cc ms ((S.handed : Int) + 1) Ad cd S.done Ah ch S.hearts S.g) => (show (nt ms S.handed).r = nt S.came S.handed ∧ HV ((put4 W3 w.heap.size (nt ms S.handed)).drew) (nt ms S.handed).A (nt ms S.handed).c (nt ms S.handed).vs ∧ DLv col c q (nextS S) w ((put4 W3 w.heap.size (nt ms S.handed)).drew) from by
      have h9 := (h3.other (chg_put4 hca (nt ms S.handed)) (by omega) (by omega) (Ext.refl _ _)).below (below_drew _)
      have hC : Cn c col w (colR col w.heap.size w.heap.size (c + 1)) (put4 W3 w.heap.size (nt ms S.handed)) := cn_put4 (cn_up hB hE ⟨Ext.refl _ _, hF.up hg.size, hg⟩) (Nat.le_refl _) _
      refine ⟨hmr, (h9.dv _ (nt_mem hml)).hv, _, hC.trans (Cn.below hC.2.1 (below_drew _)), ?_⟩
      rw [hns]
      refine ⟨some ⟨bi, oi, none⟩, cc, ms, Ad, cd, Ah, ch, ?_, hr⟩
      have : (({ S with handed := S.handed + 1 } : Bx).handed : Int) = (S.handed : Int) + 1 := by simp
      rw [this]
      exact h9))
    have hbx := Lib.hid (fun W3 (hg : Chg (colR col w.heap.size w.heap.size (c + 1)) c W W3) => (show P4 w.heap.size mz W3 from hP.of_block (hg.block _ (by omega) (by rw [hca]; omega))))
    have hcl := Lib.hid (fun nn => (h1.below (bdrN nn (Below.refl W.heap.size W))).cells)
    have hfz := Lib.hid (fun nn => (h1.below (bdrN nn (Below.refl W.heap.size W))).fz 2)
    have hcm := Lib.hid (fun W3 (h3 : DocM (colR col w.heap.size w.heap.size (c + 1)) c W3 q S.first (some ⟨bi, oi, none⟩) cc ms ((S.handed : Int) + 1) Ad cd S.done Ah ch S.hearts S.g) => (show R4 bi (oi + S.handed * 4) (nt ms S.handed) W3 from by
      obtain ⟨b', o', e, _, hx⟩ := docM_came h3 hml
      cases e
      exact hx))
    clear h hA h1 hr hl hmr hP hB hsW ht hth hq4 hnp hns hE hF hca hX b1 b2
    generalize nt ms S.handed = m at *
    generalize ((S.first + S.handed : Nat) : Int) = atN at *
    generalize colR col w.heap.size w.heap.size (c + 1) = cl at *
    generalize S.handed = hh at *
    replace hW := Lib.hid hW
    go_enter Try.func14, Try.ntmps14
    go_upto_region 1 with (fail)
    rw [hW.out]
    go_quiet (fail)
    obtain ⟨g3, h3⟩ := hstep.out nq
    obtain ⟨e0, e1, e2, e3, e4, e5⟩ := hcl.out nq
    have f2 := hfz.out nq
    replace g3 := Lib.hid g3
    replace h3 := Lib.hid h3
    clear hstep hcl hfz k0 k1 k2 k3 k4 k5
    go_upto_region 4 with (fail)
    obtain ⟨W3, hW3⟩ : ∃ W3, (W.drewN nq).setCell ⟨q, 2, none⟩ (.int .i64 ((hh : Int) + 1)) = W3 := ⟨_, rfl⟩
    rw [hW3] at g3 h3 ⊢
    clear e0 e1 e2 e3 e4 e5 f2 hW3
    obtain ⟨e0, e1, e2, e3, e4, e5⟩ := h3.out.cells
    obtain ⟨b0, b1, b2, b3⟩ := (hbx.out _ g3.out).r4
    obtain ⟨f0, f1, f2, f3⟩ := (hbx.out _ g3.out).fz
    obtain ⟨y0, y1, y2, y3⟩ := hcm.out _ h3.out
    have z1 := Lib.hid (hfin.out _ g3.out h3.out)
    have hI3 : (hh : Int) + 1 - 1 < (ms.length : Int) := by omega
    clear g3 h3 hbx hcm hfin e3 e4 e5 ew0
    go_region
    all_goals
      go_wp2
      exact bodyPost_ret (v := .tuple #[.int .i64 atN, rv m, .bool true]) (by simp [results, Try.results14, go_sem, b0, b1, b2, b3]) rfl ⟨_, rfl, z1.out⟩
  · have hml : ms.length ≤ S.handed := by omega
    have hth : isThere S = false := decide_eq_false ht
    have hnp : nxP S = 0 := if_neg ht
    have hns : nextS S = S := if_neg ht
    have hI2 : (ms.length : Int) ≤ (S.handed : Int) := by omega
    have h1 := h.below hB
    obtain ⟨k0, k1, k2, k3, k4, k5⟩ := h1.cells
    rw [hth, nt_ge ht, hnp, hns]
    have hfin := Lib.hid (fun nn => (show (⟨0, 0, 0, [], none, 0⟩ : MR).r = default ∧ HV (put4 (W.drewN nn) w.heap.size mz) none 0 [] ∧ DLv col c q S w (put4 (W.drewN nn) w.heap.size mz) from ⟨rfl, hv_mz _, dlv_stay hA hf (put4_below (bdrN nn hB) (Nat.le_refl _) _)⟩))
    have hbx := Lib.hid (fun nn => And.intro (P4.r4 (P4.below hP (bdrN nn (Below.refl _ _)))) (P4.fz (P4.below hP (bdrN nn (Below.refl _ _)))))
    clear h hA h1 hr hl hP hB hsW ht hth hnp hns hok hlm
    generalize ms.length = nm at *
    generalize S.handed = hh at *
    replace hW := Lib.hid hW
    go_enter Try.func14, Try.ntmps14
    go_upto_region 1 with (fail)
    rw [hW.out]
    go_quiet (fail)
    obtain ⟨⟨b0, b1, b2, b3⟩, f0, f1, f2, f3⟩ := hbx.out nq
    have z1 := hfin.out nq
    generalize W.drewN nq = W2 at *
    replace z1 := Lib.hid z1
    clear hbx hfin k0 k1 k2 k3 k4 k5
    go_wp2
    exact bodyPost_ret (v := .tuple #[.int .i64 0, rv ⟨0, 0, 0, [], none, 0⟩, .bool false]) (by simp [results, Try.results14, go_sem, b0, b1, b2, b3]) rfl ⟨_, rfl, z1.out⟩
end
end Go.Proofs.Ytbfepdibblialaa.inR
