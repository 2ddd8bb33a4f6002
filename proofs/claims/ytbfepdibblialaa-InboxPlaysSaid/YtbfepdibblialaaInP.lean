/- The program's Peek, Next, Put. -/
import Derived.Test.YtbfepdibblialaaInN
set_option linter.unusedVariables false
set_option linter.unusedSimpArgs false
set_option maxRecDepth 100000
namespace Go.Proofs.Ytbfepdibblialaa.inP
open Go.ChangeShapes Go.WideShapes Go.ChangeAt Go.RowKit Go.Deep
open opV chnM gen chnA chnR chnE ordA ordB ordC inM inW inL inN

/-- a commit that the call has made, or none -/
structure Own (base : Nat) (r : Rc) (m : MR) (w : World) : Prop where
  r : m.r = r
  gv : GV w base m.A m.c m.vs
  sz : m.vs.length * 64 ≤ 140737488355328
  sm : Sm m.vs
theorem Own.below {base : Nat} {r : Rc} {m : MR} {w w1 : World} (h : Own base r m w) (hB : Below w.heap.size w w1) : Own base r m w1 := ⟨h.r, h.gv.below hB, h.sz, h.sm⟩
theorem Own.more {base b2 : Nat} {r : Rc} {m : MR} {w : World} (h : Own base r m w) (hb : b2 ≤ base) : Own b2 r m w := ⟨h.r, h.gv.more hb, h.sz, h.sm⟩
theorem Own.none (base : Nat) (w : World) : Own base default ⟨0, 0, 0, [], none, 0⟩ w := ⟨rfl, GV.nil_ _ _, by simp, fun v hv => by cases hv⟩
theorem Own.of_copy {base b2 : Nat} {m : MR} {A : Option Addr} {c : Nat} {w w1 : World} (h : GV w1 b2 A c m.vs) (hb : base ≤ b2) (hd : HV w m.A m.c m.vs) (hs : Sm m.vs) : Own base m.r { m with A := A, c := c } w1 := ⟨rfl, h.more hb, hd.sm, hs⟩
theorem Own.put4 {base b : Nat} {r : Rc} {m v : MR} {w : World} (h : Own base r m w) (hb : b < base) : Own base r m (put4 w b v) :=
  ⟨h.r, h.gv.block fun k e => put4_other (by have := (World.ownsRow.lt h.gv k e).1; omega) _ _, h.sz, h.sm⟩
section
variable {col : Nat → Nat} {c p : Nat} {S : Bx}
theorem ms_len {ms : List MR} (hr : ms.map MR.r = S.came.drop S.handed) : ms.length = S.came.length - S.handed := by have := congrArg List.length hr; simpa using this
theorem ms_hd {ms : List MR} (hr : ms.map MR.r = S.came.drop S.handed) (h : 0 < ms.length) : (nt ms 0).r = nt S.came S.handed := by
  have hl := ms_len hr
  have h1 : (ms.map MR.r)[0]? = (S.came.drop S.handed)[0]? := by rw [hr]
  rw [List.getElem?_map, List.getElem?_drop, List.getElem?_eq_getElem h, List.getElem?_eq_getElem (by omega)] at h1
  rw [nt_at h, nt_at (by omega)]
  simpa using h1
theorem boxM_hd {w : World} {ap : Int} {Ao Ai : Option Addr} {co ci : Nat} {xo : List Bool} {ms : List MR} {mb n : Nat} {D : DM} {g : Int} (h : BoxM col c w p ap Ao co xo Ai ci ms mb n D g) (hl : 0 < ms.length) :
    ∃ bi oi, Ai = some ⟨bi, oi, none⟩ ∧ bi < w.heap.size ∧ R4 bi oi (nt ms 0) w := by
  obtain ⟨bi, oi, rfl⟩ := h.wi.pos hl
  refine ⟨bi, oi, rfl, h.wi.lt rfl, R4.of fun j u hu => h.wi.cell ?_⟩
  have := gl_get (l := ms) (i := 0) (j := j) (x := nt ms 0) (u := u) (by rw [nt_at hl]; exact List.getElem?_eq_getElem hl) hu
  simpa using this
theorem nt_ge {S : Bx} (h : ¬ S.handed < S.came.length) : nt S.came S.handed = default := by
  unfold nt
  rw [List.getD_eq_getElem?_getD, List.getElem?_eq_none (by omega)]
  rfl
set_option maxHeartbeats 1000000 in
theorem peek_at (w : World) (h : BoxAt col c w p S) (hok : S.ok) : Calls Try.prog 20 #[.pointer (some ⟨p, 0, none⟩)] w fun e w' =>
    ∃ m, e = .returned (.tuple #[rv m, .bool (isThere S)]) ∧ Own w.heap.size (nt S.came S.handed) m w' ∧ Below w.heap.size w w' := by
  obtain ⟨Ao, co, Ai, ci, ms, mb, n, D, h, hr, -⟩ := h
  have hl := ms_len hr
  obtain ⟨W, hW⟩ : ∃ W, w.alloc (.cells #[.int .u64 0, .int .i64 0, .int .i64 0, .slice none 0 0] 30) = W := ⟨_, rfl⟩
  have hP : P4 w.heap.size ⟨0, 0, 0, [], none, 0⟩ W := by rw [← hW]; exact P4.new w ⟨0, 0, 0, [], none, 0⟩
  have hB : Below w.heap.size w W := by rw [← hW]; exact al0 _ _
  have hsW : W.heap.size = w.heap.size + 1 := by rw [← hW]; simp
  have h1 := h.below hB
  obtain ⟨k0, k1, k2, k3, k4⟩ := h1.cells
  obtain ⟨b0, b1, b2, b3⟩ := hP.r4
  obtain ⟨f0, f1, f2, f3⟩ := hP.fz
  by_cases ht : S.handed < S.came.length
  · have hml : 0 < ms.length := by omega
    have hI : (0 : Int) < (ms.length : Int) := by omega
    have hth : isThere S = true := decide_eq_true ht
    have he : ((ms.length : Int) == 0) = false := by rw [beq_eq_false_iff_ne]; omega
    rw [hth]
    obtain ⟨bi, oi, rfl, hbi, q0, q1, q2, q3⟩ := boxM_hd h1 hml
    have hmr := ms_hd hr hml
    have hdv := h1.dv _ (nt_mem hml)
    have hfin := Lib.hid (fun Ac cc w' (hG : GV w' W.heap.size Ac cc (nt ms 0).vs) (hB2 : Below W.heap.size W w') => (show Own w.heap.size (nt S.came S.handed) { nt ms 0 with A := Ac, c := cc } (put4 w' w.heap.size { nt ms 0 with A := Ac, c := cc }) ∧ Below w.heap.size w (put4 w' w.heap.size { nt ms 0 with A := Ac, c := cc }) from by
      have h2 := (Own.of_copy (base := W.heap.size) hG (Nat.le_refl _) hdv.hv hdv.sm).put4 (v := { nt ms 0 with A := Ac, c := cc }) (b := w.heap.size) (by omega)
      rw [hmr] at h2
      exact ⟨⟨h2.r, h2.gv.more (by omega), h2.sz, h2.sm⟩, put4_below (trans0 hB hB2) (Nat.le_refl _) _⟩))
    have hcopy := Lib.hid (copy_any (nt ms 0) W hdv.hv hdv.sm)
    have hbx := Lib.hid (fun w' (hB2 : Below W.heap.size W w') => And.intro (P4.below hP hB2).r4 (P4.below hP hB2).fz)
    clear h h1 hr hl hmr hdv hP hB hsW ht hth
    generalize nt ms 0 = m at *
    generalize ms.length = nm at *
    replace hW := Lib.hid hW
    go_enter Try.func20, Try.ntmps20
    go_upto_region 1 with (fail)
    rw [hW.out]
    go_wp2_with (fail)
    with_reducible refine hcopy.out.mono ?_
    rintro e w4 ⟨Ac, cc, rfl, hG4, hB4⟩
    obtain ⟨⟨c0, c1, c2, c3⟩, g0, g1, g2, g3⟩ := hbx.out _ hB4
    obtain ⟨z1, z2⟩ := hfin.out _ _ _ hG4 hB4
    replace z1 := Lib.hid z1
    replace z2 := Lib.hid z2
    clear hG4 hB4 hfin
    go_wp2
    exact bodyPost_ret (v := .tuple #[rv { m with A := Ac, c := cc }, .bool true]) (by simp [results, Try.results20, go_sem, c0, c1, c2, c3]) rfl ⟨_, rfl, z1.out, z2.out⟩
  · have hml : ms.length = 0 := by omega
    have hth : isThere S = false := decide_eq_false ht
    rw [hth, nt_ge ht]
    rw [hml] at k2
    have hfin := Lib.hid (show Own w.heap.size default ⟨0, 0, 0, [], none, 0⟩ (put4 W w.heap.size ⟨0, 0, 0, [], none, 0⟩) ∧ Below w.heap.size w (put4 W w.heap.size ⟨0, 0, 0, [], none, 0⟩) from ⟨Own.none _ _, put4_below hB (Nat.le_refl _) _⟩)
    clear h h1 hr hl hP hB hsW ht hth hml
    replace hW := Lib.hid hW
    go_enter Try.func20, Try.ntmps20
    go_upto_region 1 with (fail)
    rw [hW.out]
    go_wp2
    exact bodyPost_ret (v := .tuple #[rv ⟨0, 0, 0, [], none, 0⟩, .bool false]) (by simp [results, Try.results20, go_sem, b0, b1, b2, b3]) rfl ⟨_, rfl, hfin.out⟩
theorem lv_then {w w' w2 : World} (h : Lv col c p S w w') (hB : Below w'.heap.size w' w2) : Lv col c p S w w2 := by
  obtain ⟨c2, hC, h⟩ := h
  exact ⟨c2, hC.trans (Cn.below hC.2.1 hB), h.below hB⟩
/-! ### Next -/
def nxP (S : Bx) : Int := if S.handed < S.came.length then ((S.first + S.handed : Nat) : Int) else 0
theorem take1 {l : List Bool} {h : Nat} (hl : l[h]? = some false) (k : Nat) (hk : k ≤ h) : (l.take (h + 1)).drop k = (l.take h).drop k ++ [false] := by
  have h1 := (List.getElem?_eq_some_iff.1 hl).1
  have h2 := (List.getElem?_eq_some_iff.1 hl).2
  rw [List.take_succ_eq_append_getElem h1, h2, List.drop_append_of_le_length (by simp; omega)]
section
variable {w w1 : World} {ap g : Int} {Ao Ai : Option Addr} {co ci mb n bi oi : Nat} {xo : List Bool} {ms : List MR} {D : DM}
abbrev mz : MR := ⟨0, 0, 0, [], none, 0⟩
theorem dv_mz (col : Nat → Nat) (w : World) : DV col w mz := ⟨(GV.nil_ w 0).hv (by simp), fun v hv => (by cases hv), .inl rfl⟩
/-- its first is struck -/
theorem nx1 (h : BoxM col c w p ap Ao co xo (some ⟨bi, oi, none⟩) ci ms mb n D g) (hc : c ≠ 0) (hm : 0 < ms.length) :
    (w.frozen? ⟨bi, oi, none⟩ = false ∧ w.frozen? ⟨bi, oi + 1, none⟩ = false ∧ w.frozen? ⟨bi, oi + 2, none⟩ = false ∧ w.frozen? ⟨bi, oi + 3, none⟩ = false) ∧ Chg col c w (put4o w bi oi mz) ∧ BoxM col c (put4o w bi oi mz) p ap Ao co xo (some ⟨bi, oi, none⟩) ci (ms.set 0 mz) mb n D g :=
  ⟨⟨h.wi.fz _, h.wi.fz _, h.wi.fz _, h.wi.fz _⟩, h.stI0 hc hm (dv_mz _ _)⟩
/-- .. and cut off -/
theorem nx2 (h : BoxM col c w p ap Ao co xo Ai ci ms mb n D g) (hc : c ≠ 0) (hm : 0 < ms.length) :
    Chg col c w (w.setCell ⟨p, 2, none⟩ (.slice (tlA Ai ci 4) (ms.length - 1) (ci - 1))) ∧ BoxM col c (w.setCell ⟨p, 2, none⟩ (.slice (tlA Ai ci 4) (ms.length - 1) (ci - 1))) p ap Ao co xo (tlA Ai ci 4) (ci - 1) (ms.drop 1) mb n D g := by
  have hl : (ms.drop 1).length = ms.length - 1 := by simp
  have ht := h.wi.tail hm
  rw [← gl_drop ms 1] at ht
  rw [← hl] at ht ⊢
  exact h.setI hc ht (fun k e => h.ki k (by rw [← tlA_block Ai ms.length ci 4 (ms.drop 1).length (ci - 1) h.wi.plain]; exact e)) (fun m hm => h.dv m (List.mem_of_mem_drop hm))
theorem set_drop1 (ms : List MR) : (ms.set 0 mz).drop 1 = ms.drop 1 := by cases ms <;> rfl
/-- one more was handed out -/
theorem nx3 {o : Obj} {w7 : World} {A' : Option Addr} {c' : Nat} (h : BoxM col c w p ap Ao co xo Ai ci ms mb n D g) (hc : c ≠ 0) (hf : Fresh col w) (hw : Win w7 0 4 1 A' (xo.length + 1) c' (bo xo ++ [.bool false])) (hg : (w.alloc o).grownBy w7 (Value.slice Ao xo.length co).ownBlock)
    (hat : (Value.slice A' (xo.length + 1) c').ownBlock = (Value.slice Ao xo.length co).ownBlock ∨ (Value.slice A' (xo.length + 1) c').ownBlock = some (w.alloc o).heap.size) :
    w7.cell? ⟨p, 1, none⟩ = some (.slice Ao xo.length co) ∧ w7.frozen? ⟨p, 1, none⟩ = false ∧ ∃ col', Cn c col w col' (w7.setCell ⟨p, 1, none⟩ (.slice A' (xo.length + 1) c')) ∧ BoxM col' c (w7.setCell ⟨p, 1, none⟩ (.slice A' (xo.length + 1) c')) p ap A' c' (xo ++ [false]) Ai ci ms mb n D g := by
  have hB := al0 w o
  have hl : (xo ++ [false]).length = xo.length + 1 := by simp
  have he : bo xo ++ [Value.bool false] = bo (xo ++ [false]) := by rw [bo_app]; rfl
  rw [he] at hw
  rw [← hl] at hw hat ⊢
  obtain ⟨z1, z2, col', hC, h'⟩ := (h.below hB).grO hc (hf.up hB.size) hg hw hat
  exact ⟨z1, z2, col', (Cn.below hf hB).trans hC, h'⟩
end
/-- two new blocks of a color of their own -/
def colR (col : Nat → Nat) (a b d k : Nat) : Nat := if k = a ∨ k = b then d else col k
theorem ext_colR {w : World} (col : Nat → Nat) {a b d : Nat} (ha : w.heap.size ≤ a) (hb : w.heap.size ≤ b) : Ext w col (colR col a b d) := fun k hk => if_neg (by omega)
theorem fresh_colR {w w2 : World} {col : Nat → Nat} {a b d : Nat} (hf : Fresh col w) (hs : w.heap.size ≤ w2.heap.size) (ha : a < w2.heap.size) (hb : b < w2.heap.size) : Fresh (colR col a b d) w2 := fun k hk => by
  unfold colR
  rw [if_neg (by omega)]
  exact hf k (by omega)
theorem cn_up {c : Nat} {col colR col' : Nat → Nat} {w W2 w8 : World} (hB : Below w.heap.size w W2) (hE : Ext w col colR) (hC : Cn c colR W2 col' w8) : Cn c col w col' w8 :=
  ⟨hE.trans hB.size hC.1, hC.2.1, (Chg.of_below col c hB).trans hE hC.2.2⟩
theorem cn_put4 {c : Nat} {col col' : Nat → Nat} {w w8 : World} (hC : Cn c col w col' w8) {b : Nat} (hb : w.heap.size ≤ b) (m : MR) : Cn c col w col' (put4 w8 b m) :=
  ⟨hC.1, fun k hk => hC.2.1 k (by simpa [put4] using hk), ⟨hC.2.2.os, hC.2.2.tape, hC.2.2.output, by simpa [put4] using hC.2.2.size, fun k hk hc => (put4_other (by omega) _ _).trans (hC.2.2.block k hk hc)⟩⟩
theorem chg_put4 {d : Nat} {col : Nat → Nat} {w : World} {b : Nat} (hb : col b = d) (m : MR) : Chg col d w (put4 w b m) :=
  ((((Chg.refl _ _ _).setCell (p := ⟨b, 0, none⟩) hb _).setCell (p := ⟨b, 1, none⟩) hb _).setCell (p := ⟨b, 2, none⟩) hb _).setCell (p := ⟨b, 3, none⟩) hb _
theorem infoBool : (Try.prog.info? 4).map (fun i => (i.zero, i.size, i.bytes)) = some (some (.bool false), 1, 1) := by kernel_rfl
theorem nextS_outs (hok : S.ok) (ht : S.handed < S.came.length) : (nextS S).outs = S.outs ++ [false] := by
  unfold nextS Bx.outs
  rw [if_pos ht]
  exact take1 (hok.nd _ (Nat.le_refl _) (by rw [hok.len]; exact ht)) _ hok.lh
theorem nextS_box {col' : Nat → Nat} {w w' : World} {Ao Ai : Option Addr} {co ci mb n : Nat} {ms : List MR} {D : DM} (hok : S.ok) (ht : S.handed < S.came.length) (hC : Cn c col w col' w') (h : BoxM col' c w' p S.ap Ao co (S.outs ++ [false]) Ai ci (ms.drop 1) mb n D S.g) (hr : ms.map MR.r = S.came.drop S.handed) (hn : n ≤ S.hearts.length) (hm : MapRel S.hearts S.ap S.g D) : Lv col c p (nextS S) w w' := by
  rw [← nextS_outs hok ht] at h
  have e1 : (nextS S).ap = S.ap := by unfold nextS; rw [if_pos ht]; rfl
  have e2 : (nextS S).hearts = S.hearts := by unfold nextS; rw [if_pos ht]
  have e3 : (nextS S).g = S.g := by unfold Bx.g; rw [e1, e2]
  refine ⟨col', hC, _, _, _, _, ms.drop 1, mb, n, D, by rw [e1, e3]; exact h, ?_, by rw [e2]; exact hn, by rw [e1, e2, e3]; exact hm⟩
  rw [List.map_drop, hr, List.drop_drop]
  unfold nextS
  rw [if_pos ht]
set_option maxHeartbeats 4000000 in
theorem next_at (w : World) (h : BoxAt col c w p S) (hok : S.ok) (hl : S.lim) (hc : c ≠ 0) (hf : Fresh col w) : Calls Try.prog 13 #[.pointer (some ⟨p, 0, none⟩)] w fun e w' =>
    ∃ m, e = .returned (.tuple #[.int .i64 (nxP S), rv m, .bool (isThere S)]) ∧ Own w.heap.size (nt S.came S.handed) m w' ∧ Lv col c p (nextS S) w w' := by
  have hA := h
  obtain ⟨Ao, co, Ai, ci, ms, mb, n, D, h, hr, hn, hmr⟩ := h
  have hml := ms_len hr
  obtain ⟨W, hW⟩ : ∃ W, w.alloc (.cells #[.int .u64 0, .int .i64 0, .int .i64 0, .slice none 0 0] 30) = W := ⟨_, rfl⟩
  have hP : P4 w.heap.size mz W := by rw [← hW]; exact P4.new w mz
  have hB : Below w.heap.size w W := by rw [← hW]; exact al0 _ _
  have hpk := Lib.hid (peek_at W (hA.below hB) hok)
  have hsW : W.heap.size = w.heap.size + 1 := by rw [← hW]; simp
  by_cases ht : S.handed < S.came.length
  · have hm0 : 0 < ms.length := by omega
    have hI : (0 : Int) < (ms.length : Int) := by omega
    have hth : isThere S = true := decide_eq_true ht
    have hnx : nxP S = ((S.first + S.handed : Nat) : Int) := if_pos ht
    rw [hth] at hpk ⊢
    rw [hnx]
    have h1 := hok.outs_len
    have h3 := hok.lh
    obtain ⟨a1, a2, a3⟩ := hl
    have e1 : ((S.ap : Nat) : Int) + (S.outs.length : Int) = ((S.first + S.handed : Nat) : Int) := by unfold Bx.ap; omega
    have ew : IntKind.i64.wrap (((S.ap : Nat) : Int) + (S.outs.length : Int)) = ((S.first + S.handed : Nat) : Int) := by rw [e1]; exact wrap_in _ (by omega) (by omega)
    have hno : S.outs.length ≤ 150 := by omega
    obtain ⟨iR, hiR, hzR0, hzR1, hzR2⟩ := info_parts infoR
    obtain ⟨iB, hiB, hzB0, hzB1, hzB2⟩ := info_parts infoBool
    have hcap := h.wi.cap_le
    have hrt := fun W' => run_tail (P := Try.prog) (w := W') (e := 30) (size := 4) Try.underlying45 hiR hzR1 Ai ms.length ci hm0 hcap.1
    obtain ⟨bi, oi, rfl⟩ := h.wi.pos hm0
    have hbox := Lib.hid (fun w' col' (hB : Below w.heap.size w w') (hE : Ext w col col') => h.other (Chg.of_below col (c + 1) hB) (by omega) (by omega) hE)
    have hend := Lib.hid (fun col' w' Ao' co' (hC : Cn c col w col' w') hx => nextS_box (p := p) (mb := mb) (Ao := Ao') (co := co') (Ai := tlA (some ⟨bi, oi, none⟩) ci 4) (ci := ci - 1) hok ht hC hx hr hn hmr)
    clear h hA hok hr hn hmr hml hth hnx h1 h3 a1 a2 a3 e1 hcap
    generalize hapE : ((S.ap : Nat) : Int) = ap at *
    generalize S.outs = xo at *
    generalize ((S.first + S.handed : Nat) : Int) = atN at *
    generalize S.g = g at *
    replace hW := Lib.hid hW
    go_enter Try.func13, Try.ntmps13
    go_upto_region 1 with (fail)
    rw [hW.out]
    go_wp2_with (fail)
    with_reducible refine hpk.out.mono ?_
    rintro e w1 ⟨m, rfl, hO, hB1⟩
    go_upto_region 4 with (fail)
    obtain ⟨W2, hW2⟩ : ∃ W2, w1.alloc (.cells #[.int .u64 m.ts, .int .i64 m.dc, .int .i64 m.tx, .slice m.A m.vs.length m.c] 30) = W2 := ⟨_, rfl⟩
    rw [hW2]
    have hs1 := hB1.size
    have hs2 : W2.heap.size = w1.heap.size + 1 := by rw [← hW2]; simp
    have hB12 : Below w1.heap.size w1 W2 := by rw [← hW2]; exact al0 _ _
    have hB2 : Below w.heap.size w W2 := trans0 (trans0 hB hB1) hB12
    have hP2 : P4 w.heap.size mz W2 := P4.below (P4.below hP hB1) hB12
    have hR2 : P4 w1.heap.size m W2 := by rw [← hW2]; exact P4.new w1 m
    have hO2 := hO.below hB12
    have hE := ext_colR (w := w) col (a := w.heap.size) (b := w1.heap.size) (d := c + 1) (Nat.le_refl _) (by omega)
    have hF2 := fresh_colR (w := w) (w2 := W2) (col := col) (a := w.heap.size) (b := w1.heap.size) (d := c + 1) hf (by omega) (by omega) (by omega)
    have hca : colR col w.heap.size w1.heap.size (c + 1) w.heap.size = c + 1 := if_pos (.inl rfl)
    have hcb : colR col w.heap.size w1.heap.size (c + 1) w1.heap.size = c + 1 := if_pos (.inr rfl)
    have hcn : ∀ k, w.heap.size ≤ k → colR col w.heap.size w1.heap.size (c + 1) k ≠ c := fun k hk => by
      unfold colR
      split
      · omega
      · rw [hf k hk]; exact fun e => hc e.symm
    have h2 := hbox.out W2 _ hB2 hE
    generalize colR col w.heap.size w1.heap.size (c + 1) = cl at *
    generalize w1.heap.size = rb at *
    obtain ⟨k0, k1, k2, k3, k4⟩ := h2.cells
    have hall := Lib.hid (fun nn => (show Below w.heap.size w (W2.drewN nn) ∧ P4 w.heap.size mz (W2.drewN nn) ∧ P4 rb m (W2.drewN nn) ∧ Own W.heap.size (nt S.came S.handed) m (W2.drewN nn) ∧ Fresh cl (W2.drewN nn) ∧ BoxM cl c (W2.drewN nn) p ap Ao co xo (some ⟨bi, oi, none⟩) ci ms mb n D g from ⟨bdrN nn hB2, P4.below hP2 (bdrN nn (Below.refl _ _)), P4.below hR2 (bdrN nn (Below.refl _ _)), hO2.below (bdrN nn (Below.refl _ _)), hF2, h2.below (bdrN nn (Below.refl _ _))⟩))
    replace hE := Lib.hid hE
    clear hB1 hO hW2 hs1 hs2 hB12 hB2 hP2 hR2 hO2 hF2 h2 hbox hpk hB hP
    go_quiet (fail)
    obtain ⟨hB3, hP3, hR3, hO3, hF3, h3⟩ := hall.out nq
    clear hall k0 k1 k2 k3 k4
    generalize W2.drewN nq = W3 at *
    obtain ⟨k0, k1, k2, k3, k4⟩ := h3.cells
    obtain ⟨_, _, heq, hlt, q0, q1, q2, q3⟩ := boxM_hd h3 hm0
    cases heq
    obtain ⟨⟨f0, f1, f2, f3⟩, hg4, h4⟩ := nx1 h3 hc hm0
    replace hg4 := Lib.hid hg4
    replace h4 := Lib.hid h4
    replace hP3 := Lib.hid hP3
    replace hR3 := Lib.hid hR3
    replace hB3 := Lib.hid hB3
    clear h3
    go_upto_region 6 with (fail)
    obtain ⟨W4, hW4⟩ : ∃ W4, ((((W3.setCell ⟨bi, oi, none⟩ (.int .u64 0)).setCell ⟨bi, oi + 1, none⟩ (.int .i64 0)).setCell ⟨bi, oi + 2, none⟩ (.int .i64 0)).setCell ⟨bi, oi + 3, none⟩ (.slice none 0 0)) = W4 := ⟨_, rfl⟩
    rw [hW4]
    replace hg4 := Lib.hid (show Chg cl c W3 W4 from by rw [← hW4]; exact hg4.out)
    replace h4 := Lib.hid (show BoxM cl c W4 p ap Ao co xo (some ⟨bi, oi, none⟩) ci (ms.set 0 mz) mb n D g from by rw [← hW4]; exact h4.out)
    clear hW4 k0 k1 k2 k3 k4 q0 q1 q2 q3 f0 f1 f2 f3 hlt
    obtain ⟨k0, k1, k2, k3, k4⟩ := h4.out.cells
    have f2 := h4.out.fz 2
    obtain ⟨hg5, h5⟩ := nx2 h4.out hc (by simpa using hm0)
    rw [List.length_set] at k2 hg5 h5
    rw [set_drop1] at h5
    replace hg5 := Lib.hid hg5
    replace h5 := Lib.hid h5
    go_upto_region 7 with (fail)
    obtain ⟨W5, hW5⟩ : ∃ W5, W4.setCell ⟨p, 2, none⟩ (.slice (tlA (some ⟨bi, oi, none⟩) ci 4) (ms.length - 1) (ci - 1)) = W5 := ⟨_, rfl⟩
    rw [hW5] at hg5 h5 ⊢
    clear hW5 k0 k1 k2 k3 k4 f2 hrt
    obtain ⟨k0, k1, k2, k3, k4⟩ := h5.out.cells
    have hF5 : Hid (Fresh cl W5) := Lib.hid (hF3.up (by have := hg4.out.size; have := hg5.out.size; omega))
    have hpl := h5.out.row.lt
    have hend3 := Lib.hid (fun o w7 A' c' hw hg hat => nx3 (o := o) (w7 := w7) (A' := A') (c' := c') h5.out hc hF5.out hw hg hat)
    go_wp2_with (at_builtin; go_must (refine wpList_win rfl (.tmp 44) (.tmp 45) 46 rfl 0 4 iB _ 1 1 Try.underlying46 hiB hzB0 hzB1 hzB2 rfl (by decide) Ao xo.length co (bo xo) (by rfl) (h5.out.wo.below (al0 _ _)) (some ⟨_, 0, none⟩) 1 1 [.bool false] (by rfl) rfl (stand_new _ _ _ _) (bo_one [false]) (by unfold maxLen; omega) (by omega) (Nat.zero_le _) ?_); intro A' c' w7 hw hg hat; obtain ⟨z1, z2, hD⟩ := hend3.out _ _ _ _ hw hg hat; replace hD := Lib.hid hD; clear hw hg hat)
    obtain ⟨W8, hW8⟩ : ∃ W8, w7.setCell ⟨p, 1, none⟩ (.slice A' (xo.length + 1) c') = W8 := ⟨_, rfl⟩
    rw [hW8] at hD ⊢
    obtain ⟨c8, hC8, h8⟩ := hD.out
    have hg38 : Chg cl c W3 W8 := (hg4.out.tran hg5.out).tran hC8.2.2
    have hs35 : W3.heap.size ≤ W5.heap.size := (hg4.out.tran hg5.out).size
    have hC38 : Cn c cl W3 c8 W8 := ⟨fun k hk => hC8.1 k (by omega), hC8.2.1, hg38⟩
    have hwl : w.heap.size < W3.heap.size := P4.r4 hP3.out |>.lt
    have hrl : rb < W3.heap.size := P4.r4 hR3.out |>.lt
    have hP8 : P4 w.heap.size mz W8 := hP3.out.of_block (hg38.block _ hwl (by rw [hca]; omega))
    have hR8 : P4 rb m W8 := hR3.out.of_block (hg38.block _ hrl (by rw [hcb]; omega))
    have hO8 : Own W.heap.size (nt S.came S.handed) m W8 := ⟨hO3.r, hO3.gv.block fun k e => hg38.block k (World.ownsRow.lt hO3.gv k e).2 (hcn k (by have := (World.ownsRow.lt hO3.gv k e).1; omega)), hO3.sz, hO3.sm⟩
    have hc8 : c8 w.heap.size = c + 1 := (hC38.1 _ hwl).trans hca
    have h9 := h8.other (chg_put4 hc8 m) (by omega) (by omega) (Ext.refl _ _)
    have hL := Lib.hid (hend.out c8 _ A' c' (cn_put4 (cn_up hB3.out hE.out hC38) (Nat.le_refl _) m) h9)
    have hO9 := Lib.hid (hO8.put4 (b := w.heap.size) (v := m) (by omega))
    obtain ⟨b0, b1, b2, b3⟩ := hP8.r4
    obtain ⟨g0, g1, g2, g3⟩ := hP8.fz
    obtain ⟨d0, d1, d2, d3⟩ := hR8.r4
    clear hD hend hend3 h5 hg5 h4 hg4 h8 h9 hP8 hR8 hO8 hO3 hP3 hR3 hF5 hF3 hC8 hC38 hg38 z1 z2 k0 k1 k2 k3 k4 hW8 hE hB3
    go_region
    all_goals
      go_wp2
      exact bodyPost_ret (v := .tuple #[.int .i64 atN, rv m, .bool true]) (by simp [results, Try.results13, go_sem, b0, b1, b2, b3]) rfl ⟨_, rfl, (hO9.out.more (by omega)).below (below_drew _), lv_then hL.out (below_drew _)⟩
  · have hth : isThere S = false := decide_eq_false ht
    have hnx : nxP S = 0 := if_neg ht
    have hns : nextS S = S := if_neg ht
    rw [hth, nt_ge ht] at hpk ⊢
    rw [hnx, hns]
    have hst := Lib.hid (fun w' (hB : Below w.heap.size w w') => lv_stay hA hf hB)
    clear h hA hok hr hn hmr hml hth hnx hns hl
    replace hW := Lib.hid hW
    go_enter Try.func13, Try.ntmps13
    go_upto_region 1 with (fail)
    rw [hW.out]
    go_wp2_with (fail)
    with_reducible refine hpk.out.mono ?_
    rintro e w1 ⟨m, rfl, hO, hB1⟩
    obtain ⟨b0, b1, b2, b3⟩ := (P4.below hP hB1).r4
    obtain ⟨f0, f1, f2, f3⟩ := (P4.below hP hB1).fz
    have hlt : w.heap.size < w1.heap.size := World.block_lt_of_cell? _ _ b0
    have hfin := Lib.hid (fun o => hst.out _ ((put4_below (trans0 hB hB1) (Nat.le_refl _) mz).alloc (by simp [put4]; omega) o))
    have hno := Lib.hid (fun w' => Own.none w.heap.size w')
    clear hB hP hO hB1 hst hpk
    go_wp2
    exact bodyPost_ret (v := .tuple #[.int .i64 0, rv mz, .bool false]) (by simp [results, Try.results13, go_sem, b0, b1, b2, b3, hlt]) rfl ⟨_, rfl, hno.out _, hfin.out _⟩
end
end Go.Proofs.Ytbfepdibblialaa.inP
