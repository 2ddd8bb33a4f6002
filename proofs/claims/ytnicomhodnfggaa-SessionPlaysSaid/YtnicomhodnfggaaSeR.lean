/- The document's session in memory; its Low, Look, Close, Write. -/
import Derived.Test.YtnicomhodnfggaaSeQ
import Derived.Test.YtnicomhodnfggaaSeC
set_option linter.unusedVariables false
set_option linter.unusedSimpArgs false
set_option maxRecDepth 100000
namespace Go.Proofs.Ytnicomhodnfggaa.seR
open Go.ChangeShapes Go.WideShapes Go.ChangeAt Go.RowKit Go.Deep
open opV chnM gen chnA chnR chnE seM seI ordC seL seN seB seK seV seW seG seC seQ
attribute [local go_sem high] bin_slt bin_sle bin_sge bin_sgt bin_seq bin_sne

abbrev TD : TypeId := 29
structure DocM (col : Nat → Nat) (c : Nat) (w : World) (q : Nat) (sn la : Int) (op : Bool) (Aw : Option Addr) (cw : Nat) (ws : List Ver) (Ac : Option Addr) (cc : Nat) (ca : List Ver) : Prop where
  row : w.rowIs q TD 5 (cS sn la op (.slice Aw ws.length cw) (.slice Ac ca.length cc))
  wd : DV col w Aw cw ws
  cd : DV col w Ac cc ca
  cp : col q = c
def DocAt (col : Nat → Nat) (c : Nat) (w : World) (q : Nat) (S : Ss) : Prop := ∃ Aw cw Ac cc, DocM col c w q S.snap S.last S.op Aw cw S.ws Ac cc S.ca
def DLv (col : Nat → Nat) (c : Nat) (q : Nat) (S : Ss) (w w' : World) : Prop := ∃ col', Cn c col w col' w' ∧ DocAt col' c w' q S
section
variable {col col' : Nat → Nat} {c d : Nat} {w w1 : World} {q : Nat} {S : Ss} {sn la : Int} {op : Bool} {Aw Ac A' : Option Addr} {cw cc c' : Nat} {ws ca l : List Ver}
theorem DocM.other (h : DocM col c w q sn la op Aw cw ws Ac cc ca) (hg : Chg col d w w1) (hd : d ≠ 0) (hcd : c ≠ d) (he : Ext w col col') : DocM col' c w1 q sn la op Aw cw ws Ac cc ca :=
  ⟨h.row.of_block (hg.block q h.row.lt (by rw [h.cp]; exact hcd)), h.wd.go hg hd he, h.cd.go hg hd he, (he q h.row.lt).trans h.cp⟩
theorem DocM.below (h : DocM col c w q sn la op Aw cw ws Ac cc ca) (hB : Below w.heap.size w w1) : DocM col c w1 q sn la op Aw cw ws Ac cc ca := h.other (Chg.of_below col (c + 1) hB) (by omega) (by omega) (Ext.refl _ _)
theorem DocM.cells (h : DocM col c w q sn la op Aw cw ws Ac cc ca) : w.cell? ⟨q, 0, none⟩ = some (.int .u64 sn) ∧ w.cell? ⟨q, 1, none⟩ = some (.int .u64 la) ∧ w.cell? ⟨q, 2, none⟩ = some (.bool op) ∧ w.cell? ⟨q, 3, none⟩ = some (.slice Aw ws.length cw) ∧ w.cell? ⟨q, 4, none⟩ = some (.slice Ac ca.length cc) :=
  ⟨h.row.cell (i := 0) (by omega), h.row.cell (i := 1) (by omega), h.row.cell (i := 2) (by omega), h.row.cell (i := 3) (by omega), h.row.cell (i := 4) (by omega)⟩
theorem DocM.fz (h : DocM col c w q sn la op Aw cw ws Ac cc ca) (i : Nat) : w.frozen? ⟨q, i, none⟩ = false := h.row.frozen i
theorem DocM.set_ (h : DocM col c w q sn la op Aw cw ws Ac cc ca) (hc : c ≠ 0) (i : Nat) (v : Value) : Chg col c w (w.setCell ⟨q, i, none⟩ v) ∧ ∀ A c0 l, DV col w A c0 l → DV col (w.setCell ⟨q, i, none⟩ v) A c0 l := by
  have hg : Chg col c w (w.setCell ⟨q, i, none⟩ v) := (Chg.refl _ _ _).setCell h.cp _
  exact ⟨hg, fun A c0 l hd => hd.go hg hc (Ext.refl _ _)⟩
theorem DocM.setSn (h : DocM col c w q sn la op Aw cw ws Ac cc ca) (hc : c ≠ 0) (a : Int) : Chg col c w (w.setCell ⟨q, 0, none⟩ (.int .u64 a)) ∧ DocM col c (w.setCell ⟨q, 0, none⟩ (.int .u64 a)) q a la op Aw cw ws Ac cc ca := by
  obtain ⟨hg, h1⟩ := h.set_ hc 0 (.int .u64 a)
  exact ⟨hg, (h.row.set 0 _).congr fun i hi => (by rcases five hi with rfl | rfl | rfl | rfl | rfl <;> rfl), h1 _ _ _ h.wd, h1 _ _ _ h.cd, h.cp⟩
theorem DocM.setLa (h : DocM col c w q sn la op Aw cw ws Ac cc ca) (hc : c ≠ 0) (a : Int) : Chg col c w (w.setCell ⟨q, 1, none⟩ (.int .u64 a)) ∧ DocM col c (w.setCell ⟨q, 1, none⟩ (.int .u64 a)) q sn a op Aw cw ws Ac cc ca := by
  obtain ⟨hg, h1⟩ := h.set_ hc 1 (.int .u64 a)
  exact ⟨hg, (h.row.set 1 _).congr fun i hi => (by rcases five hi with rfl | rfl | rfl | rfl | rfl <;> rfl), h1 _ _ _ h.wd, h1 _ _ _ h.cd, h.cp⟩
theorem DocM.setOp (h : DocM col c w q sn la op Aw cw ws Ac cc ca) (hc : c ≠ 0) (a : Bool) : Chg col c w (w.setCell ⟨q, 2, none⟩ (.bool a)) ∧ DocM col c (w.setCell ⟨q, 2, none⟩ (.bool a)) q sn la a Aw cw ws Ac cc ca := by
  obtain ⟨hg, h1⟩ := h.set_ hc 2 (.bool a)
  exact ⟨hg, (h.row.set 2 _).congr fun i hi => (by rcases five hi with rfl | rfl | rfl | rfl | rfl <;> rfl), h1 _ _ _ h.wd, h1 _ _ _ h.cd, h.cp⟩
theorem DocM.setW (h : DocM col c w q sn la op Aw cw ws Ac cc ca) (hc : c ≠ 0) (hd : DV col w A' c' l) : Chg col c w (w.setCell ⟨q, 3, none⟩ (.slice A' l.length c')) ∧ DocM col c (w.setCell ⟨q, 3, none⟩ (.slice A' l.length c')) q sn la op A' c' l Ac cc ca := by
  obtain ⟨hg, h1⟩ := h.set_ hc 3 (.slice A' l.length c')
  exact ⟨hg, (h.row.set 3 _).congr fun i hi => (by rcases five hi with rfl | rfl | rfl | rfl | rfl <;> rfl), h1 _ _ _ hd, h1 _ _ _ h.cd, h.cp⟩
theorem DocM.setC (h : DocM col c w q sn la op Aw cw ws Ac cc ca) (hc : c ≠ 0) (hd : DV col w A' c' l) : Chg col c w (w.setCell ⟨q, 4, none⟩ (.slice A' l.length c')) ∧ DocM col c (w.setCell ⟨q, 4, none⟩ (.slice A' l.length c')) q sn la op Aw cw ws A' c' l := by
  obtain ⟨hg, h1⟩ := h.set_ hc 4 (.slice A' l.length c')
  exact ⟨hg, (h.row.set 4 _).congr fun i hi => (by rcases five hi with rfl | rfl | rfl | rfl | rfl <;> rfl), h1 _ _ _ h.wd, h1 _ _ _ hd, h.cp⟩
theorem DocAt.other (h : DocAt col c w q S) (hg : Chg col d w w1) (hd : d ≠ 0) (hcd : c ≠ d) (he : Ext w col col') : DocAt col' c w1 q S := by
  obtain ⟨Aw, cw, Ac, cc, h⟩ := h
  exact ⟨_, _, _, _, h.other hg hd hcd he⟩
theorem DocAt.below (h : DocAt col c w q S) (hB : Below w.heap.size w w1) : DocAt col c w1 q S := by
  obtain ⟨Aw, cw, Ac, cc, h⟩ := h
  exact ⟨_, _, _, _, h.below hB⟩
theorem dlv_stay (h : DocAt col c w q S) (hf : Fresh col w) (hB : Below w.heap.size w w1) : DLv col c q S w w1 := ⟨col, Cn.below hf hB, h.below hB⟩
theorem dlow_at (w : World) (h : DocAt col c w q S) : Calls Try.prog 22 #[.pointer (some ⟨q, 0, none⟩)] w fun e w' => e = .returned (.int .u64 (low S)) ∧ ∃ m, w' = w.drewN m := by
  obtain ⟨Aw, cw, Ac, cc, h⟩ := h
  obtain ⟨k0, k1, k2, k3, k4⟩ := h.cells
  obtain ⟨lo, hlo⟩ : ∃ x, low S = x := ⟨_, rfl⟩
  rw [hlo]
  unfold low at hlo
  clear h
  by_cases hc : S.snap < S.last
  · have e : lo = S.last := by omega
    subst e
    clear hlo
    go_enter Try.func22, Try.ntmps22
    go_upto_region 1 with (fail)
    go_quiet (fail)
    go_wp2
    go_ret
    exact ⟨rfl, nq, rfl⟩
  · have e : lo = S.snap := by omega
    subst e
    clear hlo
    go_enter Try.func22, Try.ntmps22
    go_upto_region 1 with (fail)
    go_quiet (fail)
    go_wp2
    go_ret
    exact ⟨rfl, nq, rfl⟩
theorem dlow_quiet (w : World) (h : DocAt col c w q S) (n : Nat) : Calls Try.prog 22 #[.pointer (some ⟨q, 0, none⟩)] (w.drewN n) fun e w' => e = .returned (.int .u64 (low S)) ∧ ∃ m, w' = w.drewN m :=
  (dlow_at (w.drewN n) (h.below (bdrN n (Below.refl _ _)))).mono fun e w' ⟨h1, m, h2⟩ => ⟨h1, n + m, by rw [h2, World.drewN_drewN]⟩
theorem ddend (h : DocM col c w q sn la op Aw cw ws Ac cc ca) (hc : c ≠ 0) : Chg col c w ((w.setCell ⟨q, 2, none⟩ (.bool false)).setCell ⟨q, 3, none⟩ (.slice none 0 0)) ∧ DocM col c ((w.setCell ⟨q, 2, none⟩ (.bool false)).setCell ⟨q, 3, none⟩ (.slice none 0 0)) q sn la false none 0 [] Ac cc ca := by
  obtain ⟨g1, h1⟩ := h.setOp hc false
  obtain ⟨g2, h2⟩ := h1.setW hc (DV.nil_ _ _)
  exact ⟨g1.tran g2, h2⟩
theorem dclose_at (w : World) (h : DocAt col c w q S) (hc : c ≠ 0) (hf : Fresh col w) (hok : S.ok) : Calls Try.prog 16 #[.pointer (some ⟨q, 0, none⟩)] w fun e w' =>
    e = .returned (.int .i64 (clE S)) ∧ DLv col c q (clS S) w w' := by
  cases hop : S.op with
  | false =>
    have hE : clE S = 17 := by unfold clE; rw [hop]; rfl
    have hS : clS S = S := by unfold clS; have := hok.cl hop; cases S; simp only at hop this; rw [hop, this]
    rw [hE, hS]
    have hfin := Lib.hid (dlv_stay h hf (Below.refl _ _))
    obtain ⟨Aw, cw, Ac, cc, h⟩ := h
    obtain ⟨k0, k1, k2, k3, k4⟩ := h.cells
    rw [hop] at k2
    clear h
    go_enter Try.func16, Try.ntmps16
    go_wp2
    go_ret
    exact ⟨rfl, hfin.out⟩
  | true =>
    have hE : clE S = 0 := by unfold clE; rw [hop]; rfl
    rw [hE]
    obtain ⟨Aw, cw, Ac, cc, h⟩ := h
    obtain ⟨k0, k1, k2, k3, k4⟩ := h.cells
    have f2 := h.fz 2
    have f3 := h.fz 3
    rw [hop] at k2
    have hfin : Hid (DLv col c q (clS S) w ((w.setCell ⟨q, 2, none⟩ (.bool false)).setCell ⟨q, 3, none⟩ (.slice none 0 0))) := Lib.hid (by
      obtain ⟨g1, h1⟩ := ddend h hc
      exact ⟨col, ⟨Ext.refl _ _, hf.up g1.size, g1⟩, none, 0, Ac, cc, h1⟩)
    clear h
    go_enter Try.func16, Try.ntmps16
    go_wp2
    go_ret
    exact ⟨rfl, hfin.out⟩
set_option maxHeartbeats 1000000 in
theorem dlook_at (w : World) (h : DocAt col c w q S) (k : ByteArray) : Calls Try.prog 18 #[.pointer (some ⟨q, 0, none⟩), .string k] w fun e w' =>
    e = .returned (.tuple #[vv (lkV S k), .int .i64 (lkN S k)]) ∧ Below w.heap.size w w' := by
  obtain ⟨W, hW⟩ : ∃ W, w.alloc (.cells #[.string { data := #[] }, .string { data := #[] }, .bool false, .int .u64 0, .int .i64 0, .int .i64 0] 41) = W := ⟨_, rfl⟩
  have hP : R6 w.heap.size v0 W := by rw [← hW]; exact R6.new w v0
  have hB : Below w.heap.size w W := by rw [← hW]; exact al0 _ _
  replace hW := Lib.hid hW
  have hend := Lib.hid (fun w' v (hB : Below w.heap.size w w') => put6_below hB (Nat.le_refl _) v)
  obtain ⟨Aw, cw, Ac, cc, h⟩ := h
  have hcl := Lib.hid (fun w' (hB : Below w.heap.size w w') => (h.below hB).cells)
  obtain ⟨k0, k1, k2, k3, k4⟩ := (h.below hB).cells
  cases hop : S.op with
  | false =>
    have e1 : lkV S k = v0 := by unfold lkV; rw [if_pos hop]; rfl
    have e2 : lkN S k = 0 := by unfold lkN; rw [if_pos hop]
    rw [e1, e2]
    rw [hop] at k2
    have hfin := Lib.hid (hend.out W v0 hB)
    obtain ⟨f0, f1, f2, f3, f4, f5⟩ := hP.fz
    obtain ⟨b0, b1, b2, b3, b4, b5⟩ := hP.v6
    have hlt := hP.lt
    clear h hend e1 e2 hcl hB
    go_enter Try.func18, Try.ntmps18
    go_upto_region 1 with (fail)
    rw [hW.out]
    go_wp2
    exact bodyPost_ret (v := .tuple #[vv v0, .int .i64 0]) (by simp [results, Try.results18, go_sem, b0, b1, b2, b3, b4, b5, hlt]) rfl ⟨rfl, hfin.out⟩
  | true =>
    rw [hop] at k2
    have hh1 := Lib.hid (fun w' (hB : Below w.heap.size w w') => has_any Aw cw S.ws k w' ((h.below hB).wd.hv))
    have hh2 := Lib.hid (fun w' (hB : Below w.heap.size w w') => has_any Ac cc S.ca k w' ((h.below hB).cd.hv))
    obtain ⟨u, hu⟩ : ∃ u, (fnd S.ws k).getD default = u := ⟨_, rfl⟩
    obtain ⟨v, hv⟩ : ∃ v, (fnd S.ca k).getD default = v := ⟨_, rfl⟩
    have hn : ¬ S.op = false := by rw [hop]; simp
    have hR := Lib.hid (fun (w1 : World) (x : Ver) (h1 : Below w.heap.size w w1) (h2 : R6 w.heap.size v0 w1) => (⟨trans0 h1 (al0 w1 _), R6.below h2 (al0 w1 _), R6.new w1 x⟩ : Below w.heap.size w (w1.alloc (.cells #[.string x.key, .string x.val, .bool x.gone, .int .u64 x.ts, .int .i64 x.dc, .int .i64 x.tx] 41)) ∧ R6 w.heap.size v0 (w1.alloc (.cells #[.string x.key, .string x.val, .bool x.gone, .int .u64 x.ts, .int .i64 x.dc, .int .i64 x.tx] 41)) ∧ R6 w1.heap.size x (w1.alloc (.cells #[.string x.key, .string x.val, .bool x.gone, .int .u64 x.ts, .int .i64 x.dc, .int .i64 x.tx] 41))))
    cases hi : is S.ws k with
    | true =>
      have hsome : ∃ x, fnd S.ws k = some x := by unfold is at hi; exact Option.isSome_iff_exists.1 hi
      obtain ⟨x, hx⟩ := hsome
      have e1 : lkV S k = u := by unfold lkV; rw [if_neg hn, hx]; rw [hx] at hu; exact hu
      have e2 : lkN S k = 1 := by unfold lkN; rw [if_neg hn, hi]; rfl
      rw [e1, e2]
      rw [hu, hi] at hh1
      have hPP := Lib.hid hP
      clear h hP hx hu hv hh2 hn hi e1 e2
      go_enter Try.func18, Try.ntmps18
      go_upto_region 1 with (fail)
      rw [hW.out]
      go_wp2_with (fail)
      with_reducible refine (hh1.out _ hB).mono ?_
      rintro e w2 ⟨rfl, hB2⟩
      obtain ⟨hB4, hP4, hQ4⟩ := hR.out w2 u (trans0 hB hB2) (R6.below hPP.out hB2)
      obtain ⟨W4, hW4⟩ : ∃ W4, w2.alloc (.cells #[.string u.key, .string u.val, .bool u.gone, .int .u64 u.ts, .int .i64 u.dc, .int .i64 u.tx] 41) = W4 := ⟨_, rfl⟩
      rw [hW4] at hB4 hP4 hQ4
      replace hW4 := Lib.hid hW4
      have hfin := Lib.hid (hend.out W4 u hB4)
      clear hB hB2 hB4 hcl hend hh1 hR k0 k1 k2 k3 k4
      go_upto_region 4 with (fail)
      rw [hW4.out]
      obtain ⟨f0, f1, f2, f3, f4, f5⟩ := hP4.fz
      obtain ⟨b0, b1, b2, b3, b4, b5⟩ := hP4.v6
      obtain ⟨d0, d1, d2, d3, d4, d5⟩ := hQ4.v6
      have hlt := hP4.lt
      generalize w2.heap.size = m2 at *
      go_wp2
      exact bodyPost_ret (v := .tuple #[vv u, .int .i64 1]) (by simp [results, Try.results18, go_sem, b0, b1, b2, b3, b4, b5, hlt]) rfl ⟨rfl, hfin.out⟩
    | false =>
      have hfn : fnd S.ws k = none := by
        cases hf : fnd S.ws k with
        | none => rfl
        | some v => unfold is at hi; rw [hf] at hi; cases hi
      have e1 : lkV S k = v := by unfold lkV; rw [if_neg hn, hfn]; exact hv
      have e2 : lkN S k = if is S.ca k then 2 else 0 := by unfold lkN; rw [if_neg hn, hi]; rfl
      have e3 : is S.ca k = false → v = v0 := by
        intro h9
        unfold is at h9
        cases hf : fnd S.ca k with
        | none => rw [hf] at hv; rw [← hv]; rfl
        | some u => rw [hf] at h9; cases h9
      rw [e1, e2]
      rw [hu, hi] at hh1
      rw [hv] at hh2
      have hPP := Lib.hid hP
      clear h hP hfn hu hv hn hi e1 e2
      cases hc : is S.ca k with
      | true =>
        rw [hc] at hh2
        clear e3
        rw [if_pos rfl]
        go_enter Try.func18, Try.ntmps18
        go_upto_region 1 with (fail)
        rw [hW.out]
        go_wp2_with (fail)
        with_reducible refine (hh1.out _ hB).mono ?_
        rintro e w2 ⟨rfl, hB2⟩
        obtain ⟨hB4, hP4, hQ4⟩ := hR.out w2 u (trans0 hB hB2) (R6.below hPP.out hB2)
        obtain ⟨W4, hW4⟩ : ∃ W4, w2.alloc (.cells #[.string u.key, .string u.val, .bool u.gone, .int .u64 u.ts, .int .i64 u.dc, .int .i64 u.tx] 41) = W4 := ⟨_, rfl⟩
        rw [hW4] at hB4 hP4 hQ4
        replace hW4 := Lib.hid hW4
        clear hB hB2 hh1 k0 k1 k2 k3 k4
        obtain ⟨k0, k1, k2, k3, k4⟩ := hcl.out _ hB4
        go_upto_region 4 with (fail)
        rw [hW4.out]
        clear hQ4
        generalize w2.heap.size = m2 at *
        go_wp2_with (fail)
        with_reducible refine (hh2.out _ hB4).mono ?_
        rintro e w5 ⟨rfl, hB5⟩
        obtain ⟨hB6, hP6, hQ6⟩ := hR.out w5 v (trans0 hB4 hB5) (R6.below hP4 hB5)
        obtain ⟨W6, hW6⟩ : ∃ W6, w5.alloc (.cells #[.string v.key, .string v.val, .bool v.gone, .int .u64 v.ts, .int .i64 v.dc, .int .i64 v.tx] 41) = W6 := ⟨_, rfl⟩
        rw [hW6] at hB6 hP6 hQ6
        replace hW6 := Lib.hid hW6
        have hfin := Lib.hid (hend.out W6 v hB6)
        clear hB4 hB5 hB6 hcl hend hh2 hR k0 k1 k2 k3 k4 hP4
        go_upto_region 7 with (fail)
        rw [hW6.out]
        obtain ⟨f0, f1, f2, f3, f4, f5⟩ := hP6.fz
        obtain ⟨b0, b1, b2, b3, b4, b5⟩ := hP6.v6
        obtain ⟨d0, d1, d2, d3, d4, d5⟩ := hQ6.v6
        have hlt := hP6.lt
        generalize w5.heap.size = m5 at *
        go_wp2
        exact bodyPost_ret (v := .tuple #[vv v, .int .i64 2]) (by simp [results, Try.results18, go_sem, b0, b1, b2, b3, b4, b5, hlt]) rfl ⟨rfl, hfin.out⟩
      | false =>
        rw [hc] at hh2
        have e4 := e3 hc
        subst e4
        clear e3
        rw [if_neg (by simp)]
        go_enter Try.func18, Try.ntmps18
        go_upto_region 1 with (fail)
        rw [hW.out]
        go_wp2_with (fail)
        with_reducible refine (hh1.out _ hB).mono ?_
        rintro e w2 ⟨rfl, hB2⟩
        obtain ⟨hB4, hP4, hQ4⟩ := hR.out w2 u (trans0 hB hB2) (R6.below hPP.out hB2)
        obtain ⟨W4, hW4⟩ : ∃ W4, w2.alloc (.cells #[.string u.key, .string u.val, .bool u.gone, .int .u64 u.ts, .int .i64 u.dc, .int .i64 u.tx] 41) = W4 := ⟨_, rfl⟩
        rw [hW4] at hB4 hP4 hQ4
        replace hW4 := Lib.hid hW4
        clear hB hB2 hh1 k0 k1 k2 k3 k4
        obtain ⟨k0, k1, k2, k3, k4⟩ := hcl.out _ hB4
        go_upto_region 4 with (fail)
        rw [hW4.out]
        clear hQ4
        generalize w2.heap.size = m2 at *
        go_wp2_with (fail)
        with_reducible refine (hh2.out _ hB4).mono ?_
        rintro e w5 ⟨rfl, hB5⟩
        obtain ⟨hB6, hP6, hQ6⟩ := hR.out w5 v0 (trans0 hB4 hB5) (R6.below hP4 hB5)
        obtain ⟨W6, hW6⟩ : ∃ W6, w5.alloc (.cells #[.string { data := #[] }, .string { data := #[] }, .bool false, .int .u64 0, .int .i64 0, .int .i64 0] 41) = W6 := ⟨_, rfl⟩
        simp only [v0] at hB6 hP6
        rw [hW6] at hB6 hP6
        replace hW6 := Lib.hid hW6
        have hfin := Lib.hid (hend.out W6 v0 hB6)
        clear hB4 hB5 hB6 hcl hend hh2 hR k0 k1 k2 k3 k4 hP4 hQ6
        go_upto_region 7 with (fail)
        rw [hW6.out]
        obtain ⟨f0, f1, f2, f3, f4, f5⟩ := hP6.fz
        obtain ⟨b0, b1, b2, b3, b4, b5⟩ := hP6.v6
        have hlt := hP6.lt
        generalize w5.heap.size = m5 at *
        go_wp2
        exact bodyPost_ret (v := .tuple #[vv v0, .int .i64 0]) (by simp [results, Try.results18, go_sem, b0, b1, b2, b3, b4, b5, hlt]) rfl ⟨rfl, hfin.out⟩
end
end Go.Proofs.Ytnicomhodnfggaa.seR
