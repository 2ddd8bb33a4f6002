/- The program's Vote and End. -/
import Derived.Test.YtafocefbpkcoaaaCoV
set_option linter.unusedVariables false
set_option linter.unusedSimpArgs false
set_option maxRecDepth 100000
namespace Go.Proofs.Ytafocefbpkcoaaa.coE
open Go.ChangeShapes Go.WideShapes Go.ChangeAt Go.RowKit Go.Deep
open opG opV chnM gen chnA chnR chnE ordA ordC coG coO coM coP coL coN coB coK coV

section
variable {col : Nat → Nat} {c t mb : Nat} {D : DM} {l a b : List Tx} {x x' : Tx} {os : Ens} {w w1 w2 : World}
theorem lv_then (h : Lv col c t os w w1) (hB : Below w1.heap.size w1 w2) : Lv col c t os w w2 := by
  obtain ⟨col', hC, hT⟩ := h
  exact ⟨col', hC.trans (Cn.below hC.2.1 hB), hT.below hB⟩
theorem lv_ahead (hf : Fresh col w) (hB : Below w.heap.size w w1) (h : Lv col c t os w1 w2) : Lv col c t os w w2 := by
  obtain ⟨col', hC, hT⟩ := h
  exact ⟨col', (Cn.below hf hB).trans hC, hT⟩
theorem e_at (hd : DifE ((a ++ x :: b).map Tx.e)) (e : x'.tx = x.tx) : upd ((a ++ x :: b).map Tx.e) x.tx x'.e = (a ++ x' :: b).map Tx.e := by
  rw [List.map_append, List.map_cons] at hd ⊢
  have h := upd_at hd x'.e
  rw [List.map_append, List.map_cons]
  exact h
theorem rm_at (hd : DifE ((a ++ x :: b).map Tx.e)) : rmE ((a ++ x :: b).map Tx.e) x.tx = (a ++ b).map Tx.e := by
  rw [List.map_append, List.map_cons] at hd ⊢
  have h := rmE_at hd
  rw [List.map_append]
  exact h
theorem fn_at (hd : DifE ((a ++ x :: b).map Tx.e)) : fnE ((a ++ x :: b).map Tx.e) x.tx = some x.e := by
  rw [List.map_append, List.map_cons] at hd ⊢
  exact fnE_mid (dif_at hd).1
theorem ns_sh (x : Tx) : x.ns = x.rs.map (·.node) := rfl
theorem len_e (x : Tx) : x.e.sh.length = x.rs.length := by unfold Tx.e; simp
theorem in_at {n : Int} (h : inS x.e.sh n = true) : ∃ (k : Nat) (r : SR), x.rs[k]? = some r ∧ r.node = n := by
  have hin := inS_iff.1 h
  rw [Tx.nds_e] at hin
  obtain ⟨k, hk, hkn⟩ := List.getElem_of_mem hin
  have hkl : k < x.rs.length := by simpa [Tx.ns] using hk
  exact ⟨k, x.rs[k], List.getElem?_eq_getElem hkl, by simpa [Tx.ns] using hkn⟩
theorem row3 {v0 : Nat} (h : TxM col c w x) (v : Value) : ((w.setCell ⟨x.g, v0, none⟩ v).rowIs x.p TX 6 (cX x.low (.slice (some ⟨x.g, 0, none⟩) x.rs.length x.gc) (.map (some x.mb)) x.vt.length (ends x.vt) (top x.vt))) :=
  h.row.of_block (Below.heap_setCell _ _ _ _ h.ne.1)
theorem cX_cells {w : World} {p : Nat} {low v e g : Int} {s m : Value} (h : w.rowIs p TX 6 (cX low s m v e g)) : w.cell? ⟨p, 0, none⟩ = some (.int .u64 low) ∧ w.cell? ⟨p, 1, none⟩ = some s ∧ w.cell? ⟨p, 3, none⟩ = some (.int .i64 v) ∧ w.cell? ⟨p, 4, none⟩ = some (.int .i64 e) ∧ w.cell? ⟨p, 5, none⟩ = some (.int .u64 g) ∧ ∀ o, w.frozen? ⟨p, o, none⟩ = false :=
  ⟨h.cell (i := 0) (by omega), h.cell (i := 1) (by omega), h.cell (i := 3) (by omega), h.cell (i := 4) (by omega), h.cell (i := 5) (by omega), fun o => h.frozen o⟩
theorem cX_3 {w : World} {p : Nat} {low v e g : Int} {s m : Value} (h : w.rowIs p TX 6 (cX low s m v e g)) (v' : Int) : (w.setCell ⟨p, 3, none⟩ (.int .i64 v')).rowIs p TX 6 (cX low s m v' e g) := (h.set 3 _).congr fun i hi => by rcases six6 hi with rfl | rfl | rfl | rfl | rfl | rfl <;> rfl
theorem cX_4 {w : World} {p : Nat} {low v e g : Int} {s m : Value} (h : w.rowIs p TX 6 (cX low s m v e g)) (e' : Int) : (w.setCell ⟨p, 4, none⟩ (.int .i64 e')).rowIs p TX 6 (cX low s m v e' g) := (h.set 4 _).congr fun i hi => by rcases six6 hi with rfl | rfl | rfl | rfl | rfl | rfl <;> rfl
theorem cX_5 {w : World} {p : Nat} {low v e g : Int} {s m : Value} (h : w.rowIs p TX 6 (cX low s m v e g)) (g' : Int) : (w.setCell ⟨p, 5, none⟩ (.int .u64 g')).rowIs p TX 6 (cX low s m v e g') := (h.set 5 _).congr fun i hi => by rcases six6 hi with rfl | rfl | rfl | rfl | rfl | rfl <;> rfl
theorem vote_mem (h : TabM col c w t mb D (a ++ x :: b)) (hc : c ≠ 0) (hf : Fresh col w) (hx : okX x.e) {k : Nat} {r : SR} (hr : x.rs[k]? = some r) (hv : hasV x.vt r.node = false) (tt : Int) (x' : Tx) (ex : x' = { x with vt := x.vt ++ [⟨r.node, tt, false⟩] }) :
    Cn c col w col (((w.setCell ⟨x.g, k * 4 + 2, none⟩ (.bool true)).setCell ⟨x.p, 3, none⟩ (.int .i64 ((x.vt.length : Int) + 1))).setCell ⟨x.p, 5, none⟩ (.int .u64 (max (top x.vt) tt))) ∧ TabM col c (((w.setCell ⟨x.g, k * 4 + 2, none⟩ (.bool true)).setCell ⟨x.p, 3, none⟩ (.int .i64 ((x.vt.length : Int) + 1))).setCell ⟨x.p, 5, none⟩ (.int .u64 (max (top x.vt) tt))) t mb D (a ++ x' :: b) := by
  have hm := h.xs x (by simp)
  have hg : Chg col c w (((w.setCell ⟨x.g, k * 4 + 2, none⟩ (.bool true)).setCell ⟨x.p, 3, none⟩ (.int .i64 ((x.vt.length : Int) + 1))).setCell ⟨x.p, 5, none⟩ (.int .u64 (max (top x.vt) tt))) :=
    (((Chg.refl _ _ _).setCell (p := ⟨x.g, k * 4 + 2, none⟩) hm.cg _).setCell (p := ⟨x.p, 3, none⟩) hm.cp _).setCell (p := ⟨x.p, 5, none⟩) hm.cp _
  have hs : w.heap.size = (((w.setCell ⟨x.g, k * 4 + 2, none⟩ (.bool true)).setCell ⟨x.p, 3, none⟩ (.int .i64 ((x.vt.length : Int) + 1))).setCell ⟨x.p, 5, none⟩ (.int .u64 (max (top x.vt) tt))).heap.size := by simp
  have hnd := hx.nd
  rw [Tx.nds_e] at hnd
  have hk : ∀ k', k' ≠ x.p → k' ≠ x.g → (((w.setCell ⟨x.g, k * 4 + 2, none⟩ (.bool true)).setCell ⟨x.p, 3, none⟩ (.int .i64 ((x.vt.length : Int) + 1))).setCell ⟨x.p, 5, none⟩ (.int .u64 (max (top x.vt) tt))).heap[k']? = w.heap[k']? := fun k' n1 n2 => by
    rw [Below.heap_setCell _ _ _ _ n1, Below.heap_setCell _ _ _ _ n1, Below.heap_setCell _ _ _ _ n2]
  refine ⟨⟨Ext.refl _ _, hf.up hg.size, hg⟩, h.put hc hs hg hk ?_ (by rw [ex]) (by rw [ex]) (by rw [ex]) (by rw [ex])⟩
  subst ex
  refine { row := ?_, sd := ?_, mp := map_block hm.mp (hk x.mb hm.ne.2.1.symm hm.ne.2.2.symm), cr := hm.cr, dv := fun r hr => (hm.dv r hr).go hg hc (Ext.refl _ _), cp := hm.cp, cg := hm.cg, cm := hm.cm }
  · have h1 := cX_5 (cX_3 (row3 (v0 := k * 4 + 2) hm (.bool true)) ((x.vt.length : Int) + 1)) (max (top x.vt) tt)
    refine h1.congr fun i hi => ?_
    have e1 : ((x.vt ++ [(⟨r.node, tt, false⟩ : Vt)]).length : Int) = (x.vt.length : Int) + 1 := by simp
    simp only [ends_app _ (rfl : (⟨r.node, tt, false⟩ : Vt).en = false), top_app, e1]
  · show Own sdS _ 0 (some ⟨x.g, 0, none⟩) x.gc (sdl (x.vt ++ [⟨r.node, tt, false⟩]) x.rs)
    rw [sdl_vote hnd hr hv tt]
    have hx0 : (sdl x.vt x.rs)[k]? = some ⟨r, hasV x.vt r.node, endV x.vt r.node⟩ := by unfold sdl; rw [List.getElem?_map, hr]; rfl
    have h1 := hm.sd.set (j := 2) (y := ⟨r, true, endV x.vt r.node⟩) (u := .bool true) hx0 rfl (by decide)
    exact h1.block fun k' e => by
      cases e
      rw [Below.heap_setCell _ _ _ _ hm.ne.1.symm, Below.heap_setCell _ _ _ _ hm.ne.1.symm]
set_option maxHeartbeats 2000000 in
theorem vote_at (w : World) (h : TabAt col c w t os) (hc : c ≠ 0) (hf : Fresh col w) (hok : ok os) {tx n tt : Int} (x0 : 0 ≤ tx) (x1 : tx < 18446744073709551616) (n0 : -9223372036854775808 ≤ n) (n1 : n ≤ 9223372036854775807) (t0 : 0 ≤ tt) (t1 : tt < 18446744073709551616) :
    Calls Try.prog 13 #[.pointer (some ⟨t, 0, none⟩), .int .u64 tx, .int .i64 n, .int .u64 tt] w fun e w' => e = .returned (.tuple #[.int .u64 (voT os tx n tt), .bool (voB os tx n tt), .int .i64 (voE os tx n tt)]) ∧ Lv col c t (voS os tx n tt) w w' := by
  have hst := Lib.hid (fun w' hB => lv_stay (w1 := w') h hf hB)
  obtain ⟨mb, D, l, hT, rfl⟩ := h
  cases hfe : fnE (l.map Tx.e) tx with
  | none =>
    have e1 : voE (l.map Tx.e) tx n tt = 7 := by unfold voE; rw [hfe]
    have e2 : voB (l.map Tx.e) tx n tt = false := by unfold voB; rw [hfe]
    have e3 : voT (l.map Tx.e) tx n tt = 0 := by unfold voT; rw [hfe]
    have e4 : voS (l.map Tx.e) tx n tt = l.map Tx.e := by unfold voS; rw [hfe]
    rw [e1, e2, e3, e4]
    have hfi := Lib.hid (find_none w hT n x0 x1 hfe)
    clear hT hok hfe e1 e2 e3 e4 hf
    go_enter Try.func13, Try.ntmps13
    go_wp2_with (fail)
    with_reducible refine hfi.out.mono ?_
    rintro e w' ⟨rfl, hB⟩
    have hL := Lib.hid (hst.out _ hB)
    clear hfi hst hB
    go_wp2
    refine bodyPost_ret (v := .tuple #[.int .u64 0, .bool false, .int .i64 7]) ?_ rfl ⟨rfl, hL.out⟩
    simp [results, Try.results13, go_sem]
  | some x0' =>
    obtain ⟨a, x, b, rfl, rfl, rfl⟩ := fnE_split hfe
    have hx := (ok_mem hok hfe).1
    have hd := hok.df
    cases hi : inS x.e.sh n with
    | false =>
      have e1 : voE ((a ++ x :: b).map Tx.e) x.tx n tt = 18 := by unfold voE; rw [hfe]; exact if_pos hi
      have e2 : voB ((a ++ x :: b).map Tx.e) x.tx n tt = false := by unfold voB; rw [hfe, e1]; rfl
      have e3 : voT ((a ++ x :: b).map Tx.e) x.tx n tt = 0 := by unfold voT; rw [hfe, e2]; rfl
      have e4 : voS ((a ++ x :: b).map Tx.e) x.tx n tt = (a ++ x :: b).map Tx.e := by unfold voS; rw [hfe, e1]; rfl
      rw [e1, e2, e3, e4]
      have hfi := Lib.hid (find_away w hT hd n0 n1 x0 x1 hi)
      clear hT hok hfe e1 e2 e3 e4 hf hx hd hi
      go_enter Try.func13, Try.ntmps13
      go_wp2_with (fail)
      with_reducible refine hfi.out.mono ?_
      rintro e w' ⟨rfl, hB⟩
      have hL := Lib.hid (hst.out _ hB)
      clear hfi hst hB
      go_wp2
      refine bodyPost_ret (v := .tuple #[.int .u64 0, .bool false, .int .i64 18]) ?_ rfl ⟨rfl, hL.out⟩
      simp [results, Try.results13, go_sem]
    | true =>
      obtain ⟨k, r, hr, rfl⟩ := in_at hi
      have hfi := Lib.hid (find_in w hT hd hx hr n0 n1 x0 x1)
      have hne := (hT.xs x (by simp)).ne.1
      cases hv : hasV x.vt r.node with
      | true =>
        have e1 : voE ((a ++ x :: b).map Tx.e) x.tx r.node tt = 8 := by unfold voE; rw [hfe]; simp only; rw [if_neg (by rw [hi]; simp), if_pos (show hasV x.e.vt r.node = true from hv)]
        have e2 : voB ((a ++ x :: b).map Tx.e) x.tx r.node tt = false := by unfold voB; rw [hfe, e1]; rfl
        have e3 : voT ((a ++ x :: b).map Tx.e) x.tx r.node tt = 0 := by unfold voT; rw [hfe, e2]; rfl
        have e4 : voS ((a ++ x :: b).map Tx.e) x.tx r.node tt = (a ++ x :: b).map Tx.e := by unfold voS; rw [hfe, e1]; rfl
        rw [e1, e2, e3, e4]
        have hsd := Lib.hid (fun w' (hB : Below w.heap.size w w') => (((hT.below hB).xs x (by simp)).side hr).2.2.1)
        rw [hv] at hsd
        clear hT hok hfe e1 e2 e3 e4 hf hx hd hi hr hv
        go_enter Try.func13, Try.ntmps13
        go_wp2_with (fail)
        with_reducible refine hfi.out.mono ?_
        rintro e w' ⟨rfl, hB⟩
        have k2 := hsd.out _ hB
        have hL := Lib.hid (hst.out _ hB)
        clear hfi hst hB hsd
        go_wp2
        refine bodyPost_ret (v := .tuple #[.int .u64 0, .bool false, .int .i64 8]) ?_ rfl ⟨rfl, hL.out⟩
        simp [results, Try.results13, go_sem]
      | false =>
        by_cases hlo : tt ≤ x.low
        · have e1 : voE ((a ++ x :: b).map Tx.e) x.tx r.node tt = 11 := by unfold voE; rw [hfe]; simp only; rw [if_neg (by rw [hi]; simp), if_neg (show ¬ hasV x.e.vt r.node = true by show ¬ hasV x.vt r.node = true; rw [hv]; simp), if_pos (show tt ≤ x.e.low from hlo)]
          have e2 : voB ((a ++ x :: b).map Tx.e) x.tx r.node tt = false := by unfold voB; rw [hfe, e1]; rfl
          have e3 : voT ((a ++ x :: b).map Tx.e) x.tx r.node tt = 0 := by unfold voT; rw [hfe, e2]; rfl
          have e4 : voS ((a ++ x :: b).map Tx.e) x.tx r.node tt = (a ++ x :: b).map Tx.e := by unfold voS; rw [hfe, e1]; rfl
          rw [e1, e2, e3, e4]
          have hsd := Lib.hid (fun w' (hB : Below w.heap.size w w') => (((hT.below hB).xs x (by simp)).side hr).2.2.1)
          have hcl := Lib.hid (fun w' (hB : Below w.heap.size w w') => (((hT.below hB).xs x (by simp)).cells).1)
          rw [hv] at hsd
          clear hT hok hfe e1 e2 e3 e4 hf hx hd hi hr hv
          go_enter Try.func13, Try.ntmps13
          go_wp2_with (fail)
          with_reducible refine hfi.out.mono ?_
          rintro e w' ⟨rfl, hB⟩
          have k2 := hsd.out _ hB
          have k0 := hcl.out _ hB
          have hL := Lib.hid (hst.out _ hB)
          clear hfi hst hB hsd hcl
          go_wp2
          refine bodyPost_ret (v := .tuple #[.int .u64 0, .bool false, .int .i64 11]) ?_ rfl ⟨rfl, hL.out⟩
          simp [results, Try.results13, go_sem]
        · have e1 : voE ((a ++ x :: b).map Tx.e) x.tx r.node tt = 0 := by unfold voE; rw [hfe]; simp only; rw [if_neg (by rw [hi]; simp), if_neg (show ¬ hasV x.e.vt r.node = true by show ¬ hasV x.vt r.node = true; rw [hv]; simp), if_neg (show ¬ tt ≤ x.e.low from hlo)]
          have e2 : voB ((a ++ x :: b).map Tx.e) x.tx r.node tt = decide (x.vt.length + 1 = x.rs.length) := by
            unfold voB; rw [hfe, e1]
            show (true && dec (voX x.e r.node tt)) = _
            unfold dec voX
            show (true && decide ((x.vt ++ [(⟨r.node, tt, false⟩ : Vt)]).length = (x.rs.map SR.s).length)) = _
            simp
          have e3 : voT ((a ++ x :: b).map Tx.e) x.tx r.node tt = if decide (x.vt.length + 1 = x.rs.length) = true then max (top x.vt) tt else 0 := by
            unfold voT; rw [hfe, e2]
            simp only
            split
            · exact top_app _
            · rfl
          have e4 : voS ((a ++ x :: b).map Tx.e) x.tx r.node tt = (a ++ { x with vt := x.vt ++ [⟨r.node, tt, false⟩] } :: b).map Tx.e := by
            unfold voS; rw [hfe, e1]
            exact e_at (x' := { x with vt := x.vt ++ [⟨r.node, tt, false⟩] }) hd rfl
          rw [e1, e2, e3, e4]
          have hsd := Lib.hid (fun w' (hB : Below w.heap.size w w') => (((hT.below hB).xs x (by simp)).side hr))
          have hcl := Lib.hid (fun w' (hB : Below w.heap.size w w') => ((hT.below hB).xs x (by simp)))
          have hend := Lib.hid (fun w' (hB : Below w.heap.size w w') => (by
            obtain ⟨h1, h2⟩ := vote_mem (hT.below hB) hc (hf.up hB.size) hx hr hv tt _ rfl
            exact ⟨col, (Cn.below hf hB).trans h1, _, _, _, h2, rfl⟩ : Lv col c t ((a ++ { x with vt := x.vt ++ [⟨r.node, tt, false⟩] } :: b).map Tx.e) w (((w'.setCell ⟨x.g, k * 4 + 2, none⟩ (.bool true)).setCell ⟨x.p, 3, none⟩ (.int .i64 ((x.vt.length : Int) + 1))).setCell ⟨x.p, 5, none⟩ (.int .u64 (max (top x.vt) tt)))))
          rw [hv] at hsd
          have hl6 := hx.sz
          rw [len_e] at hl6
          have hvl := okX.less hx hi hv
          rw [len_e] at hvl
          have hvl' : x.vt.length < x.rs.length := hvl
          have ew : IntKind.i64.wrap ((x.vt.length : Int) + 1) = (x.vt.length : Int) + 1 := wrap_in _ (by omega) (by omega)
          obtain ⟨L, hL0⟩ : ∃ L, (a ++ { x with vt := x.vt ++ [⟨r.node, tt, false⟩] } :: b).map Tx.e = L := ⟨_, rfl⟩
          rw [hL0] at hend ⊢
          clear hL0
          obtain ⟨q, hqe⟩ : ∃ q, decide (x.vt.length + 1 = x.rs.length) = q := ⟨_, rfl⟩
          rw [hqe]
          replace hqe := Lib.hid hqe
          clear hT hok hfe e1 e2 e3 e4 hf hx hd hi hr hv hst hvl
          go_enter Try.func13, Try.ntmps13
          go_wp2_with (fail)
          with_reducible refine hfi.out.mono ?_
          rintro e w2 ⟨rfl, hB⟩
          obtain ⟨-, -, k2, -, kf⟩ := hsd.out _ hB
          have hxm := hcl.out _ hB
          obtain ⟨c0, -⟩ := hxm.cells
          have hr1 := row3 (v0 := k * 4 + 2) hxm (.bool true)
          obtain ⟨W1, hW1⟩ : ∃ W1, w2.setCell ⟨x.g, k * 4 + 2, none⟩ (.bool true) = W1 := ⟨_, rfl⟩
          rw [hW1] at hr1
          have hr2 := cX_3 hr1 ((x.vt.length : Int) + 1)
          obtain ⟨W2, hW2⟩ : ∃ W2, W1.setCell ⟨x.p, 3, none⟩ (.int .i64 ((x.vt.length : Int) + 1)) = W2 := ⟨_, rfl⟩
          rw [hW2] at hr2
          obtain ⟨-, -, p3, -, -, pf⟩ := cX_cells hr1
          obtain ⟨-, -, -, -, q5, qf⟩ := cX_cells hr2
          have kf2 := kf (k * 4 + 2)
          have pf3 := pf 3
          have qf5 := qf 5
          have hLv := hend.out _ hB
          rw [hW1, hW2] at hLv
          have hfin := Lib.hid (fun m (hm : m = max (top x.vt) tt) => (by
            subst hm
            have hr3 := cX_5 hr2 (max (top x.vt) tt)
            obtain ⟨-, s1, s3, -, s5, -⟩ := cX_cells hr3
            exact ⟨s1, s3, s5, hLv⟩ : (W2.setCell ⟨x.p, 5, none⟩ (.int .u64 m)).cell? ⟨x.p, 1, none⟩ = some (.slice (some ⟨x.g, 0, none⟩) x.rs.length x.gc) ∧ (W2.setCell ⟨x.p, 5, none⟩ (.int .u64 m)).cell? ⟨x.p, 3, none⟩ = some (.int .i64 ((x.vt.length : Int) + 1)) ∧ (W2.setCell ⟨x.p, 5, none⟩ (.int .u64 m)).cell? ⟨x.p, 5, none⟩ = some (.int .u64 (max (top x.vt) tt)) ∧ Lv col c t L w (W2.setCell ⟨x.p, 5, none⟩ (.int .u64 m))))
          clear hfi hB hsd hcl hend hxm hr1 hr2 hLv kf pf qf
          go_upto_region 11 with (fail)
          obtain ⟨s1, s3, s5, hL⟩ := hfin.out _ rfl
          generalize W2.setCell ⟨x.p, 5, none⟩ (.int .u64 (max (top x.vt) tt)) = W3 at *
          have hdc := Lib.hid (decided_at (n := x.vt.length + 1) W3 s1 (by rw [s3]; rfl))
          rw [hqe.out] at hdc
          have hL2 := Lib.hid (fun w' hB => lv_then (w2 := w') hL hB)
          have s5' := Lib.hid (fun w' (hB : Below W3.heap.size W3 w') => keep_cell hB s5)
          clear hfin hW1 hW2 k2 c0 p3 q5 kf2 pf3 qf5 hL s1 s3 s5
          go_wp2_with (fail)
          with_reducible refine hdc.out.mono ?_
          rintro e w4 ⟨rfl, hB4⟩
          have s5 := s5'.out _ hB4
          have hL := Lib.hid (hL2.out _ hB4)
          clear hL2 s5' hB4 hdc
          clear hvl' hl6 ew hqe
          cases q
          · go_wp2
            refine bodyPost_ret (v := .tuple #[.int .u64 0, .bool false, .int .i64 0]) ?_ rfl ⟨rfl, hL.out⟩
            simp [results, Try.results13, go_sem]
          · go_wp2
            refine bodyPost_ret (v := .tuple #[.int .u64 (max (top x.vt) tt), .bool true, .int .i64 0]) ?_ rfl ⟨rfl, hL.out⟩
            simp [results, Try.results13, go_sem]
end
end Go.Proofs.Ytafocefbpkcoaaa.coE
