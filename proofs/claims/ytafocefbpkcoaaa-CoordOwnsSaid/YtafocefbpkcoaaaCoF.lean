/- The program's End. -/
import Derived.Test.YtafocefbpkcoaaaCoE
set_option linter.unusedVariables false
set_option linter.unusedSimpArgs false
set_option maxRecDepth 100000
namespace Go.Proofs.Ytafocefbpkcoaaa.coF
open Go.ChangeShapes Go.WideShapes Go.ChangeAt Go.RowKit Go.Deep
open opG opV chnM gen chnA chnR chnE ordA ordC coG coO coM coP coL coN coB coK coV coE

section
variable {col : Nat → Nat} {c t mb : Nat} {D : DM} {l a b : List Tx} {x x' : Tx} {os : Ens} {w w1 w2 : World}
theorem end_mem (h : TabM col c w t mb D (a ++ x :: b)) (hc : c ≠ 0) (hf : Fresh col w) (hx : okX x.e) {k : Nat} {r : SR} (hr : x.rs[k]? = some r) (hv : hasV x.vt r.node = true) (he : endV x.vt r.node = false) (x' : Tx) (ex : x' = { x with vt := mrk x.vt r.node }) :
    Cn c col w col ((w.setCell ⟨x.g, k * 4 + 3, none⟩ (.bool true)).setCell ⟨x.p, 4, none⟩ (.int .i64 ((ends x.vt : Int) + 1))) ∧ TabM col c ((w.setCell ⟨x.g, k * 4 + 3, none⟩ (.bool true)).setCell ⟨x.p, 4, none⟩ (.int .i64 ((ends x.vt : Int) + 1))) t mb D (a ++ x' :: b) := by
  have hm := h.xs x (by simp)
  have hg : Chg col c w ((w.setCell ⟨x.g, k * 4 + 3, none⟩ (.bool true)).setCell ⟨x.p, 4, none⟩ (.int .i64 ((ends x.vt : Int) + 1))) :=
    ((Chg.refl _ _ _).setCell (p := ⟨x.g, k * 4 + 3, none⟩) hm.cg _).setCell (p := ⟨x.p, 4, none⟩) hm.cp _
  have hs : w.heap.size = ((w.setCell ⟨x.g, k * 4 + 3, none⟩ (.bool true)).setCell ⟨x.p, 4, none⟩ (.int .i64 ((ends x.vt : Int) + 1))).heap.size := by simp
  have hnd := hx.nd
  rw [Tx.nds_e] at hnd
  have hk : ∀ k', k' ≠ x.p → k' ≠ x.g → ((w.setCell ⟨x.g, k * 4 + 3, none⟩ (.bool true)).setCell ⟨x.p, 4, none⟩ (.int .i64 ((ends x.vt : Int) + 1))).heap[k']? = w.heap[k']? := fun k' n1 n2 => by
    rw [Below.heap_setCell _ _ _ _ n1, Below.heap_setCell _ _ _ _ n2]
  refine ⟨⟨Ext.refl _ _, hf.up hg.size, hg⟩, h.put hc hs hg hk ?_ (by rw [ex]) (by rw [ex]) (by rw [ex]) (by rw [ex])⟩
  subst ex
  refine { row := ?_, sd := ?_, mp := map_block hm.mp (hk x.mb hm.ne.2.1.symm hm.ne.2.2.symm), cr := hm.cr, dv := fun r hr => (hm.dv r hr).go hg hc (Ext.refl _ _), cp := hm.cp, cg := hm.cg, cm := hm.cm }
  · have h1 := cX_4 (row3 (v0 := k * 4 + 3) hm (.bool true)) ((ends x.vt : Int) + 1)
    refine h1.congr fun i hi => ?_
    have e1 : ((ends (mrk x.vt r.node) : Nat) : Int) = (ends x.vt : Int) + 1 := by have := mark_ends (vt := x.vt) hx.vd hv he; rw [this]; simp
    have e2 : top (mrk x.vt r.node) = top x.vt := by
      unfold top mrk
      rw [List.foldl_map]
      congr 1
      funext A v
      split <;> rfl
    simp only [mark_len, e1, e2]
  · show Own sdS _ 0 (some ⟨x.g, 0, none⟩) x.gc (sdl (mrk x.vt r.node) x.rs)
    rw [sdl_end hnd hr hv]
    have hx0 : (sdl x.vt x.rs)[k]? = some ⟨r, hasV x.vt r.node, endV x.vt r.node⟩ := by unfold sdl; rw [List.getElem?_map, hr]; rfl
    have h1 := hm.sd.set (j := 3) (y := ⟨r, hasV x.vt r.node, true⟩) (u := .bool true) hx0 rfl (by decide)
    exact h1.block fun k' e => by
      cases e
      rw [Below.heap_setCell _ _ _ _ hm.ne.1.symm]
theorem rmp_at {f : Tx → Value} (h1 : ∀ y ∈ a, y.tx ≠ x.tx) (h2 : ∀ y ∈ b, y.tx ≠ x.tx) : rmp ((a ++ x :: b).map fun x => (x.tx, f x)) x.tx = (a ++ b).map fun x => (x.tx, f x) := by
  unfold rmp
  rw [List.map_append, List.map_cons, List.filter_append, List.filter_cons, List.map_append]
  have hdd : decide ((x.tx, f x).1 ≠ x.tx) = false := by simp
  rw [hdd]
  simp only [Bool.false_eq_true, if_false]
  congr 1
  · rw [List.filter_eq_self]
    intro y hy
    obtain ⟨z, hz, rfl⟩ := List.mem_map.1 hy
    exact decide_eq_true (h1 z hz)
  · rw [List.filter_eq_self]
    intro y hy
    obtain ⟨z, hz, rfl⟩ := List.mem_map.1 hy
    exact decide_eq_true (h2 z hz)
theorem tab_del (h : TabM col c w t mb D (a ++ x :: b)) (hc : c ≠ 0) (hf : Fresh col w) (hd : DifE ((a ++ x :: b).map Tx.e)) (x0 : 0 ≤ x.tx) (x1 : x.tx < 18446744073709551616) (ty : TypeId) :
    ∃ w2, (Builtin.delete_ #[TM, 29] ty #[.map (some mb), .int .u64 x.tx]).run Try.prog w = .ok (.tuple #[]) w2 ∧ Cn c col w col w2 ∧ TabAt col c w2 t ((a ++ b).map Tx.e) := by
  obtain ⟨w2, D2, h1, h2, h3, h4⟩ := cr_drop (tm := TM) h.cr h.mp Try.underlying29 Try.underlying70 (wf_u x0 x1) (fnp_some hd) ty
  have hd' := hd
  rw [List.map_append, List.map_cons] at hd'
  obtain ⟨n1, n2⟩ := dif_at hd'
  have m1 : ∀ y ∈ a, y.tx ≠ x.tx := fun y hy => n1 y.e (List.mem_map.2 ⟨y, hy, rfl⟩)
  have m2 : ∀ y ∈ b, y.tx ≠ x.tx := fun y hy => n2 y.e (List.mem_map.2 ⟨y, hy, rfl⟩)
  rw [rmp_at m1 m2] at h2 h3
  have hg := h4.grown
  have hC : Chg col c w w2 := Chg.grown hg fun k e => by cases e; exact h.cm
  have tt := Ty.of_row h.row
  refine ⟨w2, h1, ⟨Ext.refl _ _, hf.up hC.size, hC⟩, mb, D2, a ++ b, ?_, rfl⟩
  have hsub : ∀ y, y ∈ a ++ b → y ∈ a ++ x :: b := fun y hy => by
    rcases List.mem_append.1 hy with hy | hy
    · exact List.mem_append.2 (.inl hy)
    · exact List.mem_append.2 (.inr (List.mem_cons_of_mem _ hy))
  refine { row := h.row.of_block (hg.block t h.row.lt (fun e => tt.nmap h.mp (Option.some.inj e))), mp := ?_, cr := h3, xs := fun y hy => ?_, ap := ?_, tm := fun y hy => h.tm y (hsub y hy), ct := h.ct, cm := h.cm }
  · rw [List.length_map] at h2; exact h2
  · have hy' := h.xs y (hsub y hy)
    have ny := h.tm y (hsub y hy)
    exact hy'.kept hC hc (Ext.refl _ _) (hg.block _ hy'.row.lt (fun e => (Ty.of_row hy'.row).nmap h.mp (Option.some.inj e))) (hg.block _ (hy'.sd.lt rfl).2.1 (fun e => (hy'.sd.lt rfl).2.2.nmap h.mp (Option.some.inj e))) (hg.block _ hy'.mp.lt (fun e => ny (Option.some.inj e)))
  · exact h.ap.sublist (List.Sublist.append (List.Sublist.refl _) (List.sublist_cons_self _ _))
set_option maxHeartbeats 2000000 in
theorem end_at (w : World) (h : TabAt col c w t os) (hc : c ≠ 0) (hf : Fresh col w) (hok : ok os) {tx n : Int} (x0 : 0 ≤ tx) (x1 : tx < 18446744073709551616) (n0 : -9223372036854775808 ≤ n) (n1 : n ≤ 9223372036854775807) :
    Calls Try.prog 15 #[.pointer (some ⟨t, 0, none⟩), .int .u64 tx, .int .i64 n] w fun e w' => e = .returned (.tuple #[.bool (enB os tx n), .int .i64 (enE os tx n)]) ∧ Lv col c t (enS os tx n) w w' := by
  have hst := Lib.hid (fun w' hB => lv_stay (w1 := w') h hf hB)
  obtain ⟨mb, D, l, hT, rfl⟩ := h
  cases hfe : fnE (l.map Tx.e) tx with
  | none =>
    have e1 : enE (l.map Tx.e) tx n = 7 := by unfold enE; rw [hfe]
    have e2 : enB (l.map Tx.e) tx n = false := by unfold enB; rw [hfe]
    have e4 : enS (l.map Tx.e) tx n = l.map Tx.e := by unfold enS; rw [hfe]
    rw [e1, e2, e4]
    have hfi := Lib.hid (find_none w hT n x0 x1 hfe)
    clear hT hok hfe e1 e2 e4 hf
    go_enter Try.func15, Try.ntmps15
    go_wp2_with (fail)
    with_reducible refine hfi.out.mono ?_
    rintro e w' ⟨rfl, hB⟩
    have hL := Lib.hid (hst.out _ hB)
    clear hfi hst hB
    go_wp2
    go_ret2
    exact ⟨rfl, hL.out⟩
  | some x0' =>
    obtain ⟨a, x, b, rfl, rfl, rfl⟩ := fnE_split hfe
    have hx := (ok_mem hok hfe).1
    have hd := hok.df
    cases hi : inS x.e.sh n with
    | false =>
      have e1 : enE ((a ++ x :: b).map Tx.e) x.tx n = 18 := by unfold enE; rw [hfe]; exact if_pos hi
      have e2 : enB ((a ++ x :: b).map Tx.e) x.tx n = false := by unfold enB; rw [hfe, e1]; rfl
      have e4 : enS ((a ++ x :: b).map Tx.e) x.tx n = (a ++ x :: b).map Tx.e := by unfold enS; rw [hfe, e1]; rfl
      rw [e1, e2, e4]
      have hfi := Lib.hid (find_away w hT hd n0 n1 x0 x1 hi)
      obtain ⟨L, hL0⟩ : ∃ L, (a ++ x :: b).map Tx.e = L := ⟨_, rfl⟩
      rw [hL0] at hst ⊢
      clear hT hok hfe e1 e2 e4 hf hx hd hi hL0
      go_enter Try.func15, Try.ntmps15
      go_wp2_with (fail)
      with_reducible refine hfi.out.mono ?_
      rintro e w' ⟨rfl, hB⟩
      have hL := Lib.hid (hst.out _ hB)
      clear hfi hst hB
      go_wp2
      go_ret2
      exact ⟨rfl, hL.out⟩
    | true =>
      obtain ⟨k, r, hr, rfl⟩ := in_at hi
      have hfi := Lib.hid (find_in w hT hd hx hr n0 n1 x0 x1)
      have hne := (hT.xs x (by simp)).ne.1
      have hdx : dec x.e = decide (x.vt.length = x.rs.length) := by unfold dec; rw [len_e]; rfl
      have hcl := Lib.hid (fun w' (hB : Below w.heap.size w w') => ((hT.below hB).xs x (by simp)))
      cases hdd : dec x.e with
      | false =>
        have e1 : enE ((a ++ x :: b).map Tx.e) x.tx r.node = 19 := by unfold enE; rw [hfe]; simp only; rw [if_neg (by rw [hi]; simp), if_pos hdd]
        have e2 : enB ((a ++ x :: b).map Tx.e) x.tx r.node = false := by unfold enB; rw [hfe, e1]; rfl
        have e4 : enS ((a ++ x :: b).map Tx.e) x.tx r.node = (a ++ x :: b).map Tx.e := by unfold enS; rw [hfe, e1]; rfl
        rw [e1, e2, e4]
        rw [hdx] at hdd
        have hdc := Lib.hid (fun w' (hB : Below w.heap.size w w') => (by
          obtain ⟨-, c1, -, c3, -⟩ := (hcl.out w' hB).cells
          have := decided_at w' c1 c3
          rw [hdd] at this
          exact this : Calls Try.prog 33 #[.pointer (some ⟨x.p, 0, none⟩)] w' fun e w2 => e = .returned (.bool false) ∧ Below w'.heap.size w' w2))
        obtain ⟨L, hL0⟩ : ∃ L, (a ++ x :: b).map Tx.e = L := ⟨_, rfl⟩
        rw [hL0] at hst ⊢
        clear hT hok hfe e1 e2 e4 hf hx hd hi hr hdx hdd hcl hL0
        go_enter Try.func15, Try.ntmps15
        go_wp2_with (fail)
        with_reducible refine hfi.out.mono ?_
        rintro e w' ⟨rfl, hB⟩
        have hdc2 := Lib.hid (hdc.out _ hB)
        have hL2 := Lib.hid (fun w'' hB2 => hst.out w'' (trans0 hB hB2))
        clear hfi hst hB hdc
        go_wp2_with (fail)
        with_reducible refine hdc2.out.mono ?_
        rintro e w2 ⟨rfl, hB2⟩
        have hL := Lib.hid (hL2.out _ hB2)
        clear hL2 hB2 hdc2
        go_wp2
        go_ret2
        exact ⟨rfl, hL.out⟩
      | true =>
        have hv : hasV x.vt r.node = true := okX.full hx hdd hi
        have hdl : x.vt.length = x.rs.length := by rw [hdx] at hdd; exact of_decide_eq_true hdd
        have hdc := Lib.hid (fun w' (hB : Below w.heap.size w w') => (by
          obtain ⟨-, c1, -, c3, -⟩ := (hcl.out w' hB).cells
          have := decided_at w' c1 c3
          rw [decide_eq_true hdl] at this
          exact this : Calls Try.prog 33 #[.pointer (some ⟨x.p, 0, none⟩)] w' fun e w2 => e = .returned (.bool true) ∧ Below w'.heap.size w' w2))
        have hsd := Lib.hid (fun w' (hB : Below w.heap.size w w') => (((hT.below hB).xs x (by simp)).side hr))
        cases he : endV x.vt r.node with
        | true =>
          have e1 : enE ((a ++ x :: b).map Tx.e) x.tx r.node = 8 := by unfold enE; rw [hfe]; simp only; rw [if_neg (by rw [hi]; simp), if_neg (by rw [hdd]; simp), if_pos (show endV x.e.vt r.node = true from he)]
          have e2 : enB ((a ++ x :: b).map Tx.e) x.tx r.node = false := by unfold enB; rw [hfe, e1]; rfl
          have e4 : enS ((a ++ x :: b).map Tx.e) x.tx r.node = (a ++ x :: b).map Tx.e := by unfold enS; rw [hfe, e1]; rfl
          rw [e1, e2, e4]
          rw [he] at hsd
          obtain ⟨L, hL0⟩ : ∃ L, (a ++ x :: b).map Tx.e = L := ⟨_, rfl⟩
          rw [hL0] at hst ⊢
          clear hT hok hfe e1 e2 e4 hf hx hd hi hr hdx hdd hcl hv hdl he hL0
          go_enter Try.func15, Try.ntmps15
          go_wp2_with (fail)
          with_reducible refine hfi.out.mono ?_
          rintro e w' ⟨rfl, hB⟩
          have hdc2 := Lib.hid (hdc.out _ hB)
          have hL2 := Lib.hid (fun w'' hB2 => hst.out w'' (trans0 hB hB2))
          have hs2 := Lib.hid (fun w'' hB2 => (hsd.out w'' (trans0 hB hB2)).2.2.2.1)
          clear hfi hst hB hdc hsd
          go_wp2_with (fail)
          with_reducible refine hdc2.out.mono ?_
          rintro e w2 ⟨rfl, hB2⟩
          have hL := Lib.hid (hL2.out _ hB2)
          have k3 := hs2.out _ hB2
          clear hL2 hB2 hdc2 hs2
          go_wp2
          go_ret2
          exact ⟨rfl, hL.out⟩
        | false =>
          have e1 : enE ((a ++ x :: b).map Tx.e) x.tx r.node = 0 := by unfold enE; rw [hfe]; simp only; rw [if_neg (by rw [hi]; simp), if_neg (by rw [hdd]; simp), if_neg (show ¬ endV x.e.vt r.node = true by show ¬ endV x.vt r.node = true; rw [he]; simp)]
          have hmk := mark_ends (vt := x.vt) hx.vd hv he
          have hal : alle (enX x.e r.node) = decide (ends x.vt + 1 = x.rs.length) := by
            rw [Bool.eq_iff_iff, decide_eq_true_eq]
            have h1 := ends_all (vt := mrk x.vt r.node)
            rw [mark_len] at h1
            have hmk' : ends (mrk x.vt r.node) = ends x.vt + 1 := hmk
            rw [hmk', hdl] at h1
            exact h1.symm
          have e2 : enB ((a ++ x :: b).map Tx.e) x.tx r.node = decide (ends x.vt + 1 = x.rs.length) := by unfold enB; rw [hfe, e1]; simp only; rw [hal]; rfl
          have e4 : enS ((a ++ x :: b).map Tx.e) x.tx r.node = if decide (ends x.vt + 1 = x.rs.length) = true then (a ++ b).map Tx.e else (a ++ { x with vt := mrk x.vt r.node } :: b).map Tx.e := by
            unfold enS; rw [hfe, e1]
            simp only
            rw [hal]
            simp only [if_true]
            split
            · exact rm_at hd
            · exact e_at (x' := { x with vt := mrk x.vt r.node }) hd rfl
          rw [e1, e2, e4]
          rw [he] at hsd
          have hle := ends_le (mrk x.vt r.node)
          rw [hmk, mark_len, hdl] at hle
          have hl6 := hx.sz
          rw [len_e] at hl6
          have ew : IntKind.i64.wrap ((ends x.vt : Int) + 1) = (ends x.vt : Int) + 1 := wrap_in _ (by omega) (by omega)
          have htb := Lib.hid (fun w' (hB : Below w.heap.size w w') => end_mem (hT.below hB) hc (hf.up hB.size) hx hr hv he _ rfl)
          have hdN : DifE ((a ++ { x with vt := mrk x.vt r.node } :: b).map Tx.e) := by
            have := (ok_end hok x.tx r.node).df
            have e5 : ((a ++ { x with vt := mrk x.vt r.node } :: b).map Tx.e).map (·.tx) = ((a ++ x :: b).map Tx.e).map (·.tx) := by simp [Tx.e]
            unfold DifE
            rw [e5]
            exact hd
          have hfin := Lib.hid (fun w' w3 (hB : Below w.heap.size w w') (hw3 : (w'.setCell ⟨x.g, k * 4 + 3, none⟩ (.bool true)).setCell ⟨x.p, 4, none⟩ (.int .i64 ((ends x.vt : Int) + 1)) = w3) n => (by
            obtain ⟨h1, h2⟩ := htb.out w' hB
            rw [hw3] at h1 h2
            have hB4 := chnA.bdrN n (Below.refl w3.heap.size w3)
            have h4 := h2.below hB4
            have hf4 := h1.2.1.up hB4.size
            have hC4 := ((Cn.below hf hB).trans h1).trans (Cn.below h1.2.1 hB4)
            obtain ⟨w5, h5, h6, h7⟩ := tab_del h4 hc hf4 hdN x0 x1 0
            exact ⟨⟨col, hC4, _, _, _, h4, rfl⟩, h4.row.cell (i := 0) (by omega), w5, h5, ⟨col, hC4.trans h6, h7⟩⟩ :
              Lv col c t ((a ++ { x with vt := mrk x.vt r.node } :: b).map Tx.e) w (w3.drewN n) ∧ (w3.drewN n).cell? ⟨t, 0, none⟩ = some (.map (some mb)) ∧ ∃ w5, (Builtin.delete_ #[TM, 29] 0 #[.map (some mb), .int .u64 x.tx]).run Try.prog (w3.drewN n) = .ok (.tuple #[]) w5 ∧ Lv col c t ((a ++ b).map Tx.e) w w5))
          obtain ⟨L1, hL1⟩ : ∃ L, (a ++ b).map Tx.e = L := ⟨_, rfl⟩
          obtain ⟨L2, hL2⟩ : ∃ L, (a ++ { x with vt := mrk x.vt r.node } :: b).map Tx.e = L := ⟨_, rfl⟩
          rw [hL1, hL2] at hfin ⊢
          obtain ⟨q, hqe⟩ : ∃ q, decide (ends x.vt + 1 = x.rs.length) = q := ⟨_, rfl⟩
          rw [hqe]
          replace hqe := Lib.hid hqe
          replace hl6 := Lib.hid hl6
          clear hT hok hfe e1 e2 e4 hf hx hd hi hr hdx hdd hv he hst hmk hal hdN htb hL1 hL2
          go_enter Try.func15, Try.ntmps15
          go_wp2_with (fail)
          with_reducible refine hfi.out.mono ?_
          rintro e w' ⟨rfl, hB0⟩
          have hdc2 := Lib.hid (hdc.out _ hB0)
          replace hB0 := Lib.hid hB0
          clear hfi hdc
          go_wp2_with (fail)
          with_reducible refine hdc2.out.mono ?_
          rintro e w2 ⟨rfl, hB2⟩
          have hB := trans0 hB0.out hB2
          obtain ⟨-, -, -, k3, kf⟩ := hsd.out _ hB
          have hxm := hcl.out _ hB
          have hr1 := row3 (v0 := k * 4 + 3) hxm (.bool true)
          obtain ⟨W1, hW1⟩ : ∃ W1, w2.setCell ⟨x.g, k * 4 + 3, none⟩ (.bool true) = W1 := ⟨_, rfl⟩
          rw [hW1] at hr1
          have hr2 := cX_4 hr1 ((ends x.vt : Int) + 1)
          obtain ⟨W2, hW2⟩ : ∃ W2, W1.setCell ⟨x.p, 4, none⟩ (.int .i64 ((ends x.vt : Int) + 1)) = W2 := ⟨_, rfl⟩
          rw [hW2] at hr2
          obtain ⟨-, -, -, p4, -, pf⟩ := cX_cells hr1
          obtain ⟨-, q1, -, q4, -, -⟩ := cX_cells hr2
          have kf3 := kf (k * 4 + 3)
          have pf4 := pf 4
          have hLv := Lib.hid (hfin.out w2 W2 hB (by rw [hW1, hW2]))
          clear hfin hB hB0 hB2 hdc2 hsd hcl hxm hr1 hr2 kf pf
          cases q
          · have hqI : ((ends x.vt : Int) + 1 < (x.rs.length : Int)) := by have := of_decide_eq_false hqe.out; omega
            clear hqe hle hdl
            go_upto_region 10 with (fail)
            go_quiet (fail)
            obtain ⟨hL, z0, -⟩ := hLv.out nq
            replace hL := Lib.hid hL
            clear hLv hW1 hW2 k3 kf3 p4 pf4 q1 q4
            generalize W2.drewN nq = W3 at *
            go_wp2
            go_ret2
            exact ⟨rfl, hL.out⟩
          · have hqI : ¬ ((ends x.vt : Int) + 1 < (x.rs.length : Int)) := by have := of_decide_eq_true hqe.out; omega
            clear hqe hle hdl
            go_upto_region 10 with (fail)
            go_quiet (fail)
            obtain ⟨-, z0, w5, hup, hL⟩ := hLv.out nq
            replace hL := Lib.hid hL
            clear hLv hW1 hW2 k3 kf3 p4 pf4 q1 q4
            generalize W2.drewN nq = W3 at *
            go_wp2
            go_ret2
            exact ⟨rfl, hL.out⟩
end
end Go.Proofs.Ytafocefbpkcoaaa.coF
