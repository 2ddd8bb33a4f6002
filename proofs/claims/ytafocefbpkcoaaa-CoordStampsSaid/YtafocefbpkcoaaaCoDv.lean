/- The document's Vote. -/
import Derived.Test.YtafocefbpkcoaaaCoDf
import Derived.Lib.SliceRun
set_option linter.unusedVariables false
set_option linter.unusedSimpArgs false
set_option maxRecDepth 100000
namespace Go.Proofs.Ytafocefbpkcoaaa.coDv
open Go.ChangeShapes Go.WideShapes Go.ChangeAt Go.RowKit Go.Deep
open opG opV chnM gen chnA chnR chnE ordA ordC coG coO coM coP coL coK coN coD coDf

theorem infoW : (Try.prog.info? TW).map (fun i => (i.zero, i.size, i.bytes)) = some (some (.agg #[.int .i64 0, .int .u64 0, .bool false]), 3, 24) := by kernel_rfl
section
variable {col col' : Nat → Nat} {c q cA P g : Nat} {A : Option Addr} {l : List DE} {os : Ens} {x x' : DE} {w w1 w9 : World} {tx n t : Int}
theorem dpos {e : En} (h : fnE (l.map DE.e) tx = some e) : ∃ (P : Nat) (x : DE), l[P]? = some x ∧ x.e = e ∧ x.tx = tx ∧ dfI (l.map DE.e) tx = (P : Int) := by
  obtain ⟨h1, h2⟩ := posE_at h
  rw [List.getElem?_map] at h1
  cases hx : l[posE (l.map DE.e) tx]? with
  | none => rw [hx] at h1; cases h1
  | some x =>
    rw [hx] at h1
    have e1 := Option.some.inj h1
    refine ⟨posE (l.map DE.e) tx, x, hx, e1, ?_, ?_⟩
    · have := (fnE_mem h).2; rw [← e1] at this; exact this
    · unfold dfI; rw [h]
theorem split_at {α : Type} {l : List α} {P : Nat} {x : α} (h : l[P]? = some x) : l = l.take P ++ x :: l.drop (P + 1) := by
  have hp := (List.getElem?_eq_some_iff.1 h).1
  conv => lhs; rw [← List.take_append_drop P l]
  congr 1
  rw [List.drop_eq_getElem_cons hp, (List.getElem?_eq_some_iff.1 h).2]
theorem set_at {α : Type} {l : List α} {P : Nat} {x y : α} (h : l[P]? = some x) : l.set P y = l.take P ++ y :: l.drop (P + 1) := by
  have hp := (List.getElem?_eq_some_iff.1 h).1
  rw [List.set_eq_take_append_cons_drop, if_pos hp]
theorem upd_set (hd : DifE (l.map DE.e)) (hx : l[P]? = some x) (e : x'.tx = x.tx) : upd (l.map DE.e) x.tx x'.e = (l.set P x').map DE.e := by
  have e0 : l.map DE.e = (l.take P).map DE.e ++ x.e :: (l.drop (P + 1)).map DE.e := by
    conv => lhs; rw [split_at hx]
    rw [List.map_append, List.map_cons]
  rw [set_at hx, List.map_append, List.map_cons, e0]
  rw [e0] at hd
  exact upd_at hd x'.e
/-- an entry's votes have grown, and the row's cell is laid. -/
theorem doc_vote (h : DocM col c w q (some ⟨g, 0, none⟩) cA l) (hc : c ≠ 0) (hf : Fresh col w) (hx : l[P]? = some x) (v : Vt) {A9 : Option Addr} {c9 : Nat}
    (hB : Below w.heap.size w w1) (ho : w9.ownsRow 0 TW 3 (.slice A9 (x.vt.length + 1) c9) (x.vt.length + 1) (shW.fl x.vt ++ cW v)) (hg : w1.grownBy w9 (vv2 x)) (hat : (Value.slice A9 (x.vt.length + 1) c9).ownBlock = vv2 x ∨ (Value.slice A9 (x.vt.length + 1) c9).ownBlock = some w1.heap.size) :
    w9.cell? ⟨g, P * 4 + 3, none⟩ = some (.slice x.A2 x.vt.length x.c2) ∧ w9.frozen? ⟨g, P * 4 + 3, none⟩ = false ∧ w9.cell? ⟨q, 0, none⟩ = some (.slice (some ⟨g, 0, none⟩) l.length cA) ∧
    ∃ col', Cn c col w col' (w9.setCell ⟨g, P * 4 + 3, none⟩ (.slice A9 (x.vt.length + 1) c9)) ∧ DocM col' c (w9.setCell ⟨g, P * 4 + 3, none⟩ (.slice A9 (x.vt.length + 1) c9)) q (some ⟨g, 0, none⟩) cA (l.set P { x with vt := x.vt ++ [v], A2 := A9, c2 := c9 }) := by
  have h1 := h.below hB
  have hf1 : Fresh col w1 := hf.up hB.size
  have hm := h1.xs x (List.mem_of_getElem? hx)
  obtain ⟨g', e', -, -, -, k3, kf⟩ := h1.at_ hx
  cases e'
  obtain ⟨hC, hk⟩ := app_col (v' := .slice A9 (x.vt.length + 1) c9) hf1 hm.cv hg (fun k e => by
    rcases hat with h2 | h2
    · rw [h2] at e; have := (hm.vt.lt e).2.1; have := hg.size; omega
    · rw [h2] at e
      rcases ho.2 with ⟨e3, _⟩ | ⟨g3, cap, cur, e3, _, hb3, _⟩
      · rw [e3] at h2; cases h2
      · have e4 := e3
        simp only [Value.slice.injEq] at e4
        rw [e3] at h2
        simp only [Value.ownBlock] at h2
        have e5 := Option.some.inj e
        have e6 := Option.some.inj h2
        have := (Array.getElem?_eq_some_iff.1 hb3).1
        omega) hat
  have hx1 := hC.1
  have tg := (h1.ro.lt (k := g) rfl).2.2
  have tq := Ty.of_row h1.row
  have hvt := fun k (e : vv2 x = some k) => hm.vt.lt e
  have hgG : w9.heap[g]? = w1.heap[g]? := hg.block g tg.lt (fun e => (hvt g e.symm).2.2.ne tg (by decide) rfl)
  have hgQ : w9.heap[q]? = w1.heap[q]? := hg.block q tq.lt (fun e => (hvt q e.symm).2.2.ne tq (by decide) rfl)
  refine ⟨(World.cell?_of_block (a := ⟨g, P * 4 + 3, none⟩) hgG).trans k3, (World.frozen?_of_block (a := ⟨g, P * 4 + 3, none⟩) hgG).trans (kf _), (World.cell?_of_block (a := ⟨q, 0, none⟩) hgQ).trans h1.cell.1, _, (Cn.below hf hB).trans (hC.setCell (p := ⟨g, P * 4 + 3, none⟩) ((hx1 g tg.lt).trans (h1.co g rfl)) _), ?_⟩
  have hG4 := hC.setCell (p := ⟨g, P * 4 + 3, none⟩) ((hx1 g tg.lt).trans (h1.co g rfl)) (.slice A9 (x.vt.length + 1) c9)
  have hO9 : coG.Own shW w9 0 A9 c9 (x.vt ++ [v]) := coG.Own.of_app1 ho
  have hl9 : (x.vt ++ [v]).length = x.vt.length + 1 := by simp
  have hown9 : ∀ k, (Value.slice A9 (x.vt ++ [v]).length c9).ownBlock = some k → (Value.slice A9 (x.vt.length + 1) c9).ownBlock = some k := fun k e => by rw [hl9] at e; exact e
  have tg9 : Ty w9 g TE := by obtain ⟨cur, e⟩ := tg; exact ⟨cur, hgG.trans e⟩
  have hlen : (l.set P { x with vt := x.vt ++ [v], A2 := A9, c2 := c9 }).length = l.length := List.length_set ..
  -- what is kept of other entries
  have hsp := split_at hx
  have hpw := h1.ap
  rw [hsp] at hpw
  obtain ⟨pa, pb⟩ := pw_at hpw
  have hoth : ∀ y, y ∈ l → (∀ k, vv2 y = some k → vv2 x ≠ some k) → DeM (paintB col (.slice A9 (x.vt.length + 1) c9) c) c (w9.setCell ⟨g, P * 4 + 3, none⟩ (.slice A9 (x.vt.length + 1) c9)) y := fun y hy hne => by
    have hy' := h1.xs y hy
    refine hy'.kept hG4.2.2 hc hx1 fun k e => ?_
    have ty := (hy'.vt.lt e)
    rw [Below.heap_setCell _ _ _ _ (ty.2.2.ne tg (by decide))]
    exact hg.block k ty.2.1 (fun e2 => hne k e e2.symm)
  refine { row := ?_, ro := ?_, xs := fun y hy => ?_, ap := ?_, cq := (hx1 q tq.lt).trans h1.cq, co := fun k e => ?_ }
  · rw [hlen]
    exact (h1.row.of_block hgQ).of_block (Below.heap_setCell _ _ _ _ (tq.ne tg (by decide)))
  · have hr9 : coG.Own shE w9 0 (some ⟨g, 0, none⟩) cA l := h1.ro.block fun k e => by cases e; exact hgG
    exact hr9.set (j := 3) (y := { x with vt := x.vt ++ [v], A2 := A9, c2 := c9 }) (u := .slice A9 (x.vt.length + 1) c9) hx (by show [_, _, _, Value.slice A9 (x.vt ++ [v]).length c9] = [_, _, _, Value.slice A9 (x.vt.length + 1) c9]; rw [hl9]) (by decide)
  · rw [set_at hx] at hy
    rcases List.mem_append.1 hy with hy | hy
    · refine hoth y (List.mem_of_mem_take hy) fun k e => ?_
      exact pa y hy k e
    · rcases List.mem_cons.1 hy with rfl | hy
      · have hsh : Rd shD (w9.setCell ⟨g, P * 4 + 3, none⟩ (.slice A9 (x.vt.length + 1) c9)) x.A1 x.c1 x.rs := by
          by_cases h0 : x.rs = []
          · exact hm.sh.of_block hG4.2.2.size (.inl h0)
          · exact hm.sh.of_block hG4.2.2.size (.inr fun y e => hG4.2.2.block _ (hm.sh.lt h0 e) (by rw [hm.sco.resolve_left h0 y e]; exact fun e => hc e.symm))
        refine { sh := hsh, sco := ?_, dv := fun r hr => (hm.dv r hr).go hG4.2.2 hc hx1, vt := ?_, cv := fun k e => hk k (hown9 k e) }
        · by_cases h0 : x.rs = []
          · exact .inl h0
          · exact .inr fun y e => (hx1 _ (hm.sh.lt h0 e)).trans (hm.sco.resolve_left h0 y e)
        · exact hO9.block fun k e => Below.heap_setCell _ _ _ _ ((hO9.lt e).2.2.ne tg9 (by decide))
      · refine hoth y (List.mem_of_mem_drop hy) fun k e e2 => ?_
        exact pb y hy k e2 e
  · rw [set_at hx]
    have hnew : ∀ y, y ∈ l → (∀ k, vv2 y = some k → vv2 x ≠ some k) → ∀ k, vv2 y = some k → (Value.slice A9 (x.vt.length + 1) c9).ownBlock ≠ some k := fun y hy hne k e e2 => by
      rcases hat with h2 | h2
      · rw [h2] at e2; exact hne k e e2
      · rw [h2] at e2
        have := ((h1.xs y hy).vt.lt e).2.1
        have := Option.some.inj e2
        omega
    have h3 := List.pairwise_append.1 hpw
    have h4 := List.pairwise_cons.1 h3.2.1
    refine List.pairwise_append.2 ⟨h3.1, List.pairwise_cons.2 ⟨fun y hy k e e2 => ?_, h4.2⟩, fun y hy z hz => ?_⟩
    · exact hnew y (List.mem_of_mem_drop hy) (fun k e e2 => pb y hy k e2 e) k e2 (hown9 k e)
    · rcases List.mem_cons.1 hz with rfl | hz
      · intro k e e2
        exact hnew y (List.mem_of_mem_take hy) (fun k e => pa y hy k e) k e (hown9 k e2)
      · exact h3.2.2 y hy z (List.mem_cons_of_mem _ hz)
  · rw [hlen] at e
    exact (hx1 k (h1.ro.lt e).2.1).trans (h1.co k e)
theorem vt_len {x : En} (h : okX x) : x.vt.length ≤ x.sh.length := by
  have := len_sub h.vd (b := nds x.sh) fun y hy => by
    obtain ⟨v, hv, rfl⟩ := List.mem_map.1 hy
    exact inS_iff.1 (h.vi v hv)
  simpa [nds] using this
set_option maxHeartbeats 4000000 in
theorem dvote_at (w : World) (h : DocAt col c w q os) (hc : c ≠ 0) (hf : Fresh col w) (hok : ok os) (hn : os.length ≤ 1000) (t0 : 0 ≤ t) (t1 : t < 18446744073709551616) :
    Calls Try.prog 14 #[.pointer (some ⟨q, 0, none⟩), .int .u64 tx, .int .i64 n, .int .u64 t] w fun e w' => e = .returned (.tuple #[.int .u64 (voT os tx n t), .bool (voB os tx n t), .int .i64 (voE os tx n t)]) ∧ DLv col c q (voS os tx n t) w w' := by
  have hst := Lib.hid (fun w' hB => dlv_stay (w1 := w') h hf hB)
  obtain ⟨A, cA, l, hT, rfl⟩ := h
  rw [List.length_map] at hn
  cases hfe : fnE (l.map DE.e) tx with
  | none =>
    have e1 : voE (l.map DE.e) tx n t = 7 := by unfold voE; rw [hfe]
    have e2 : voB (l.map DE.e) tx n t = false := by unfold voB; rw [hfe]
    have e3 : voT (l.map DE.e) tx n t = 0 := by unfold voT; rw [hfe]
    have e4 : voS (l.map DE.e) tx n t = l.map DE.e := by unfold voS; rw [hfe]
    rw [e1, e2, e3, e4]
    have hlo := Lib.hid (dlook_none w hT hn n hfe)
    clear hT hok hfe e1 e2 e3 e4 hf
    go_enter Try.func14, Try.ntmps14
    go_wp2_with (fail)
    with_reducible refine hlo.out.mono ?_
    rintro e w' ⟨rfl, hB⟩
    have hL := Lib.hid (hst.out _ hB)
    clear hlo hst hB
    go_wp2
    refine bodyPost_ret (v := .tuple #[.int .u64 0, .bool false, .int .i64 7]) ?_ rfl ⟨rfl, hL.out⟩
    simp [results, Try.results14, go_sem]
  | some x0' =>
    obtain ⟨P, x, hx, rfl, rfl, hdI⟩ := dpos hfe
    have hxo := (ok_mem hok hfe).1
    have hl6 : x.rs.length ≤ 6 := by have := hxo.sz; rw [len_de] at this; exact this
    have hv6 : x.vt.length ≤ x.rs.length := by have := vt_len hxo; rw [len_de] at this; exact this
    have hlo0 := dlook_some w hT hn n hx hdI hl6 (by omega)
    have hPl := (List.getElem?_eq_some_iff.1 hx).1
    cases hi : inS x.e.sh n with
    | false =>
      have e1 : voE (l.map DE.e) x.tx n t = 18 := by unfold voE; rw [hfe]; exact if_pos hi
      have e2 : voB (l.map DE.e) x.tx n t = false := by unfold voB; rw [hfe, e1]; rfl
      have e3 : voT (l.map DE.e) x.tx n t = 0 := by unfold voT; rw [hfe, e2]; rfl
      have e4 : voS (l.map DE.e) x.tx n t = l.map DE.e := by unfold voS; rw [hfe, e1]; rfl
      rw [e1, e2, e3, e4]
      rw [hi] at hlo0
      have hlo := Lib.hid (show Calls Try.prog 34 #[.pointer (some ⟨q, 0, none⟩), .int .u64 x.tx, .int .i64 n] w fun e w' => e = .returned (.tuple #[.int .i64 0, .int .i64 0, .int .i64 18]) ∧ Below w.heap.size w w' from hlo0)
      clear hT hok hfe e1 e2 e3 e4 hf hi hlo0 hxo hdI hx
      go_enter Try.func14, Try.ntmps14
      go_wp2_with (fail)
      with_reducible refine hlo.out.mono ?_
      rintro e w' ⟨rfl, hB⟩
      have hL := Lib.hid (hst.out _ hB)
      clear hlo hst hB
      go_wp2
      refine bodyPost_ret (v := .tuple #[.int .u64 0, .bool false, .int .i64 18]) ?_ rfl ⟨rfl, hL.out⟩
      simp [results, Try.results14, go_sem]
    | true =>
      rw [hi] at hlo0
      cases hv : hasV x.vt n with
      | true =>
        have hdv : dvI x.vt n = (posV x.vt n : Nat) := if_pos hv
        rw [hdv] at hlo0
        have hlo := Lib.hid (show Calls Try.prog 34 #[.pointer (some ⟨q, 0, none⟩), .int .u64 x.tx, .int .i64 n] w fun e w' => e = .returned (.tuple #[.int .i64 (P : Int), .int .i64 (posV x.vt n : Nat), .int .i64 0]) ∧ Below w.heap.size w w' from hlo0)
        have e1 : voE (l.map DE.e) x.tx n t = 8 := by unfold voE; rw [hfe]; simp only; rw [if_neg (by rw [hi]; simp), if_pos (show hasV x.e.vt n = true from hv)]
        have e2 : voB (l.map DE.e) x.tx n t = false := by unfold voB; rw [hfe, e1]; rfl
        have e3 : voT (l.map DE.e) x.tx n t = 0 := by unfold voT; rw [hfe, e2]; rfl
        have e4 : voS (l.map DE.e) x.tx n t = l.map DE.e := by unfold voS; rw [hfe, e1]; rfl
        rw [e1, e2, e3, e4]
        generalize posV x.vt n = K at *
        have hKI : (0 : Int) ≤ (K : Int) := by omega
        clear hT hok hfe e1 e2 e3 e4 hf hi hlo0 hxo hdI hx hv hdv
        go_enter Try.func14, Try.ntmps14
        go_wp2_with (fail)
        with_reducible refine hlo.out.mono ?_
        rintro e w' ⟨rfl, hB⟩
        have hL := Lib.hid (hst.out _ hB)
        clear hlo hst hB
        go_wp2
        refine bodyPost_ret (v := .tuple #[.int .u64 0, .bool false, .int .i64 8]) ?_ rfl ⟨rfl, hL.out⟩
        simp [results, Try.results14, go_sem]
      | false =>
        have hdv : dvI x.vt n = -1 := if_neg (by rw [hv]; simp)
        rw [hdv] at hlo0
        have hlo := Lib.hid (show Calls Try.prog 34 #[.pointer (some ⟨q, 0, none⟩), .int .u64 x.tx, .int .i64 n] w fun e w' => e = .returned (.tuple #[.int .i64 (P : Int), .int .i64 (-1), .int .i64 0]) ∧ Below w.heap.size w w' from hlo0)
        have hcells := Lib.hid (fun w' (hB : Below w.heap.size w w') => And.intro (hT.below hB).cell.1 ((hT.below hB).at_ hx))
        have hcap := hT.ro.cap
        obtain ⟨g, eA, -⟩ := hT.at_ hx
        by_cases hlow : t ≤ x.low
        · have e1 : voE (l.map DE.e) x.tx n t = 11 := by unfold voE; rw [hfe]; simp only; rw [if_neg (by rw [hi]; simp), if_neg (show ¬ hasV x.e.vt n = true by show ¬ hasV x.vt n = true; rw [hv]; simp), if_pos (show t ≤ x.e.low from hlow)]
          have e2 : voB (l.map DE.e) x.tx n t = false := by unfold voB; rw [hfe, e1]; rfl
          have e3 : voT (l.map DE.e) x.tx n t = 0 := by unfold voT; rw [hfe, e2]; rfl
          have e4 : voS (l.map DE.e) x.tx n t = l.map DE.e := by unfold voS; rw [hfe, e1]; rfl
          rw [e1, e2, e3, e4]
          have hPI : (P : Int) < (l.length : Int) := by omega
          have hlc : decide (t ≤ x.low) = true := by simpa using hlow
          clear hT hok hfe e1 e2 e3 e4 hf hi hlo0 hxo hdI hx hv hdv eA
          go_enter Try.func14, Try.ntmps14
          go_wp2_with (fail)
          with_reducible refine hlo.out.mono ?_
          rintro e w' ⟨rfl, hB⟩
          obtain ⟨z0, g1, rfl, -, z1, -⟩ := hcells.out _ hB
          have hL := Lib.hid (hst.out _ hB)
          clear hlo hst hB hcells
          go_wp2
          refine bodyPost_ret (v := .tuple #[.int .u64 0, .bool false, .int .i64 11]) ?_ rfl ⟨rfl, hL.out⟩
          simp [results, Try.results14, go_sem]
        · subst eA
          obtain ⟨x', hxe⟩ : ∃ x' : Option Addr → Nat → DE, x' = fun A9 c9 => { x with vt := x.vt ++ [(⟨n, t, false⟩ : Vt)], A2 := A9, c2 := c9 } := ⟨_, rfl⟩
          have e1 : voE (l.map DE.e) x.tx n t = 0 := by unfold voE; rw [hfe]; simp only; rw [if_neg (by rw [hi]; simp), if_neg (show ¬ hasV x.e.vt n = true by show ¬ hasV x.vt n = true; rw [hv]; simp), if_neg (show ¬ t ≤ x.e.low from hlow)]
          have e2 : voB (l.map DE.e) x.tx n t = decide (x.vt.length + 1 = x.rs.length) := by
            unfold voB; rw [hfe, e1]
            show (true && dec (voX x.e n t)) = _
            unfold dec voX
            show (true && decide ((x.vt ++ [(⟨n, t, false⟩ : Vt)]).length = (x.rs.map SR.s).length)) = _
            simp
          have e3 : voT (l.map DE.e) x.tx n t = if decide (x.vt.length + 1 = x.rs.length) = true then top (x.vt ++ [(⟨n, t, false⟩ : Vt)]) else 0 := by
            unfold voT; rw [hfe, e2]
            simp only
            split
            · rfl
            · rfl
          have e4 : ∀ A9 c9, voS (l.map DE.e) x.tx n t = (l.set P { x with vt := x.vt ++ [(⟨n, t, false⟩ : Vt)], A2 := A9, c2 := c9 }).map DE.e := fun A9 c9 => by
            unfold voS; rw [hfe, e1]
            exact upd_set (x' := { x with vt := x.vt ++ [(⟨n, t, false⟩ : Vt)], A2 := A9, c2 := c9 }) hok.df hx rfl
          rw [e1, e2, e3]
          obtain ⟨L, hL0⟩ : ∃ L, voS (l.map DE.e) x.tx n t = L := ⟨_, rfl⟩
          rw [hL0] at e4 ⊢
          obtain ⟨qd, hqe⟩ : ∃ qd, decide (x.vt.length + 1 = x.rs.length) = qd := ⟨_, rfl⟩
          rw [hqe]
          obtain ⟨iW, hiW, hzW0, hzW1, hzW2⟩ := info_parts infoW
          have hown := Lib.hid (fun w1 (hB : Below w.heap.size w w1) => (((hT.below hB).xs x (List.mem_of_getElem? hx)).vt : coG.Own shW w1 0 x.A2 x.c2 x.vt))
          have hend := Lib.hid (fun w1 w9 A9 c9 (hB : Below w.heap.size w w1) (ho : w9.ownsRow 0 TW 3 (.slice A9 (x.vt.length + 1) c9) (x.vt.length + 1) (shW.fl x.vt ++ cW ⟨n, t, false⟩)) (hg : w1.grownBy w9 (Value.slice x.A2 x.vt.length x.c2).ownBlock) (hat : (Value.slice A9 (x.vt.length + 1) c9).ownBlock = (Value.slice x.A2 x.vt.length x.c2).ownBlock ∨ (Value.slice A9 (x.vt.length + 1) c9).ownBlock = some w1.heap.size) => (by
            obtain ⟨h1, h2, hq0, col', h3, h4⟩ := doc_vote hT hc hf hx ⟨n, t, false⟩ hB ho hg hat
            have hx' : (l.set P { x with vt := x.vt ++ [(⟨n, t, false⟩ : Vt)], A2 := A9, c2 := c9 })[P]? = some { x with vt := x.vt ++ [(⟨n, t, false⟩ : Vt)], A2 := A9, c2 := c9 } := by rw [List.getElem?_set, if_pos rfl, if_pos hPl]
            obtain ⟨g5, e5, k0, k1, k2, k3, -⟩ := h4.at_ hx'
            cases e5
            have hl5 : (l.set P { x with vt := x.vt ++ [(⟨n, t, false⟩ : Vt)], A2 := A9, c2 := c9 }).length = l.length := List.length_set ..
            have kc := h4.cell.1
            rw [hl5] at kc
            exact ⟨h1, h2, hq0, kc, k0, k1, k2, k3, (h4.xs _ (List.mem_of_getElem? hx')).vt, ⟨col', h3, _, _, _, h4, e4 A9 c9⟩⟩ :
              w9.cell? ⟨g, P * 4 + 3, none⟩ = some (.slice x.A2 x.vt.length x.c2) ∧ w9.frozen? ⟨g, P * 4 + 3, none⟩ = false ∧ w9.cell? ⟨q, 0, none⟩ = some (.slice (some ⟨g, 0, none⟩) l.length cA) ∧ (w9.setCell ⟨g, P * 4 + 3, none⟩ (.slice A9 (x.vt.length + 1) c9)).cell? ⟨q, 0, none⟩ = some (.slice (some ⟨g, 0, none⟩) l.length cA) ∧
              (w9.setCell ⟨g, P * 4 + 3, none⟩ (.slice A9 (x.vt.length + 1) c9)).cell? ⟨g, P * 4, none⟩ = some (.int .u64 x.tx) ∧ (w9.setCell ⟨g, P * 4 + 3, none⟩ (.slice A9 (x.vt.length + 1) c9)).cell? ⟨g, P * 4 + 1, none⟩ = some (.int .u64 x.low) ∧ (w9.setCell ⟨g, P * 4 + 3, none⟩ (.slice A9 (x.vt.length + 1) c9)).cell? ⟨g, P * 4 + 2, none⟩ = some (.slice x.A1 x.rs.length x.c1) ∧ (w9.setCell ⟨g, P * 4 + 3, none⟩ (.slice A9 (x.vt.length + 1) c9)).cell? ⟨g, P * 4 + 3, none⟩ = some (.slice A9 (x.vt ++ [(⟨n, t, false⟩ : Vt)]).length c9) ∧
              coG.Own shW (w9.setCell ⟨g, P * 4 + 3, none⟩ (.slice A9 (x.vt.length + 1) c9)) 0 A9 c9 (x.vt ++ [(⟨n, t, false⟩ : Vt)]) ∧ DLv col c q L w (w9.setCell ⟨g, P * 4 + 3, none⟩ (.slice A9 (x.vt.length + 1) c9))))
          have hPI : (P : Int) < (l.length : Int) := by omega
          have hlc : decide (t ≤ x.low) = false := by simpa using hlow
          have hlt9 := Lib.hid (show x.vt.length + 1 ≤ maxLen ∧ (x.vt.length + 1) * 24 ≤ 140737488355328 from ⟨by unfold maxLen; omega, by omega⟩)
          have hdec := Lib.hid (fun w1 A9 c9 (ho : coG.Own shW w1 0 A9 c9 (x.vt ++ [(⟨n, t, false⟩ : Vt)])) => (by
            have := decided_any w1 { x with vt := x.vt ++ [(⟨n, t, false⟩ : Vt)], A2 := A9, c2 := c9 } ho (by simp; omega)
            have e6 : (x.vt ++ [(⟨n, t, false⟩ : Vt)]).length = x.vt.length + 1 := by simp
            simp only [e6] at this
            rw [hqe] at this
            exact this : Calls Try.prog 35 #[.agg #[.int .u64 x.tx, .int .u64 x.low, .slice x.A1 x.rs.length x.c1, .slice A9 (x.vt.length + 1) c9]] w1 fun e w' => e = .returned (.tuple #[.int .u64 (top (x.vt ++ [(⟨n, t, false⟩ : Vt)])), .bool qd]) ∧ Below w1.heap.size w1 w'))
          obtain ⟨TP, hTP⟩ : ∃ TP, top (x.vt ++ [(⟨n, t, false⟩ : Vt)]) = TP := ⟨_, rfl⟩
          rw [hTP] at hdec ⊢
          clear hT hok hfe e1 e2 e3 hf hi hlo0 hxo hdI hv hdv hst hlow e4 hL0 hqe hxe hTP x' hx
          go_enter Try.func14, Try.ntmps14
          go_wp2_with (fail)
          with_reducible refine hlo.out.mono ?_
          rintro e w2 ⟨rfl, hB⟩
          obtain ⟨z0, g1, e8, -, z1, -, z3, -⟩ := hcells.out _ hB
          cases e8
          have z0' := keep_cell (al0 w2 (.cells #[.int .i64 n, .int .u64 t, .bool false] TW)) z0
          have z3' := keep_cell (al0 w2 (.cells #[.int .i64 n, .int .u64 t, .bool false] TW)) z3
          have hBd : Below w.heap.size w (w2.drew.alloc (.cells #[.int .i64 n, .int .u64 t, .bool false] TW)) := (hB.drew).alloc hB.size _
          have hown2 := Lib.hid (hown.out _ hBd)
          have hend2 := Lib.hid (fun w9 A9 c9 => hend.out (w2.drew.alloc (.cells #[.int .i64 n, .int .u64 t, .bool false] TW)) w9 A9 c9 hBd)
          clear hlo hcells hown hend hBd
          replace hB := Lib.hid hB
          go_upto_region 8 with (fail)
          go_region_law (refine step_gen rfl (.tmp 51) (.tmp 55) 81 rfl 0 TW iW _ 3 24 Try.underlying81 hiW hzW0 hzW1 hzW2 rfl (by decide) (.slice x.A2 x.vt.length x.c2) x.vt.length (shW.fl x.vt) (by rfl) hown2.out (some ⟨_, 0, none⟩) 1 1 (cW ⟨n, t, false⟩) (by rfl) rfl (stand_new _ _ _ _) (cW_one _) hlt9.out.1 hlt9.out.2 (Nat.zero_le _) ?_; intro A9 c9 w9 ho9 hg9 hat9; obtain ⟨y0, y1, yq0, yq, yt, yl, ys, yv, hov, hL⟩ := hend2.out w9 A9 c9 ho9 hg9 hat9; replace hov := Lib.hid hov; replace hL := Lib.hid hL; clear ho9 hg9 hat9)
          all_goals
            clear y0 y1 yq0 z0 z0' z1 z3 z3' hend2 hown2 hlt9 hB
            have hl1 : (x.vt ++ [(⟨n, t, false⟩ : Vt)]).length = x.vt.length + 1 := by simp
            rw [hl1] at yv
            generalize w9.setCell ⟨g, P * 4 + 3, none⟩ (.slice A9 (x.vt.length + 1) c9) = W9 at *
            have hdc := Lib.hid (hdec.out W9 A9 c9 hov.out)
            have hL2 := Lib.hid (fun w' hB => dlv_then (w2 := w') hL.out hB)
            clear hdec hov hL hl1
            go_wp2_with (fail)
            with_reducible refine hdc.out.mono ?_
            rintro e w4 ⟨rfl, hB4⟩
            have hL := Lib.hid (hL2.out _ hB4)
            clear hL2 hB4 hdc
            cases qd
            · go_wp2
              refine bodyPost_ret (v := .tuple #[.int .u64 0, .bool false, .int .i64 0]) ?_ rfl ⟨rfl, hL.out⟩
              simp [results, Try.results14, go_sem]
            · go_wp2
              refine bodyPost_ret (v := .tuple #[.int .u64 TP, .bool true, .int .i64 0]) ?_ rfl ⟨rfl, hL.out⟩
              simp [results, Try.results14, go_sem]
end
end Go.Proofs.Ytafocefbpkcoaaa.coDv
