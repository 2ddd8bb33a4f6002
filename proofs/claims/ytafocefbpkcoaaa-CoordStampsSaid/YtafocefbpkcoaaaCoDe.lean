/- The document's End. -/
import Derived.Test.YtafocefbpkcoaaaCoDv
import Derived.Test.YtafocefbpkcoaaaCoDs
import Derived.Lib.SliceRun
set_option linter.unusedVariables false
set_option linter.unusedSimpArgs false
set_option maxRecDepth 100000
namespace Go.Proofs.Ytafocefbpkcoaaa.coDe
open Go.ChangeShapes Go.WideShapes Go.ChangeAt Go.RowKit Go.Deep
open opG opV chnM gen chnA chnR chnE ordA ordC coG coO coM coP coL coK coN coD coDf coDv coDs

abbrev TSE : TypeId := 26
open Go.Lib in
theorem slice_to (A : Option Addr) (n c i : Nat) (h : i ≤ c) (w : World) : (Instr.slice TSE (.slice A n c) none (some (.int .i64 (i : Int))) none).run Try.prog w = .ok (.slice A i c) w := by
  have ht : Try.prog.underlying TSE = some (.slice (Try.prog.elem TSE)) := by kernel_rfl
  have hs : ∀ w, (sizeOf (Try.prog.elem TSE)).run Try.prog w = .ok 4 w := fun _ => by kernel_rfl
  rw [run_slice_h w TSE A n c ht .i64 (i : Int) (by omega) (by omega), hs]
  cases A <;> simp [Result.andThen, sliced, Addr.add_zero']
def fromA (A : Option Addr) (c i : Nat) : Option Addr := if c = i then A else A.map (·.add (i * 4))
open Go.Lib in
theorem slice_from (A : Option Addr) (n c i : Nat) (h : i ≤ n) (w : World) : (Instr.slice TSE (.slice A n c) (some (.int .i64 (i : Int))) none none).run Try.prog w = .ok (.slice (fromA A c i) (n - i) (c - i)) w := by
  have ht : Try.prog.underlying TSE = some (.slice (Try.prog.elem TSE)) := by kernel_rfl
  have hs : ∀ w, (sizeOf (Try.prog.elem TSE)).run Try.prog w = .ok 4 w := fun _ => by kernel_rfl
  rw [run_slice_l w TSE A n c ht .i64 (i : Int) (by omega) (by omega), hs]
  unfold fromA
  simp [Result.andThen, sliced]
theorem ent_made (w : World) : (w.alloc (.cells #[] TE)).ownsRow w.heap.size TE 4 (.slice (some ⟨w.heap.size, 0, none⟩) 0 0) 0 [] :=
  ⟨rfl, .inr ⟨_, 0, #[], rfl, Nat.le_refl _, heap_alloc_new w _, Nat.le_refl _, Nat.zero_le _, rfl, rfl⟩⟩
section
variable {col : Nat → Nat} {c q cA P K g : Nat} {A : Option Addr} {l : List DE} {os : Ens} {w w1 w3 : World} {x : DE} {tx n : Int}
theorem row_stand {base : Nat} (h : coG.Own shE w base A cA l) (i m : Nat) (hm : i + m ≤ l.length) : Stand w (fromA A cA i) m (shE.fl ((l.drop i).take m)) := by
  unfold fromA
  by_cases h0 : m = 0
  · exact .inl h0
  · obtain ⟨y, hy⟩ : ∃ y, l[i]? = some y := ⟨_, List.getElem?_eq_getElem (by omega)⟩
    obtain ⟨g, rfl, _⟩ := h.at_ hy
    have hc := h.cap
    rw [if_neg (by omega)]
    refine .inr ⟨_, rfl, fun j u hu => ?_⟩
    obtain ⟨a, b, z, rfl, hb, hz, hu⟩ := shE.fl_at hu
    have hb4 : b < 4 := hb
    rw [List.getElem?_take] at hz
    split at hz
    · rw [List.getElem?_drop] at hz
      obtain ⟨g', e, _, _, h3, _⟩ := h.at_ hz
      cases e
      rw [Go.Deep.add_add, Go.WideShapes.add_plain, Nat.zero_add]
      have := h3 b u hu
      have e4 : (i + a) * shE.k + b = i * 4 + (a * shE.k + b) := by show (i + a) * 4 + b = i * 4 + (a * 4 + b); omega
      rw [e4] at this
      exact this
    · cases hz
theorem stand_to {base : Nat} (h : coG.Own shE w base A cA l) {i : Nat} (hi : i ≤ l.length) : Stand w A i (shE.fl (l.take i)) := by
  have := row_stand h 0 i (by omega)
  rw [List.drop_zero] at this
  unfold fromA at this
  split at this
  · exact this
  · cases A with
    | none => exact this
    | some a =>
      rw [Option.map_some, Nat.zero_mul, Addr.add_zero'] at this
      exact this
theorem stand_from {base : Nat} (h : coG.Own shE w base A cA l) {i : Nat} (hi : i ≤ l.length) : Stand w (fromA A cA i) (l.length - i) (shE.fl (l.drop i)) := by
  have := row_stand h i (l.length - i) (by omega)
  rw [List.take_of_length_le (by rw [List.length_drop]; omega)] at this
  exact this
theorem mrk_set {vt : List Vt} {K : Nat} {v : Vt} (hd : (vt.map (·.node)).Nodup) (hv : vt[K]? = some v) (e : v.node = n) : mrk vt n = vt.set K { v with en := true } := by
  unfold mrk
  refine List.ext_getElem? fun i => ?_
  rw [List.getElem?_map, List.getElem?_set]
  have hk := (List.getElem?_eq_some_iff.1 hv).1
  by_cases e1 : K = i
  · subst e1
    rw [if_pos rfl, if_pos hk, hv, Option.map_some, if_pos e]
  · rw [if_neg e1]
    cases hi : vt[i]? with
    | none => rfl
    | some u =>
      rw [Option.map_some, if_neg]
      intro e2
      refine e1 ?_
      have h1 : (vt.map (·.node))[K]? = some n := by rw [List.getElem?_map, hv]; simp [e]
      have h2 : (vt.map (·.node))[i]? = some n := by rw [List.getElem?_map, hi]; simp [e2]
      exact (List.getElem?_inj (by simpa using hk) hd).1 (h1.trans h2.symm)
/-- a vote's end is laid -/
theorem doc_mark (h : DocM col c w q A cA l) (hc : c ≠ 0) (hf : Fresh col w) (hx : l[P]? = some x) {gv : Nat} (hgv : x.A2 = some ⟨gv, 0, none⟩) {v : Vt} (hv : x.vt[K]? = some v) :
    Cn c col w col (w.setCell ⟨gv, K * 3 + 2, none⟩ (.bool true)) ∧ DocM col c (w.setCell ⟨gv, K * 3 + 2, none⟩ (.bool true)) q A cA (l.set P { x with vt := x.vt.set K { v with en := true } }) := by
  have hm := h.xs x (List.mem_of_getElem? hx)
  have hvv : vv2 x = some gv := by unfold vv2; rw [hgv]; rfl
  have hlt := hm.vt.lt hvv
  have tq := Ty.of_row h.row
  have hG : Chg col c w (w.setCell ⟨gv, K * 3 + 2, none⟩ (.bool true)) := (Chg.refl _ _ _).setCell (p := ⟨gv, K * 3 + 2, none⟩) (hm.cv gv hvv) _
  have hlen : (l.set P { x with vt := x.vt.set K { v with en := true } }).length = l.length := List.length_set ..
  have hsp := split_at hx
  have hpw := h.ap
  rw [hsp] at hpw
  obtain ⟨pa, pb⟩ := pw_at hpw
  have hoth : ∀ y, y ∈ l → (∀ k, vv2 y = some k → vv2 x ≠ some k) → DeM col c (w.setCell ⟨gv, K * 3 + 2, none⟩ (.bool true)) y := fun y hy hne => by
    refine (h.xs y hy).kept hG hc (Ext.refl _ _) fun k e => Below.heap_setCell _ _ _ _ fun e2 => ?_
    have e3 : k = gv := e2
    subst e3
    exact hne k e hvv
  have hv2 : vv2 { x with vt := x.vt.set K { v with en := true } } = vv2 x := by unfold vv2; simp only [List.length_set]
  refine ⟨⟨Ext.refl _ _, hf.up hG.size, hG⟩, { row := ?_, ro := ?_, xs := fun y hy => ?_, ap := ?_, cq := h.cq, co := fun k e => ?_ }⟩
  · rw [hlen]; exact h.row.of_block (Below.heap_setCell _ _ _ _ (tq.ne hlt.2.2 (by decide)))
  · have h1 : coG.Own shE (w.setCell ⟨gv, K * 3 + 2, none⟩ (.bool true)) 0 A cA l := h.ro.block fun k e => Below.heap_setCell _ _ _ _ ((h.ro.lt e).2.2.ne hlt.2.2 (by decide))
    have e5 : shE.fl (l.set P { x with vt := x.vt.set K { v with en := true } }) = shE.fl l := by
      rw [set_at hx]
      conv => rhs; rw [hsp]
      rw [Shape.fl_app, Shape.fl_app, Shape.fl_cons, Shape.fl_cons]
      congr 2
      show [_, _, _, Value.slice x.A2 (x.vt.set K { v with en := true }).length x.c2] = [_, _, _, Value.slice x.A2 x.vt.length x.c2]
      rw [List.length_set]
    unfold coG.Own at h1 ⊢
    rw [hlen, e5]
    exact h1
  · rw [set_at hx] at hy
    rcases List.mem_append.1 hy with hy | hy
    · exact hoth y (List.mem_of_mem_take hy) fun k e => pa y hy k e
    · rcases List.mem_cons.1 hy with rfl | hy
      · refine { sh := ?_, sco := hm.sco, dv := fun r hr => (hm.dv r hr).go hG hc (Ext.refl _ _), vt := ?_, cv := fun k e => hm.cv k (by rw [hv2] at e; exact e) }
        · by_cases h0 : x.rs = []
          · exact hm.sh.of_block hG.size (.inl h0)
          · exact hm.sh.of_block hG.size (.inr fun y e => hG.block _ (hm.sh.lt h0 e) (by rw [hm.sco.resolve_left h0 y e]; exact fun e => hc e.symm))
        · show coG.Own shW _ 0 x.A2 x.c2 (x.vt.set K { v with en := true })
          have h1 := hm.vt
          rw [hgv] at h1 ⊢
          exact h1.set (j := 2) (y := { v with en := true }) (u := .bool true) hv rfl (by decide)
      · exact hoth y (List.mem_of_mem_drop hy) fun k e e2 => pb y hy k e2 e
  · rw [set_at hx]
    have h3 := List.pairwise_append.1 hpw
    have h4 := List.pairwise_cons.1 h3.2.1
    refine List.pairwise_append.2 ⟨h3.1, List.pairwise_cons.2 ⟨fun y hy k e => h4.1 y hy k (by rw [hv2] at e; exact e), h4.2⟩, fun y hy z hz => ?_⟩
    rcases List.mem_cons.1 hz with rfl | hz
    · intro k e
      rw [hv2]
      exact h3.2.2 y hy x (List.mem_cons_self ..) k e
    · exact h3.2.2 y hy z (List.mem_cons_of_mem _ hz)
  · rw [hlen] at e; exact h.co k e
/-- another row of entries, of new memory, is laid -/
theorem doc_rows (h : DocM col c w q A cA l) (hc : c ≠ 0) (hf : Fresh col w) (hB : Below w.heap.size w w3) {A9 : Option Addr} {c9 : Nat} {l' : List DE} (hw : coG.Own shE w3 w.heap.size A9 c9 l') (hsub : l'.Sublist l) :
    w3.cell? ⟨q, 0, none⟩ = some (.slice A l.length cA) ∧ w3.frozen? ⟨q, 0, none⟩ = false ∧ DLv col c q (l'.map DE.e) w (w3.setCell ⟨q, 0, none⟩ (.slice A9 l'.length c9)) := by
  have h1 := h.below hB
  have hq : w3.heap[q]? = w.heap[q]? := hB.block q h.row.lt
  have tq := Ty.of_row h1.row
  have hx : Ext w col (paintB col (.slice A9 l'.length c9) c) := fun k hk => if_neg fun e => by have := (hw.lt e).1; omega
  have hf3 : Fresh (paintB col (.slice A9 l'.length c9) c) w3 := fun k hk => by
    unfold paintB
    rw [if_neg (fun e => by have := (hw.lt e).2.1; omega)]
    exact hf k (by have := hB.size; omega)
  have hC : Cn c col w (paintB col (.slice A9 l'.length c9) c) w3 := ⟨hx, hf3, Chg.of_below _ _ hB⟩
  have hG4 := hC.setCell (p := ⟨q, 0, none⟩) ((hx q h.row.lt).trans h.cq) (.slice A9 l'.length c9)
  refine ⟨(World.cell?_of_block (a := ⟨q, 0, none⟩) hq).trans h.cell.1, (World.frozen?_of_block (a := ⟨q, 0, none⟩) hq).trans h.cell.2, _, hG4, A9, c9, l', ?_, rfl⟩
  refine { row := ?_, ro := ?_, xs := fun y hy => ?_, ap := h.ap.sublist hsub, cq := (hx q h.row.lt).trans h.cq, co := fun k e => if_pos e }
  · exact (h1.row.set 0 (.slice A9 l'.length c9)).congr fun i hi => (if_pos (by omega))
  · exact (hw.block fun k e => Below.heap_setCell _ _ _ _ ((hw.lt e).2.2.ne tq (by decide))).more (Nat.zero_le _)
  · have hy' := h.xs y (hsub.subset hy)
    refine hy'.kept hG4.2.2 hc hx fun k e => ?_
    have ty := hy'.vt.lt e
    rw [Below.heap_setCell _ _ _ _ (ty.2.2.ne (Ty.of_row h.row) (by decide))]
    exact hB.block k ty.2.1
theorem rm_del (hd : DifE (l.map DE.e)) (hx : l[P]? = some x) : rmE (l.map DE.e) x.tx = (l.take P ++ l.drop (P + 1)).map DE.e := by
  have e0 : l.map DE.e = (l.take P).map DE.e ++ x.e :: (l.drop (P + 1)).map DE.e := by
    conv => lhs; rw [split_at hx]
    rw [List.map_append, List.map_cons]
  rw [List.map_append, e0]
  rw [e0] at hd
  exact rmE_at hd
theorem set_del {α : Type} {l : List α} {P : Nat} (y : α) : (l.set P y).take P ++ (l.set P y).drop (P + 1) = l.take P ++ l.drop (P + 1) := by
  rw [List.take_set_of_le (Nat.le_refl _), List.drop_set_of_lt (by omega)]
theorem del_facts (h : DocM col c w3 q (some ⟨g, 0, none⟩) cA l) (hc : c ≠ 0) (hf : Fresh col w3) (hP : P < l.length) :
    ((w3.alloc (.cells #[] TE)).cell? ⟨q, 0, none⟩ = some (.slice (some ⟨g, 0, none⟩) l.length cA) ∧ Stand (w3.alloc (.cells #[] TE)) (some ⟨g, 0, none⟩) P (shE.fl (l.take P))) ∧
    (∀ (w6 : World) A8 c8, w6.ownsRow w3.heap.size TE 4 (.slice A8 (0 + P) c8) (0 + P) ([] ++ shE.fl (l.take P)) → (w3.alloc (.cells #[] TE)).grownBy w6 (Value.slice (some ⟨w3.heap.size, 0, none⟩) 0 0).ownBlock →
      w6.cell? ⟨q, 0, none⟩ = some (.slice (some ⟨g, 0, none⟩) l.length cA) ∧ Stand w6 (fromA (some ⟨g, 0, none⟩) cA (P + 1)) (l.length - (P + 1)) (shE.fl (l.drop (P + 1))) ∧ Below w3.heap.size w3 w6 ∧ w3.heap.size ≤ w6.heap.size ∧ w6.ownsRow w3.heap.size TE 4 (.slice A8 P c8) P (shE.fl (l.take P))) ∧
    (∀ (w6 w7 : World) A8 c8 A9 c9, w6.ownsRow w3.heap.size TE 4 (.slice A8 P c8) P (shE.fl (l.take P)) → Below w3.heap.size w3 w6 → w7.ownsRow w3.heap.size TE 4 (.slice A9 (P + (l.length - (P + 1))) c9) (P + (l.length - (P + 1))) (shE.fl (l.take P) ++ shE.fl (l.drop (P + 1))) → w6.grownBy w7 (Value.slice A8 P c8).ownBlock →
      w7.cell? ⟨q, 0, none⟩ = some (.slice (some ⟨g, 0, none⟩) l.length cA) ∧ w7.frozen? ⟨q, 0, none⟩ = false ∧ DLv col c q ((l.take P ++ l.drop (P + 1)).map DE.e) w3 (w7.setCell ⟨q, 0, none⟩ (.slice A9 (P + (l.length - (P + 1))) c9))) := by
  have hB5 := al0 w3 (.cells #[] TE)
  have h5 := h.below hB5
  refine ⟨⟨h5.cell.1, stand_to h5.ro (Nat.le_of_lt hP)⟩, fun w6 A8 c8 hr hg => ?_, fun w6 w7 A8 c8 A9 c9 hr8 hB6 hr hg => ?_⟩
  · have hB6 : Below w3.heap.size w3 w6 := ⟨hg.os.trans hB5.os, hg.tape.trans hB5.tape, hg.output.trans hB5.output, Nat.le_trans hB5.size hg.size, fun k hk => (hg.block k (by have := hB5.size; omega) (by simp [Value.ownBlock]; omega)).trans (hB5.block k hk)⟩
    have hd := h.below hB6
    exact ⟨hd.cell.1, stand_from hd.ro (i := P + 1) (by omega), hB6, hB6.size, by rw [Nat.zero_add] at hr; exact hr⟩
  · have hlen : (l.take P ++ l.drop (P + 1)).length = P + (l.length - (P + 1)) := by simp; omega
    have hB7 : Below w3.heap.size w3 w7 := ⟨hg.os.trans hB6.os, hg.tape.trans hB6.tape, hg.output.trans hB6.output, Nat.le_trans hB6.size hg.size, fun k hk => (hg.block k (by have := hB6.size; omega) (fun e => by
      rcases hr8.2 with ⟨e1, _⟩ | ⟨g2, cap, cur, e1, hb, _⟩
      · rw [e1] at e; cases e
      · rw [e1] at e
        simp only [Value.ownBlock] at e
        cases e
        omega)).trans (hB6.block k hk)⟩
    have hR : coG.Own shE w7 w3.heap.size A9 c9 (l.take P ++ l.drop (P + 1)) := by
      unfold coG.Own
      rw [hlen, Shape.fl_app]
      exact hr
    have := doc_rows h hc hf hB7 hR (by
      conv => rhs; rw [← List.take_append_drop P l]
      refine List.Sublist.append (List.Sublist.refl _) ?_
      rw [List.drop_eq_getElem_cons hP]
      exact List.sublist_cons_self _ _)
    rw [hlen] at this
    exact this
set_option maxHeartbeats 4000000 in
theorem dend_at (w : World) (h : DocAt col c w q os) (hc : c ≠ 0) (hf : Fresh col w) (hok : ok os) (hn : os.length ≤ 1000) :
    Calls Try.prog 16 #[.pointer (some ⟨q, 0, none⟩), .int .u64 tx, .int .i64 n] w fun e w' => e = .returned (.tuple #[.bool (enB os tx n), .int .i64 (enE os tx n)]) ∧ DLv col c q (enS os tx n) w w' := by
  have hst := Lib.hid (fun w' hB => dlv_stay (w1 := w') h hf hB)
  obtain ⟨A, cA, l, hT, rfl⟩ := h
  rw [List.length_map] at hn
  cases hfe : fnE (l.map DE.e) tx with
  | none =>
    have e1 : enE (l.map DE.e) tx n = 7 := by unfold enE; rw [hfe]
    have e2 : enB (l.map DE.e) tx n = false := by unfold enB; rw [hfe]
    have e4 : enS (l.map DE.e) tx n = l.map DE.e := by unfold enS; rw [hfe]
    rw [e1, e2, e4]
    have hlo := Lib.hid (dlook_none w hT hn n hfe)
    clear hT hok hfe e1 e2 e4 hf
    go_enter Try.func16, Try.ntmps16
    go_wp2_with (fail)
    with_reducible refine hlo.out.mono ?_
    rintro e w' ⟨rfl, hB⟩
    have hL := Lib.hid (hst.out _ hB)
    clear hlo hst hB
    go_wp2
    go_ret2
    exact ⟨rfl, hL.out⟩
  | some x0' =>
    obtain ⟨P, x, hx, rfl, rfl, hdI⟩ := dpos hfe
    have hxo := (ok_mem hok hfe).1
    have hl6 : x.rs.length ≤ 6 := by have := hxo.sz; rw [len_de] at this; exact this
    have hv6 : x.vt.length ≤ x.rs.length := by have := vt_len hxo; rw [len_de] at this; exact this
    have hlo0 := dlook_some w hT hn n hx hdI hl6 (by omega)
    have hPl := (List.getElem?_eq_some_iff.1 hx).1
    cases hi : inS x.e.sh n with
    | false =>
      have e1 : enE (l.map DE.e) x.tx n = 18 := by unfold enE; rw [hfe]; exact if_pos hi
      have e2 : enB (l.map DE.e) x.tx n = false := by unfold enB; rw [hfe, e1]; rfl
      have e4 : enS (l.map DE.e) x.tx n = l.map DE.e := by unfold enS; rw [hfe, e1]; rfl
      rw [e1, e2, e4]
      rw [hi] at hlo0
      have hlo := Lib.hid (show Calls Try.prog 34 #[.pointer (some ⟨q, 0, none⟩), .int .u64 x.tx, .int .i64 n] w fun e w' => e = .returned (.tuple #[.int .i64 0, .int .i64 0, .int .i64 18]) ∧ Below w.heap.size w w' from hlo0)
      clear hT hok hfe e1 e2 e4 hf hi hlo0 hxo hdI hx
      go_enter Try.func16, Try.ntmps16
      go_wp2_with (fail)
      with_reducible refine hlo.out.mono ?_
      rintro e w' ⟨rfl, hB⟩
      have hL := Lib.hid (hst.out _ hB)
      clear hlo hst hB
      go_wp2
      go_ret2
      exact ⟨rfl, hL.out⟩
    | true =>
      rw [hi] at hlo0
      have hcells := Lib.hid (fun w' (hB : Below w.heap.size w w') => And.intro (hT.below hB).cell.1 ((hT.below hB).at_ hx))
      have hcap := hT.ro.cap
      obtain ⟨g, eA, -⟩ := hT.at_ hx
      subst eA
      have hPI : (P : Int) < (l.length : Int) := by omega
      have hdec := Lib.hid (fun w' (hB : Below w.heap.size w w') => decided_any w' x ((hT.below hB).xs x (List.mem_of_getElem? hx)).vt (by omega))
      have hdx : dec x.e = decide (x.vt.length = x.rs.length) := by unfold dec; rw [len_de]; rfl
      obtain ⟨I, hI⟩ : ∃ I, dvI x.vt n = I := ⟨_, rfl⟩
      rw [hI] at hlo0
      have hlo := Lib.hid (show Calls Try.prog 34 #[.pointer (some ⟨q, 0, none⟩), .int .u64 x.tx, .int .i64 n] w fun e w' => e = .returned (.tuple #[.int .i64 (P : Int), .int .i64 I, .int .i64 0]) ∧ Below w.heap.size w w' from hlo0)
      cases hdd : dec x.e with
      | false =>
        have e1 : enE (l.map DE.e) x.tx n = 19 := by unfold enE; rw [hfe]; simp only; rw [if_neg (by rw [hi]; simp), if_pos hdd]
        have e2 : enB (l.map DE.e) x.tx n = false := by unfold enB; rw [hfe, e1]; rfl
        have e4 : enS (l.map DE.e) x.tx n = l.map DE.e := by unfold enS; rw [hfe, e1]; rfl
        rw [e1, e2, e4]
        rw [hdx] at hdd
        rw [hdd] at hdec
        generalize top x.vt = TP at *
        clear hT hok hfe e1 e2 e4 hf hi hlo0 hxo hdI hx hdx hdd
        go_enter Try.func16, Try.ntmps16
        go_wp2_with (fail)
        with_reducible refine hlo.out.mono ?_
        rintro e w' ⟨rfl, hB⟩
        obtain ⟨z0, g1, e8, k0, k1, k2, k3, -⟩ := hcells.out _ hB
        cases e8
        have hd2 := Lib.hid (hdec.out _ hB)
        have hL2 := Lib.hid (fun w'' hB2 => hst.out w'' (trans0 hB hB2))
        clear hlo hst hB hcells hdec
        go_wp2_with (fail)
        with_reducible refine hd2.out.mono ?_
        rintro e w2 ⟨rfl, hB2⟩
        have hL := Lib.hid (hL2.out _ hB2)
        clear hL2 hB2 hd2
        go_wp2
        go_ret2
        exact ⟨rfl, hL.out⟩
      | true =>
        have hv := okX.full hxo hdd hi
        have hv' : hasV x.vt n = true := hv
        obtain ⟨v, hvK, hvn, hvf⟩ := posV_at hv'
        obtain rfl : I = (posV x.vt n : Nat) := by rw [← hI]; exact if_pos hv'
        have hdl : x.vt.length = x.rs.length := by rw [hdx] at hdd; exact of_decide_eq_true hdd
        have hKl := (List.getElem?_eq_some_iff.1 hvK).1
        generalize posV x.vt n = K at *
        have hKI : (K : Int) < (x.vt.length : Int) := by omega
        rw [decide_eq_true hdl] at hdec
        have hvc := Lib.hid (fun w' (hB : Below w.heap.size w w') => ((hT.below hB).xs x (List.mem_of_getElem? hx)).vote hvK)
        have hvcap := ((hT.xs x (List.mem_of_getElem? hx)).vt).cap
        obtain ⟨gv, eV, -⟩ := (hT.xs x (List.mem_of_getElem? hx)).vote hvK
        have hend : endV x.vt n = v.en := by unfold endV; rw [hvf]; rfl
        cases hen : v.en with
        | true =>
          have e1 : enE (l.map DE.e) x.tx n = 8 := by unfold enE; rw [hfe]; simp only; rw [if_neg (by rw [hi]; simp), if_neg (by rw [hdd]; simp), if_pos (show endV x.e.vt n = true from hend.trans hen)]
          have e2 : enB (l.map DE.e) x.tx n = false := by unfold enB; rw [hfe, e1]; rfl
          have e4 : enS (l.map DE.e) x.tx n = l.map DE.e := by unfold enS; rw [hfe, e1]; rfl
          rw [e1, e2, e4]
          rw [hen] at hvc
          obtain ⟨xt, xl, rs, A1, c1', vt, A2, c2'⟩ := x
          simp only at eV hdec hcells hvc hlo hvcap hKI hdl
          subst eV
          generalize top vt = TP at *
          clear hdl
          clear hT hok hfe e1 e2 e4 hf hi hlo0 hxo hdI hx hdx hdd hv hv' hvK hvf hen hend hI
          go_enter Try.func16, Try.ntmps16
          go_wp2_with (fail)
          with_reducible refine hlo.out.mono ?_
          rintro e w' ⟨rfl, hB⟩
          obtain ⟨z0, g1, e8, k0, k1, k2, k3, -⟩ := hcells.out _ hB
          cases e8
          have hd2 := Lib.hid (hdec.out _ hB)
          have hL2 := Lib.hid (fun w'' hB2 => hst.out w'' (trans0 hB hB2))
          have hs2 := Lib.hid (fun w'' hB2 => And.intro (hcells.out w'' (trans0 hB hB2)) (hvc.out w'' (trans0 hB hB2)))
          clear hlo hst hB hcells hdec hvc
          go_wp2_with (fail)
          with_reducible refine hd2.out.mono ?_
          rintro e w2 ⟨rfl, hB2⟩
          have hL := Lib.hid (hL2.out _ hB2)
          clear z0 k0 k1 k2 k3
          obtain ⟨⟨z0, g1, e8, k0, k1, k2, k3, -⟩, g2, e9, -, -, v2, -⟩ := hs2.out _ hB2
          cases e8
          cases e9
          clear hL2 hB2 hd2 hs2
          go_wp2
          go_ret2
          exact ⟨rfl, hL.out⟩
        | false =>
          have e1 : enE (l.map DE.e) x.tx n = 0 := by unfold enE; rw [hfe]; simp only; rw [if_neg (by rw [hi]; simp), if_neg (by rw [hdd]; simp), if_neg (show ¬ endV x.e.vt n = true by show ¬ endV x.vt n = true; rw [hend, hen]; simp)]
          have hms : mrk x.vt n = x.vt.set K { v with en := true } := mrk_set hxo.vd hvK hvn
          have hal : alle (enX x.e n) = (x.vt.set K { v with en := true }).all (·.en) := by
            show (mrk x.vt n).all _ = _
            rw [hms]
          have e2 : enB (l.map DE.e) x.tx n = (x.vt.set K { v with en := true }).all (·.en) := by unfold enB; rw [hfe, e1]; simp only; rw [hal]; rfl
          have e4 : enS (l.map DE.e) x.tx n = if (x.vt.set K { v with en := true }).all (·.en) = true then (l.take P ++ l.drop (P + 1)).map DE.e else (l.set P { x with vt := x.vt.set K { v with en := true } }).map DE.e := by
            unfold enS; rw [hfe, e1]
            simp only
            rw [hal]
            simp only [if_true]
            split
            · exact rm_del hok.df hx
            · have := upd_set (x' := { x with vt := x.vt.set K { v with en := true } }) hok.df hx rfl
              rw [← this]
              congr 1
              show (⟨x.tx, x.low, x.rs.map SR.s, mrk x.vt n⟩ : En) = ⟨x.tx, x.low, x.rs.map SR.s, x.vt.set K { v with en := true }⟩
              rw [hms]
          rw [e1, e2, e4]
          rw [hen] at hvc
          obtain ⟨iE, hiE, hzE0, hzE1, hzE2⟩ := info_parts infoE
          obtain ⟨vt1, hvt1⟩ : ∃ v1, x.vt.set K { v with en := true } = v1 := ⟨_, rfl⟩
          have hl1 : vt1.length = x.vt.length := by rw [← hvt1]; simp
          rw [hvt1]
          have hmk := Lib.hid (fun w' w3 (hB : Below w.heap.size w w') (hw3 : w'.setCell ⟨gv, K * 3 + 2, none⟩ (.bool true) = w3) => (by
            obtain ⟨h1, h2⟩ := doc_mark (hT.below hB) hc (hf.up hB.size) hx eV hvK
            rw [hw3] at h1
            rw [hw3, hvt1] at h2
            have hx' : (l.set P { x with vt := vt1 })[P]? = some { x with vt := vt1 } := by rw [List.getElem?_set, if_pos rfl, if_pos hPl]
            have hl5 : (l.set P { x with vt := vt1 }).length = l.length := List.length_set ..
            have kc := h2.cell.1
            rw [hl5] at kc
            obtain ⟨g5, e5, k0, k1, k2, k3, -⟩ := h2.at_ hx'
            cases e5
            have hm3 := h2.xs _ (List.mem_of_getElem? hx')
            have hD : DLv col c q ((l.set P { x with vt := vt1 }).map DE.e) w w3 := ⟨col, (Cn.below hf hB).trans h1, _, _, _, h2, rfl⟩
            have hdl := del_facts h2 hc h1.2.1 (P := P) (by rw [hl5]; exact hPl)
            rw [set_del, hl5] at hdl
            have hcomp : ∀ os' w7, DLv col c q os' w3 w7 → DLv col c q os' w w7 := fun os' w7 ⟨col', hC, hT⟩ => ⟨col', ((Cn.below hf hB).trans h1).trans hC, hT⟩
            simp only [hl1] at k3
            exact ⟨kc, k3, fun j u hu => (by obtain ⟨g7, e7, -, -, s2, -⟩ := hm3.vote hu; have e7' : x.A2 = some ⟨g7, 0, none⟩ := e7; rw [eV] at e7'; cases e7'; exact s2), hD, hdl, hcomp⟩ :
              w3.cell? ⟨q, 0, none⟩ = some (.slice (some ⟨g, 0, none⟩) l.length cA) ∧ w3.cell? ⟨g, P * 4 + 3, none⟩ = some (.slice x.A2 x.vt.length x.c2) ∧ (∀ (j : Nat) u, vt1[j]? = some u → w3.cell? ⟨gv, j * 3 + 2, none⟩ = some (.bool u.en)) ∧ DLv col c q ((l.set P { x with vt := vt1 }).map DE.e) w w3 ∧
              (((w3.alloc (.cells #[] TE)).cell? ⟨q, 0, none⟩ = some (.slice (some ⟨g, 0, none⟩) l.length cA) ∧ Stand (w3.alloc (.cells #[] TE)) (some ⟨g, 0, none⟩) P (shE.fl ((l.set P { x with vt := vt1 }).take P))) ∧
              (∀ (w6 : World) A8 c8, w6.ownsRow w3.heap.size TE 4 (.slice A8 (0 + P) c8) (0 + P) ([] ++ shE.fl ((l.set P { x with vt := vt1 }).take P)) → (w3.alloc (.cells #[] TE)).grownBy w6 (Value.slice (some ⟨w3.heap.size, 0, none⟩) 0 0).ownBlock →
                w6.cell? ⟨q, 0, none⟩ = some (.slice (some ⟨g, 0, none⟩) l.length cA) ∧ Stand w6 (fromA (some ⟨g, 0, none⟩) cA (P + 1)) (l.length - (P + 1)) (shE.fl ((l.set P { x with vt := vt1 }).drop (P + 1))) ∧ Below w3.heap.size w3 w6 ∧ w3.heap.size ≤ w6.heap.size ∧ w6.ownsRow w3.heap.size TE 4 (.slice A8 P c8) P (shE.fl ((l.set P { x with vt := vt1 }).take P))) ∧
              (∀ (w6 w7 : World) A8 c8 A9 c9, w6.ownsRow w3.heap.size TE 4 (.slice A8 P c8) P (shE.fl ((l.set P { x with vt := vt1 }).take P)) → Below w3.heap.size w3 w6 → w7.ownsRow w3.heap.size TE 4 (.slice A9 (P + (l.length - (P + 1))) c9) (P + (l.length - (P + 1))) (shE.fl ((l.set P { x with vt := vt1 }).take P) ++ shE.fl ((l.set P { x with vt := vt1 }).drop (P + 1))) → w6.grownBy w7 (Value.slice A8 P c8).ownBlock →
                w7.cell? ⟨q, 0, none⟩ = some (.slice (some ⟨g, 0, none⟩) l.length cA) ∧ w7.frozen? ⟨q, 0, none⟩ = false ∧ DLv col c q ((l.take P ++ l.drop (P + 1)).map DE.e) w3 (w7.setCell ⟨q, 0, none⟩ (.slice A9 (P + (l.length - (P + 1))) c9)))) ∧
              ∀ os' w7, DLv col c q os' w3 w7 → DLv col c q os' w w7))
          obtain ⟨BB, hBB⟩ : ∃ b, vt1.all (·.en) = b := ⟨_, rfl⟩
          obtain ⟨L1, hL1⟩ : ∃ L, (l.take P ++ l.drop (P + 1)).map DE.e = L := ⟨_, rfl⟩
          obtain ⟨L2, hL2⟩ : ∃ L, (l.set P { x with vt := vt1 }).map DE.e = L := ⟨_, rfl⟩
          rw [hL1, hL2] at hmk
          rw [hL1, hL2, hBB]
          replace hBB := Lib.hid hBB
          obtain ⟨F1, hF1⟩ : ∃ F, shE.fl ((l.set P { x with vt := vt1 }).take P) = F := ⟨_, rfl⟩
          obtain ⟨F2, hF2⟩ : ∃ F, shE.fl ((l.set P { x with vt := vt1 }).drop (P + 1)) = F := ⟨_, rfl⟩
          have hFl : Hid (F1.length = P * 4 ∧ F2.length = (l.length - (P + 1)) * 4 ∧ (∀ u ∈ F1, u.oneCell' = true) ∧ ∀ u ∈ F2, u.oneCell' = true) := Lib.hid ⟨by rw [← hF1, Shape.fl_len, List.length_take, List.length_set, Nat.min_eq_left (Nat.le_of_lt hPl)], by rw [← hF2, Shape.fl_len, List.length_drop, List.length_set], by rw [← hF1]; exact Shape.fl_all _ _, by rw [← hF2]; exact Shape.fl_all _ _⟩
          rw [hF1, hF2] at hmk
          have hslt := slice_to (some ⟨g, 0, none⟩) l.length cA P (by omega)
          have hslf := slice_from (some ⟨g, 0, none⟩) l.length cA (P + 1) (by omega)
          have eP : ((P + 1 : Nat) : Int) = (P : Int) + 1 := by omega
          rw [eP] at hslf
          have ew : IntKind.i64.wrap ((P : Int) + 1) = (P : Int) + 1 := wrap_in _ (by omega) (by omega)
          have hv6' : x.vt.length ≤ 6 := by omega
          obtain ⟨xt, xl, rs, A1, c1', vt, A2, c2'⟩ := x
          simp only at eV hdec hcells hvc hlo hvcap hKI hmk hl1 hv6'
          subst eV
          generalize top vt = TP at *
          generalize hnr : l.length - (P + 1) = N2 at *
          generalize fromA (some ⟨g, 0, none⟩) cA (P + 1) = A22 at *
          have hN2 : P + N2 ≤ 1000 := by omega
          clear hT hok hfe e1 e2 e4 hf hi hlo0 hxo hdI hx hdx hdd hv hv' hvK hvf hen hend hI hms hal hvt1 hst hl6 hv6 hL1 hL2 hF1 hF2 hdl eP hKl hvn hnr
          replace hvcap := Lib.hid hvcap
          replace hl1 := Lib.hid hl1
          have hs1 := hslt
          have hs2 := hslf
          clear hslt hslf
          go_enter Try.func16, Try.ntmps16
          go_wp2_with (fail)
          with_reducible refine hlo.out.mono ?_
          rintro e w' ⟨rfl, hB⟩
          obtain ⟨z0, g1, e8, k0, k1, k2, k3, -⟩ := hcells.out _ hB
          cases e8
          have hd2 := Lib.hid (hdec.out _ hB)
          replace hB := Lib.hid hB
          clear hlo hdec
          go_wp2_with (fail)
          with_reducible refine hd2.out.mono ?_
          rintro e w2 ⟨rfl, hB2⟩
          have hBB2 := trans0 hB.out hB2
          clear z0 k0 k1 k2 k3
          obtain ⟨z0, g1, e8, -, -, -, k3, -⟩ := hcells.out _ hBB2
          obtain ⟨g2, e9, -, -, v2, vf⟩ := hvc.out _ hBB2
          cases e8
          cases e9
          have vf2 := vf (K * 3 + 2)
          obtain ⟨W3, hW3⟩ : ∃ W3, w2.setCell ⟨gv, K * 3 + 2, none⟩ (.bool true) = W3 := ⟨_, rfl⟩
          obtain ⟨y0, y3, hvs, hD2, ⟨hd5, hd6, hd7⟩, hcomp⟩ := hmk.out w2 W3 hBB2 hW3
          replace hvs := Lib.hid hvs
          replace hD2 := Lib.hid hD2
          replace hd5 := Lib.hid hd5
          replace hd6 := Lib.hid hd6
          replace hd7 := Lib.hid hd7
          replace hcomp := Lib.hid hcomp
          clear hB hB2 hBB2 hd2 hcells hvc hmk vf
          go_upto_region 10 with (fail)
          clear hW3 z0 k3 v2 vf2
          go_wp2
          go_loopw [13] (fun i wr => ∃ j : Nat, j ≤ vt.length ∧ i = .int .i64 j ∧ wr = W3 ∧ Hid ((vt1.take j).all (·.en) = true)) (fun i _ => vt.length - (intOf i).toNat)
          case atStart => exact ⟨0, by omega, rfl, rfl, Lib.hid rfl⟩
          case round =>
            obtain ⟨j, hj, rfl, rfl, hX⟩ := hrel
            have hvc1 := hvcap.out
            by_cases hlt : j < vt.length
            · have hjI : (j : Int) < (vt.length : Int) := by omega
              obtain ⟨u, hu⟩ : ∃ u, vt1[j]? = some u := ⟨_, List.getElem?_eq_getElem (by rw [hl1.out]; exact hlt)⟩
              have s2 := hvs.out j u hu
              cases hue : u.en with
              | false =>
                rw [hue] at s2
                obtain rfl : BB = false := by
                  rw [← hBB.out, List.all_eq_false]
                  exact ⟨u, List.mem_of_getElem? hu, by rw [hue]; simp⟩
                clear hd5 hd6 hd7 hcomp hX hBB hvs hu hue hFl
                go_wp2
                go_ret2
                exact ⟨rfl, hD2.out⟩
              | true =>
                rw [hue] at s2
                have hnx : Hid ((vt1.take (j + 1)).all (·.en) = true) := Lib.hid (by
                  have hj1 := (List.getElem?_eq_some_iff.1 hu).1
                  rw [List.take_succ_eq_append_getElem hj1, (List.getElem?_eq_some_iff.1 hu).2, List.all_append, hX.out]
                  simp [hue])
                clear hX hu hue
                go_wp2
                go_roundw
                case rel => exact ⟨j + 1, by omega, by go_num, trivial, hnx⟩
                case measure => simp [intOf]; omega
            · obtain rfl : j = vt.length := by omega
              have hjI : ¬ (vt.length : Int) < (vt.length : Int) := by omega
              obtain rfl : BB = true := by
                rw [← hBB.out]
                have := hX.out
                rw [List.take_of_length_le (by rw [hl1.out]; exact Nat.le_refl _)] at this
                exact this
              clear hX hBB hvs hD2 hvc1
              have hm5 := Lib.hid (ent_made wr)
              obtain ⟨m0, hst5⟩ := hd5.out
              replace hst5 := Lib.hid hst5
              have hlt5 := Lib.hid (show 0 + P ≤ maxLen ∧ (0 + P) * 64 ≤ 140737488355328 ∧ wr.heap.size ≤ (wr.alloc (.cells #[] TE)).heap.size ∧ P + N2 ≤ maxLen ∧ (P + N2) * 64 ≤ 140737488355328 from ⟨by unfold maxLen; omega, by omega, by simp, by unfold maxLen; omega, by omega⟩)
              clear hd5
              go_upto_region 16 with (at_builtin; refine wpList_gen rfl (.tmp 88) (.tmp 94) TSE rfl wr.heap.size TE iE _ 4 64 Try.underlying26 hiE hzE0 hzE1 hzE2 rfl (by decide) _ 0 [] (by rfl) hm5.out (some ⟨g, 0, none⟩) P cA F1 (by rfl) hFl.out.1 hst5.out hFl.out.2.2.1 hlt5.out.1 hlt5.out.2.1 hlt5.out.2.2.1 ?_; intro A8 c8 w6 hr8 hg8 hat8; obtain ⟨n0, hst6, hB6, hs6, hr6⟩ := hd6.out w6 A8 c8 hr8 hg8; clear hr8; have hr8 := hr6; clear hr6; replace hr8 := Lib.hid hr8; replace hB6 := Lib.hid hB6; replace hst6 := Lib.hid hst6; clear hg8 hat8 hd6 hm5 hst5 y0 y3 m0 hs1)
              go_wp2_with (at_builtin; refine wpList_gen rfl (.tmp 97) (.tmp 104) TSE rfl wr.heap.size TE iE _ 4 64 Try.underlying26 hiE hzE0 hzE1 hzE2 rfl (by decide) _ P F1 (by rfl) hr8.out A22 N2 (cA - (P + 1)) F2 (by rfl) hFl.out.2.1 hst6.out hFl.out.2.2.2 hlt5.out.2.2.2.1 hlt5.out.2.2.2.2 hs6 ?_; intro A9 c9 w7 hr9 hg9 hat9; obtain ⟨z1, z2, hL⟩ := hd7.out w6 w7 A8 c8 A9 c9 hr8.out hB6.out hr9 hg9; have hLL := Lib.hid (hcomp.out _ _ hL); clear hr9 hg9 hat9 hd7 hr8 hB6 hL hst6 n0)
              go_ret2
              exact ⟨rfl, hLL.out⟩
end
end Go.Proofs.Ytafocefbpkcoaaa.coDe
