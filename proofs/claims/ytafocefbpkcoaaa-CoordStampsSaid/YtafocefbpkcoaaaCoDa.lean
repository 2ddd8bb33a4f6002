/- The document's Start, said of its table. -/
import Derived.Test.YtafocefbpkcoaaaCoDs
set_option linter.unusedVariables false
set_option linter.unusedSimpArgs false
set_option maxRecDepth 100000
namespace Go.Proofs.Ytafocefbpkcoaaa.coDa
open Go.ChangeShapes Go.WideShapes Go.ChangeAt Go.RowKit Go.Deep
open opG opV chnM gen chnA chnR chnE ordA ordC coG coO coM coP coL coK coN coD coDf coDs

section
variable {col : Nat → Nat} {c q cA : Nat} {A : Option Addr} {l : List DE} {os : Ens} {w w1 X w9 : World} {tx low : Int}
theorem map_s_vs' {rs rs' : List SR} (h : rs'.map SR.s = rs.map SR.s) {r : SR} (hr : r ∈ rs') : ∃ r0 ∈ rs, r0.vs = r.vs := by
  have h1 : r.s ∈ rs.map SR.s := by rw [← h]; exact List.mem_map.2 ⟨r, hr, rfl⟩
  obtain ⟨r0, h2, h3⟩ := List.mem_map.1 h1
  exact ⟨r0, h2, congrArg Sh.vs h3⟩
theorem doc_add (h : DocM col c w q A cA l) (hc : c ≠ 0) (hf : Fresh col w) {rs rs' : List SR} {bx c1 : Nat} {A1 : Option Addr} (hD : BD w tx low rs rs.length bx A1 c1 rs' X) (hsm : ∀ r ∈ rs, r.vs.length * 64 ≤ 140737488355328) {A9 : Option Addr} {c9 : Nat}
    (hB : Below X.heap.size X w1) (ho : w9.ownsRow 0 TE 4 (.slice A9 (l.length + 1) c9) (l.length + 1) (shE.fl l ++ [.int .u64 tx, .int .u64 low, .slice A1 rs'.length c1, .slice none 0 0])) (hg : w1.grownBy w9 (Value.slice A l.length cA).ownBlock) (hat : (Value.slice A9 (l.length + 1) c9).ownBlock = (Value.slice A l.length cA).ownBlock ∨ (Value.slice A9 (l.length + 1) c9).ownBlock = some w1.heap.size) :
    w9.cell? ⟨q, 0, none⟩ = some (.slice A l.length cA) ∧ w9.frozen? ⟨q, 0, none⟩ = false ∧ DLv col c q (l.map DE.e ++ [⟨tx, low, rs.map SR.s, []⟩]) w (w9.setCell ⟨q, 0, none⟩ (.slice A9 (l.length + 1) c9)) := by
  have hB1 : Below w.heap.size w w1 := trans0 hD.bel hB
  have h1 := h.below hB1
  have hD1 := hD.below hB
  have hf1 : Fresh col w1 := hf.up hB1.size
  have hes : rs'.map SR.s = rs.map SR.s := by rw [hD.es, List.take_length]
  obtain ⟨hC, hk⟩ := app_col (v' := .slice A9 (l.length + 1) c9) hf1 h1.co hg (fun k e => by
    rcases hat with h2 | h2
    · rw [h2] at e; have := (h1.ro.lt e).2.1; have := hg.size; omega
    · rw [h2] at e
      rcases ho.2 with ⟨e3, _⟩ | ⟨g3, cap, cur, e3, _, hb3, _⟩
      · rw [e3] at h2; cases h2
      · rw [e3] at h2
        simp only [Value.ownBlock] at h2
        have e5 := Option.some.inj e
        have e6 := Option.some.inj h2
        have := (Array.getElem?_eq_some_iff.1 hb3).1
        omega) hat
  have hx1 := hC.1
  have tq := Ty.of_row h1.row
  have hro := fun k (e : (Value.slice A l.length cA).ownBlock = some k) => h1.ro.lt e
  have hgQ : w9.heap[q]? = w1.heap[q]? := hg.block q tq.lt (fun e => (hro q e.symm).2.2.ne tq (by decide) rfl)
  have hr9 := h1.row.of_block hgQ
  have tq9 := Ty.of_row hr9
  have hG4 := hC.setCell (p := ⟨q, 0, none⟩) ((hx1 q tq.lt).trans h1.cq) (.slice A9 (l.length + 1) c9)
  have hown9 : coG.Own shE w9 0 A9 c9 (l ++ [nx tx low rs' A1 c1]) := coG.Own.of_app1 (x := nx tx low rs' A1 c1) ho
  have hlen : (l ++ [nx tx low rs' A1 c1]).length = l.length + 1 := by simp
  have hkeep : ∀ k t, Ty w1 k t → t ≠ TE → t ≠ TQ → (w9.setCell ⟨q, 0, none⟩ (.slice A9 (l.length + 1) c9)).heap[k]? = w1.heap[k]? := fun k t ht n1 n2 => by
    rw [Below.heap_setCell _ _ _ _ (ht.ne tq n2)]
    exact hg.block k ht.lt (fun e => ht.ne (hro k e.symm).2.2 n1 rfl)
  refine ⟨(World.cell?_of_block (a := ⟨q, 0, none⟩) hgQ).trans h1.cell.1, (World.frozen?_of_block (a := ⟨q, 0, none⟩) hgQ).trans h1.cell.2, _, (Cn.below hf hB1).trans hG4, A9, c9, l ++ [nx tx low rs' A1 c1], ?_, ?_⟩
  · refine { row := ?_, ro := ?_, xs := fun y hy => ?_, ap := ?_, cq := (hx1 q tq.lt).trans h1.cq, co := fun k e => hk k (by rw [hlen] at e; exact e) }
    · rw [hlen]
      exact (hr9.set 0 _).congr fun i hi => by obtain rfl : i = 0 := by omega
                                               rfl
    · exact hown9.block fun k e => Below.heap_setCell _ _ _ _ ((hown9.lt e).2.2.ne tq9 (by decide))
    · rcases List.mem_append.1 hy with hy | hy
      · have hy' := h1.xs y hy
        exact hy'.kept hG4.2.2 hc hx1 fun k e => hkeep k _ (hy'.vt.lt e).2.2 (by decide) (by decide)
      · rw [List.mem_singleton.1 hy]
        have hsh : coG.Own shD (w9.setCell ⟨q, 0, none⟩ (.slice A9 (l.length + 1) c9)) w.heap.size A1 c1 rs' := hD1.ro.block fun k e => hkeep k _ (hD1.ro.lt e).2.2 (by decide) (by decide)
        have hnew : ∀ k, w.heap.size ≤ k → (Value.slice A9 (l.length + 1) c9).ownBlock ≠ some k → paintB col (.slice A9 (l.length + 1) c9) c k = 0 := fun k hk hne => by
          unfold paintB
          rw [if_neg hne]
          exact hf k hk
        have hne9 : ∀ k t, Ty (w9.setCell ⟨q, 0, none⟩ (.slice A9 (l.length + 1) c9)) k t → t ≠ TE → (Value.slice A9 (l.length + 1) c9).ownBlock ≠ some k := fun k t ht n1 e => by
          have h9 := hown9.lt (k := k) (by rw [hlen]; exact e)
          have hk9 : (w9.setCell ⟨q, 0, none⟩ (.slice A9 (l.length + 1) c9)).heap[k]? = w9.heap[k]? := Below.heap_setCell _ _ _ _ (h9.2.2.ne tq9 (by decide))
          have : Ty (w9.setCell ⟨q, 0, none⟩ (.slice A9 (l.length + 1) c9)) k TE := by obtain ⟨cur, e2⟩ := h9.2.2; exact ⟨cur, hk9.trans e2⟩
          exact ht.ne this n1 rfl
        refine { sh := hsh.rd, sco := ?_, dv := fun r hr => ?_, vt := coG.Own.nil_ _ _ _, cv := fun k e => by cases e }
        · by_cases h0 : rs' = []
          · exact .inl h0
          · refine .inr fun y e => ?_
            obtain ⟨g, e2, hb, _⟩ := hsh.at_ (i := 0) (List.getElem?_eq_getElem (List.length_pos_iff.2 h0))
            have e' : A1 = some y := e
            rw [e2] at e'; cases e'
            have hty := (hsh.lt (k := g) (by rw [e2]; rfl)).2.2
            exact hnew g hb (hne9 g _ hty (by decide))
        · have hgv := hD1.gv r hr
          have hgv2 : GV (w9.setCell ⟨q, 0, none⟩ (.slice A9 (l.length + 1) c9)) w.heap.size r.A r.c r.vs := hgv.block fun k e => hkeep k _ (coL.Ty.of_gv hgv e) (by decide) (by decide)
          obtain ⟨r0, hr0, er⟩ := map_s_vs' hes hr
          have hd := DV.of_gv hgv2 (by rw [← er]; exact hsm r0 hr0) hf
          refine ⟨hd.hv, ?_⟩
          by_cases h0 : r.vs = []
          · exact .inl h0
          · refine .inr fun y e => ?_
            have hob : (Value.slice r.A r.vs.length r.c).ownBlock = some y.block := by rw [e]; rfl
            exact hnew y.block (World.ownsRow.lt hgv2 y.block hob).1 (hne9 _ _ (coL.Ty.of_gv hgv2 hob) (by decide))
    · refine List.pairwise_append.2 ⟨h1.ap, List.pairwise_singleton _ _, fun a ha b hb k e e2 => ?_⟩
      rw [List.mem_singleton.1 hb] at e2
      cases e2
  · rw [List.map_append, ← hes]; rfl
theorem dstart_at (w : World) (h : DocAt col c w q os) (hc : c ≠ 0) (hf : Fresh col w) (hn : os.length ≤ 1000) (Ar : Option Addr) (cr : Nat) (rs : List SR) (hr : Rd shD w Ar cr rs) (hl : rs.length ≤ 6) (hk : ∀ r ∈ rs, kSh w r) :
    Calls Try.prog 11 #[.pointer (some ⟨q, 0, none⟩), .int .u64 tx, .int .u64 low, .slice Ar rs.length cr] w fun e w' => e = .returned (.int .i64 (stE os tx (rs.map SR.s))) ∧ DLv col c q (stS os tx low (rs.map SR.s)) w w' := by
  have hst := Lib.hid (fun w' hB => dlv_stay (w1 := w') h hf hB)
  by_cases h0 : rs = []
  · subst h0
    have e1 : stE os tx ([].map SR.s) = 1 := if_pos rfl
    have e2 : stS os tx low ([].map SR.s) = os := if_neg (by rw [e1]; decide)
    rw [e1, e2]
    have hfin := Lib.hid (hst.out w (Below.refl _ _))
    clear h hst hr hk
    simp only [List.length_nil]
    go_enter Try.func11, Try.ntmps11
    go_wp2
    go_ret
    exact ⟨rfl, hfin.out⟩
  · obtain ⟨A, cA, l, hT, rfl⟩ := h
    rw [List.length_map] at hn
    have hlI : ((rs.length : Int) == 0) = false := by
      have := List.length_pos_iff.2 h0
      rw [beq_eq_false_iff_ne]; omega
    cases hfe : fnE (l.map DE.e) tx with
    | some x =>
      have e1 : stE (l.map DE.e) tx (rs.map SR.s) = 8 := by unfold stE; rw [if_neg (by simpa using h0), if_pos (by rw [hfe]; rfl)]
      have e2 : stS (l.map DE.e) tx low (rs.map SR.s) = l.map DE.e := if_neg (by rw [e1]; decide)
      rw [e1, e2]
      have hfin := Lib.hid (hst.out w (Below.refl _ _))
      have hfi := dfind_at w hT hn tx
      obtain ⟨P, hP⟩ : ∃ P : Nat, dfI (l.map DE.e) tx = (P : Int) := ⟨_, by unfold dfI; rw [hfe]⟩
      rw [hP] at hfi
      replace hfi := Lib.hid hfi
      have hPI : (0 : Int) ≤ (P : Int) := by omega
      clear hT hst hr hk e1 e2 hfe hP
      go_enter Try.func11, Try.ntmps11
      go_wp2_with (fail)
      with_reducible refine hfi.out.mono ?_
      rintro e w' ⟨rfl, rfl⟩
      go_wp2
      go_ret
      exact ⟨rfl, hfin.out⟩
    | none =>
      have hnds : nds (rs.map SR.s) = rs.map (·.node) := by unfold nds SR.s; simp
      have hsE : stE (l.map DE.e) tx (rs.map SR.s) = if (rs.map (·.node)).Nodup then 0 else 3 := by unfold stE; rw [if_neg (by simpa using h0), hfe, ← hnds]; rfl
      refine dstart_dev w hT hn Ar cr rs hr hl hk h0 hfe _ (fun hd w' hB => ?_) fun hd bx A1 c1 rs' X hD => ?_
      · have e2 : stS (l.map DE.e) tx low (rs.map SR.s) = l.map DE.e := if_neg (by rw [hsE, if_neg hd]; decide)
        rw [hsE, if_neg hd, e2]
        exact ⟨rfl, hst.out w' hB⟩
      · have e2 : stS (l.map DE.e) tx low (rs.map SR.s) = l.map DE.e ++ [⟨tx, low, rs.map SR.s, []⟩] := if_pos (by rw [hsE, if_pos hd])
        have hT1 := hT.below hD.bel
        have hBd := (below_drew X).alloc (Nat.le_refl _) (.cells #[.int .u64 tx, .int .u64 low, .slice A1 rs'.length c1, .slice none 0 0] TE)
        refine ⟨A, hT1.cell.1, hT1.ro.below hBd, fun w9 A9 c9 ho hg hat => ?_⟩
        obtain ⟨z0, z1, hL⟩ := doc_add hT hc hf hD (fun r hr => (hk r hr).2.1.sm) hBd ho hg hat
        rw [hsE, if_pos hd, e2]
        exact ⟨z0, z1, rfl, hL⟩
end
end Go.Proofs.Ytafocefbpkcoaaa.coDa
