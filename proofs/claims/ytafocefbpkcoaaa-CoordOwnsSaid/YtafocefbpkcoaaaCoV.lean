/- The program's Start and Vote. -/
import Derived.Test.YtafocefbpkcoaaaCoB
import Derived.Test.YtafocefbpkcoaaaCoK
set_option linter.unusedVariables false
set_option linter.unusedSimpArgs false
set_option maxRecDepth 100000
namespace Go.Proofs.Ytafocefbpkcoaaa.coV
open Go.ChangeShapes Go.WideShapes Go.ChangeAt Go.RowKit Go.Deep
open opG opV chnM gen chnA chnR chnE ordA ordC coG coO coM coP coL coN coB coK

section
variable {col : Nat → Nat} {c t mb : Nat} {D : DM} {l : List Tx} {os : Ens} {w w1 w2 : World}
theorem map_s_vs {rs rs' : List SR} (h : rs'.map SR.s = rs.map SR.s) {r : SR} (hr : r ∈ rs') : ∃ r0 ∈ rs, r0.vs = r.vs := by
  have h1 : r.s ∈ rs.map SR.s := by rw [← h]; exact List.mem_map.2 ⟨r, hr, rfl⟩
  obtain ⟨r0, h2, h3⟩ := List.mem_map.1 h1
  exact ⟨r0, h2, congrArg Sh.vs h3⟩
theorem map_s_ns {rs rs' : List SR} (h : rs'.map SR.s = rs.map SR.s) : rs'.map (·.node) = rs.map (·.node) := by
  have := congrArg (List.map Sh.node) h
  rw [List.map_map, List.map_map] at this
  exact this
def colS (col : Nat → Nat) (a b g c k : Nat) : Nat := if k = a ∨ k = b ∨ k = g then c else col k
/-- A transaction that was begun is taken in. -/
theorem tab_add {low : Int} {rs rs' : List SR} {A : Option Addr} {gc : Nat} {D1 D2 : DM} {tx : Int} (h : TabM col c w t mb D l) (hc : c ≠ 0) (hf : Fresh col w) (hB : BS w low rs rs.length rs.length A gc rs' D1 w1) (hne : rs ≠ []) (hsm : ∀ r ∈ rs, r.vs.length * 64 ≤ 140737488355328)
    (hno : fnE (l.map Tx.e) tx = none) (hm : w2.ownsMap Try.prog 29 hV mb (l.length + 1) D2) (hr : CR .u64 (l.map (fun x => (x.tx, .pointer (some ⟨x.p, 0, none⟩))) ++ [(tx, .pointer (some ⟨w.heap.size + 1, 0, none⟩))]) D2) (hg : w1.grownBy w2 (some mb)) :
    Lv col c t ((l.map Tx.e) ++ [⟨tx, low, rs.map SR.s, []⟩]) w w2 := by
  have hes : rs'.map SR.s = rs.map SR.s := by rw [hB.es, List.take_length]
  have hln : rs'.length = rs.length := by have := congrArg List.length hes; simpa using this
  have hpos : 0 < rs'.length := by rw [hln]; exact List.length_pos_iff.2 hne
  obtain ⟨r0, hr0⟩ : ∃ r0, rs'[0]? = some r0 := ⟨_, List.getElem?_eq_getElem hpos⟩
  have hx0 : (sdl [] rs')[0]? = some ⟨r0, hasV [] r0.node, endV [] r0.node⟩ := by unfold sdl; rw [List.getElem?_map, hr0]; rfl
  obtain ⟨g, rfl, hg0, hg1, _⟩ := hB.sd.at_ hx0
  have hsl := hB.sd.lt (k := g) rfl
  have htm : t ≠ mb := (Ty.of_row h.row).nmap h.mp
  have hlm := h.mp.lt
  have hsz1 := hB.bel.size
  have hsz2 := hg.size
  have hp1 : w2.heap[w.heap.size + 1]? = w1.heap[w.heap.size + 1]? := hg.block _ hB.row.lt (by simp; omega)
  have hg2 : w2.heap[g]? = w1.heap[g]? := hg.block _ hsl.2.1 (by simp; omega)
  have hm2 : w2.heap[w.heap.size]? = w1.heap[w.heap.size]? := hg.block _ hB.mp.lt (by simp; omega)
  have hlp := hB.row.lt
  have hlmp := hB.mp.lt
  have hold : ∀ k, k < w.heap.size → k ≠ mb → w2.heap[k]? = w.heap[k]? := fun k hk hn => (hg.block k (by omega) (fun e => hn (Option.some.inj e))).trans (hB.bel.block k hk)
  have he : Ext w col (colS col w.heap.size (w.heap.size + 1) g c) := fun k hk => if_neg (by omega)
  have hC : Chg col c w w2 := ⟨hg.os.trans hB.bel.os, hg.tape.trans hB.bel.tape, hg.output.trans hB.bel.output, by omega, fun k hk hn => hold k hk fun e => hn (by rw [e]; exact h.cm)⟩
  have hns := map_s_ns hes
  refine ⟨colS col w.heap.size (w.heap.size + 1) g c, ⟨he, fun k hk => ?_, hC⟩, mb, D2, l ++ [⟨tx, low, rs', [], w.heap.size + 1, g, gc, w.heap.size, D1⟩], ?_, ?_⟩
  · unfold colS
    rw [if_neg (by have := hsl.2.1; omega)]
    exact hf k (by omega)
  · have hlt : ∀ x ∈ l, x.p < w.heap.size ∧ x.g < w.heap.size ∧ x.mb < w.heap.size := fun x hx => ⟨(h.xs x hx).row.lt, ((h.xs x hx).sd.lt rfl).2.1, (h.xs x hx).mp.lt⟩
    refine { row := ?_, mp := ?_, cr := ?_, xs := fun x hx => ?_, ap := ?_, tm := fun x hx => ?_, ct := ?_, cm := ?_ }
    · exact h.row.of_block (hold t h.row.lt htm)
    · rw [List.length_append]; exact hm
    · rw [List.map_append]; exact hr
    · rcases List.mem_append.1 hx with hx | hx
      · have hx' := h.xs x hx
        refine hx'.kept hC hc he (hold _ hx'.row.lt ((Ty.of_row hx'.row).nmap h.mp)) (hold _ (hx'.sd.lt rfl).2.1 ((hx'.sd.lt rfl).2.2.nmap h.mp)) (hold _ hx'.mp.lt (h.tm x hx))
      · rw [List.mem_singleton.1 hx]
        refine { row := hB.row.of_block hp1, sd := (hB.sd.block fun k e => (by cases e; exact hg2)).more (Nat.zero_le _), mp := ?_, cr := ?_, dv := fun r hr => ?_, cp := if_pos (.inr (.inl rfl)), cg := if_pos (.inr (.inr rfl)), cm := if_pos (.inl rfl) }
        · have := map_block hB.mp hm2
          rw [List.take_length, ← hns] at this
          exact this
        · have := hB.cr
          rw [List.take_length, ← hns] at this
          exact this
        · have hG := (hB.gv r hr).block (w1 := w2) fun k e => hg.block k (coL.Ty.of_gv (hB.gv r hr) e).lt (fun e2 => by have := (World.ownsRow.lt (hB.gv r hr) k e).1; have := Option.some.inj e2; omega)
          obtain ⟨q, hq, eq⟩ := map_s_vs hes hr
          have hd := DV.of_gv hG (by rw [← eq]; exact hsm q hq) hf
          refine ⟨hd.hv, ?_⟩
          by_cases h0 : r.vs = []
          · exact .inl h0
          · refine .inr fun y e => ?_
            have hco := hd.co.resolve_left h0 y e
            unfold colS
            rw [if_neg]
            · exact hco
            · obtain ⟨b, off, e2, hb, _⟩ := hd.hv.at (i := 0) (List.length_pos_iff.2 h0)
              have hown : (Value.slice r.A r.vs.length r.c).ownBlock = some y.block := by rw [e]; rfl
              have tv : Ty w1 y.block 64 := coL.Ty.of_gv (hB.gv r hr) hown
              have n1 := tv.nmap hB.mp
              have n2 := tv.ne (Ty.of_row hB.row) (by decide)
              have n3 := tv.ne hsl.2.2 (by decide)
              omega
    · refine List.pairwise_append.2 ⟨h.ap, List.pairwise_singleton _ _, fun a ha b hb => ?_⟩
      rw [List.mem_singleton.1 hb]
      obtain ⟨a1, a2, a3⟩ := hlt a ha
      exact ⟨by show a.p ≠ w.heap.size + 1; omega, by show a.g ≠ g; omega, by show a.mb ≠ w.heap.size; omega⟩
    · rcases List.mem_append.1 hx with hx | hx
      · exact h.tm x hx
      · rw [List.mem_singleton.1 hx]; show w.heap.size ≠ mb; omega
    · exact (he t h.row.lt).trans h.ct
    · exact (he mb h.mp.lt).trans h.cm
  · rw [List.map_append, ← hes]; rfl
set_option maxHeartbeats 2000000 in
theorem start_at (w : World) (h : TabAt col c w t os) (hc : c ≠ 0) (hf : Fresh col w) (hn : os.length ≤ 1000) {tx low : Int} (x0 : 0 ≤ tx) (x1 : tx < 18446744073709551616) (A : Option Addr) (cc : Nat) (rs : List SR) (hr : Rd shS w A cc rs) (hl : rs.length ≤ 1000) (hk : ∀ r ∈ rs, kSh w r) :
    Calls Try.prog 10 #[.pointer (some ⟨t, 0, none⟩), .int .u64 tx, .int .u64 low, .slice A rs.length cc] w fun e w' => e = .returned (.int .i64 (stE os tx (rs.map SR.s))) ∧ Lv col c t (stS os tx low (rs.map SR.s)) w w' := by
  have hst := Lib.hid (fun w' hB => lv_stay (w1 := w') h hf hB)
  by_cases h0 : rs = []
  · subst h0
    have e1 : stE os tx ([].map SR.s) = 1 := if_pos rfl
    have e2 : stS os tx low ([].map SR.s) = os := if_neg (by rw [e1]; decide)
    rw [e1, e2]
    have hfin := Lib.hid (hst.out w (Below.refl _ _))
    clear h hst hr hk
    simp only [List.length_nil]
    go_enter Try.func10, Try.ntmps10
    go_wp2
    go_ret
    exact ⟨rfl, hfin.out⟩
  · have hlI : ((rs.length : Int) == 0) = false := by
      have := List.length_pos_iff.2 h0
      rw [beq_eq_false_iff_ne]; omega
    obtain ⟨mb, D, l, hT, rfl⟩ := h
    have k0 : w.cell? ⟨t, 0, none⟩ = some (.map (some mb)) := hT.row.cell (i := 0) (by omega)
    have hlk := cr_look (tm := TM) hT.cr hT.mp Try.underlying29 Try.underlying70 (zP w) (wf_u x0 x1)
    cases hfe : fnE (l.map Tx.e) tx with
    | some x =>
      have e1 : stE (l.map Tx.e) tx (rs.map SR.s) = 8 := by unfold stE; rw [if_neg (by simpa using h0), if_pos (by rw [hfe]; rfl)]
      have e2 : stS (l.map Tx.e) tx low (rs.map SR.s) = l.map Tx.e := if_neg (by rw [e1]; decide)
      rw [e1, e2]
      have hfin := Lib.hid (hst.out w (Below.refl _ _))
      have hs : (fnp (l.map fun x => (x.tx, (.pointer (some ⟨x.p, 0, none⟩) : Value))) tx).isSome = true := by
        obtain ⟨a, y, b, rfl, h2, h3⟩ := fnE_split hfe
        cases hq : fnp ((a ++ y :: b).map fun x => (x.tx, (.pointer (some ⟨x.p, 0, none⟩) : Value))) tx with
        | some v => rfl
        | none => exact absurd h3 (fnp_none.1 hq (y.tx, .pointer (some ⟨y.p, 0, none⟩)) (List.mem_map.2 ⟨y, by simp, rfl⟩))
      rw [hs] at hlk
      generalize (fnp (l.map fun x => (x.tx, (.pointer (some ⟨x.p, 0, none⟩) : Value))) tx).getD (.pointer none) = vv at *
      clear hT hst hr hk hs e1 e2 hfe
      go_enter Try.func10, Try.ntmps10
      go_wp2
      go_ret
      exact ⟨rfl, hfin.out⟩
    | none =>
      rw [fnp_no hfe] at hlk
      simp only [Option.getD_none, Option.isSome_none] at hlk
      have hbg := Lib.hid (begin_any w low A cc rs hr hl hk)
      have hend := Lib.hid (fun w1 A1 g1 rs1 D1 (hB : BS w low rs rs.length rs.length A1 g1 rs1 D1 w1) => (by
        have hT1 := hT.below hB.bel
        obtain ⟨w2, D2, h1, h2, h3, h4⟩ := cr_store (tm := TM) hT1.cr hT1.mp Try.underlying29 Try.underlying70 (by rw [List.length_map] at hn; unfold maxLen; omega) (wf_u x0 x1) (.pointer (some ⟨w.heap.size + 1, 0, none⟩))
        have hno := fnp_no hfe
        have e : pup (l.map fun x => (x.tx, (.pointer (some ⟨x.p, 0, none⟩) : Value))) tx (.pointer (some ⟨w.heap.size + 1, 0, none⟩)) = l.map (fun x => (x.tx, (.pointer (some ⟨x.p, 0, none⟩) : Value))) ++ [(tx, .pointer (some ⟨w.heap.size + 1, 0, none⟩))] := by
          unfold pup; rw [coP.rm_none hno]
        rw [e] at h2 h3
        refine ⟨keep_cell hB.bel k0, w2, h1, ?_⟩
        exact tab_add hT hc hf hB h0 (fun r hr => (hk r hr).2.1.sm) hfe (by simpa using h2) h3 h4.grown : w1.cell? ⟨t, 0, none⟩ = some (.map (some mb)) ∧ ∃ w2, (Instr.mapUpdate TM (.map (some mb)) (.int .u64 tx) (.pointer (some ⟨w.heap.size + 1, 0, none⟩))).run Try.prog w1 = .ok () w2 ∧ Lv col c t ((l.map Tx.e) ++ [⟨tx, low, rs.map SR.s, []⟩]) w w2))
      have hpc := Lib.hid (plN_len (rs.map (·.node)))
      have hnds : nds (rs.map SR.s) = rs.map (·.node) := by unfold nds SR.s; simp
      have hlL : (rs.map (·.node)).length = rs.length := by simp
      have hsE := Lib.hid (show stE (l.map Tx.e) tx (rs.map SR.s) = if (rs.map (·.node)).Nodup then 0 else 3 by unfold stE; rw [if_neg (by simpa using h0), hfe, ← hnds]; rfl)
      have hsS := Lib.hid (show stS (l.map Tx.e) tx low (rs.map SR.s) = if (rs.map (·.node)).Nodup then (l.map Tx.e) ++ [⟨tx, low, rs.map SR.s, []⟩] else l.map Tx.e by
        unfold stS
        rw [hsE.out]
        by_cases hd : (rs.map (·.node)).Nodup
        · rw [if_pos hd, if_pos hd, if_pos rfl]
        · rw [if_neg hd, if_neg hd, if_neg (by decide)])
      have hcl := Lib.hid (fun w1 A1 g1 rs1 D1 (hB : BS w low rs rs.length rs.length A1 g1 rs1 D1 w1) => (by
        have h1 : w1.cell? ⟨w.heap.size + 1, 2, none⟩ = some (.map (some w.heap.size)) := hB.row.cell (i := 2) (by omega)
        have h2 := fun ty => cr_len (tm := TN) hB.cr hB.mp Try.underlying77 ty
        rw [List.take_length] at h2
        exact ⟨h1, h2⟩ : w1.cell? ⟨w.heap.size + 1, 2, none⟩ = some (.map (some w.heap.size)) ∧ ∀ ty, (Builtin.len_ #[TN] ty #[.map (some w.heap.size)]).run Try.prog w1 = .ok (.int .i64 ((plN (rs.map (·.node))).length : Int)) w1))
      clear hT hr hk hfe hnds
      by_cases hd : (rs.map (·.node)).Nodup
      · have hlen := hpc.out.2.2 hd
        have hcI : ¬ (((plN (rs.map (·.node))).length : Int) < (rs.length : Int)) := by omega
        rw [hsE.out, hsS.out, if_pos hd, if_pos hd]
        clear hsE hsS hpc hlen hst hd hlL
        generalize (plN (rs.map (·.node))).length = N at *
        go_enter Try.func10, Try.ntmps10
        go_wp2_with (fail)
        with_reducible refine hbg.out.mono ?_
        rintro e w1 ⟨rfl, A1, g1, rs1, D1, hB⟩
        obtain ⟨j0, w2, hup, hL⟩ := hend.out _ _ _ _ _ hB
        obtain ⟨j1, j2⟩ := hcl.out _ _ _ _ _ hB
        replace hL := Lib.hid hL
        clear hB hend hcl hbg
        go_wp2
        go_ret
        exact ⟨rfl, hL.out⟩
      · have hlen : (plN (rs.map (·.node))).length < rs.length := by
          have := hpc.out.1
          have h2 : ¬ (plN (rs.map (·.node))).length = (rs.map (·.node)).length := fun e => hd (hpc.out.2.1 e)
          omega
        have hcI : (((plN (rs.map (·.node))).length : Int) < (rs.length : Int)) := by omega
        rw [hsE.out, hsS.out, if_neg hd, if_neg hd]
        clear hsE hsS hpc hlen hd hlL hend
        generalize (plN (rs.map (·.node))).length = N at *
        go_enter Try.func10, Try.ntmps10
        go_wp2_with (fail)
        with_reducible refine hbg.out.mono ?_
        rintro e w1 ⟨rfl, A1, g1, rs1, D1, hB⟩
        obtain ⟨j1, j2⟩ := hcl.out _ _ _ _ _ hB
        have hL := Lib.hid (hst.out _ hB.bel)
        clear hB hcl hbg hst
        go_wp2
        go_ret
        exact ⟨rfl, hL.out⟩
end
end Go.Proofs.Ytafocefbpkcoaaa.coV
