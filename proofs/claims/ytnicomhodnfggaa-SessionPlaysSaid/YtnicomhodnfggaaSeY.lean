/- The document's Commit. -/
import Derived.Test.YtnicomhodnfggaaSeX
set_option linter.unusedVariables false
set_option linter.unusedSimpArgs false
set_option maxRecDepth 100000
namespace Go.Proofs.Ytnicomhodnfggaa.seY
open Go.ChangeShapes Go.WideShapes Go.ChangeAt Go.RowKit Go.Deep
open opV chnM gen chnA chnR chnE seM seI ordC seL seN seB seK seV seW seG seC seQ seR seU seX

section
variable {col : Nat → Nat} {c q : Nat} {S : Ss}
set_option maxHeartbeats 1000000 in
theorem dcommit_not (w : World) (h : DocAt col c w q S) (hf : Fresh col w) (ts dc tx : Int) (hz : coE S ts ≠ 0) : Calls Try.prog 14 #[.pointer (some ⟨q, 0, none⟩), mk (ts, dc, tx)] w fun e w' =>
    e = .returned (.int .i64 (coE S ts)) ∧ DLv col c q S w w' := by
  obtain ⟨W, hW⟩ : ∃ W, w.alloc (.cells #[.int .u64 ts, .int .i64 dc, .int .i64 tx] 31) = W := ⟨_, rfl⟩
  have hB : Below w.heap.size w W := by rw [← hW]; exact al0 w _
  have hM : M3 w.heap.size 0 ts dc tx W := by rw [← hW]; exact m3_new w ts dc tx
  replace hW := Lib.hid hW
  have hfin := Lib.hid (fun w' hB => dlv_stay (w1 := w') h hf hB)
  cases hop : S.op with
  | false =>
    have hE : coE S ts = 17 := by unfold coE; rw [if_pos hop]
    rw [hE]
    obtain ⟨Aw, cw, Ac, cc, h⟩ := h
    obtain ⟨k0, k1, k2, k3, k4⟩ := (h.below hB).cells
    rw [hop] at k2
    have hfi := Lib.hid (hfin.out W hB)
    clear h hB hM hfin
    go_enter Try.func14, Try.ntmps14
    go_upto_region 1 with (fail)
    rw [hW.out]
    go_wp2
    go_ret
    exact ⟨rfl, hfi.out⟩
  | true =>
    have hlt : ts ≤ low S := by
      unfold coE at hz
      rw [if_neg (by rw [hop]; simp)] at hz
      by_cases h9 : ts ≤ low S
      · exact h9
      · rw [if_neg h9] at hz; exact absurd rfl hz
    have hE : coE S ts = 11 := by unfold coE; rw [if_neg (by rw [hop]; simp), if_pos hlt]
    rw [hE]
    have hl := Lib.hid (fun n => dlow_quiet W (h.below hB) n)
    obtain ⟨Aw, cw, Ac, cc, h⟩ := h
    obtain ⟨k0, k1, k2, k3, k4⟩ := (h.below hB).cells
    rw [hop] at k2
    obtain ⟨m0, m1, m2⟩ := hM
    have hfi := Lib.hid (fun nn => hfin.out (W.drewN nn) (bdrN nn hB))
    clear h hB hfin hE hz
    generalize low S = lo at *
    go_enter Try.func14, Try.ntmps14
    go_upto_region 1 with (fail)
    rw [hW.out]
    go_upto_region 3 with (fail)
    go_quiet ((go_at_call 22; exact hl.out _))
    go_wp2
    go_ret
    exact ⟨rfl, hfi.out _⟩
/-- between the rounds -/
structure DC (col : Nat → Nat) (c q : Nat) (S : Ss) (Aw : Option Addr) (cw : Nat) (B : Nat) (ts dc tx : Int) (w : World) (ca : List Ver) (Ac : Option Addr) (cc : Nat) (wr : World) : Prop where
  chg : Chg col c w wr
  fr : Fresh col wr
  mr : M3 B 0 ts dc tx wr
  cb : col B = 0
  doc : DocM col c wr q S.snap S.last S.op Aw cw S.ws Ac cc ca
theorem DC.below {Aw Ac : Option Addr} {cw cc B : Nat} {ts dc tx : Int} {w wr w1 : World} {ca : List Ver} (h : DC col c q S Aw cw B ts dc tx w ca Ac cc wr) (hB : Below wr.heap.size wr w1) : DC col c q S Aw cw B ts dc tx w ca Ac cc w1 :=
  ⟨h.chg.then hB, h.fr.up hB.size, m3_of h.mr (hB.block _ (m3_lt h.mr)), h.cb, h.doc.below hB⟩
theorem DC.next {Aw Ac A9 : Option Addr} {cw cc c9 B : Nat} {ts dc tx : Int} {w wr w5 : World} {ca r : List Ver} (h : DC col c q S Aw cw B ts dc tx w ca Ac cc wr) (hc : c ≠ 0) (hr : r.length ≤ 20000) (hG : GV w5 wr.heap.size A9 c9 r) (hB : Below wr.heap.size wr w5) :
    w5.cell? ⟨q, 4, none⟩ = some (.slice Ac ca.length cc) ∧ w5.frozen? ⟨q, 4, none⟩ = false ∧ DC col c q S Aw cw B ts dc tx w r A9 c9 (w5.setCell ⟨q, 4, none⟩ (.slice A9 r.length c9)) := by
  have h5 := h.below hB
  obtain ⟨g1, d1⟩ := h5.doc.setC hc (DV.of_gv hG (by omega) h.fr)
  exact ⟨h5.doc.cells.2.2.2.2, h5.doc.fz 4, h5.chg.tran g1, h5.fr.up g1.size, m3_of h5.mr (g1.block _ (m3_lt h5.mr) (by rw [h5.cb]; exact fun e => hc e.symm)), h5.cb, d1⟩
theorem DC.fin {Aw Ac : Option Addr} {cw cc B : Nat} {ts dc tx : Int} {w wr : World} {ca : List Ver} (h : DC col c q S Aw cw B ts dc tx w ca Ac cc wr) (hc : c ≠ 0) :
    Chg col c w (((wr.setCell ⟨q, 1, none⟩ (.int .u64 ts)).setCell ⟨q, 2, none⟩ (.bool false)).setCell ⟨q, 3, none⟩ (.slice none 0 0)) ∧ DocM col c (((wr.setCell ⟨q, 1, none⟩ (.int .u64 ts)).setCell ⟨q, 2, none⟩ (.bool false)).setCell ⟨q, 3, none⟩ (.slice none 0 0)) q S.snap ts false none 0 [] Ac cc ca := by
  obtain ⟨g1, d1⟩ := h.doc.setLa hc ts
  obtain ⟨g2, d2⟩ := ddend d1 hc
  exact ⟨(h.chg.tran g1).tran g2, d2⟩
theorem dcaJ_len (hok : S.ok) (ts dc tx : Int) (j : Nat) (hj : j ≤ S.ws.length) : (caJ S ts dc tx j).length ≤ S.cnt + 8 := by
  have h1 := caJ_len (S := S) (ts := ts) (dc := dc) (tx := tx) j
  have h2 := hok.cn
  have h3 := hok.le
  omega
set_option maxHeartbeats 2000000 in
theorem dcommit_yes (w : World) (h : DocAt col c w q S) (hok : S.ok) (hc : c ≠ 0) (hf : Fresh col w) (ts dc tx : Int) (hop : S.op = true) (hlt : ¬ ts ≤ low S) (hcn : S.cnt ≤ 10000) : Calls Try.prog 14 #[.pointer (some ⟨q, 0, none⟩), mk (ts, dc, tx)] w fun e w' =>
    e = .returned (.int .i64 0) ∧ DLv col c q ⟨S.snap, ts, false, [], caJ S ts dc tx S.ws.length, S.cnt + S.ws.length⟩ w w' := by
  obtain ⟨W, hW⟩ : ∃ W, w.alloc (.cells #[.int .u64 ts, .int .i64 dc, .int .i64 tx] 31) = W := ⟨_, rfl⟩
  have hB : Below w.heap.size w W := by rw [← hW]; exact al0 w _
  have hM : M3 w.heap.size 0 ts dc tx W := by rw [← hW]; exact m3_new w ts dc tx
  replace hW := Lib.hid hW
  have hl := Lib.hid (fun n => dlow_quiet W (h.below hB) n)
  obtain ⟨Aw, cw, Ac, cc, h⟩ := h
  obtain ⟨k0, k1, k2, k3, k4⟩ := (h.below hB).cells
  rw [hop] at k2
  have hC0 := Lib.hid (fun nn => (⟨Chg.of_below _ _ (bdrN nn hB), hf.up (bdrN nn hB).size, m3_of hM rfl, hf _ (Nat.le_refl _), h.below (bdrN nn hB)⟩ : DC col c q S Aw cw w.heap.size ts dc tx w (caJ S ts dc tx 0) Ac cc (W.drewN nn)))
  obtain ⟨m0, m1, m2⟩ := hM
  have hend := Lib.hid (fun w4 A9 c9 (hD : DC col c q S Aw cw w.heap.size ts dc tx w (caJ S ts dc tx S.ws.length) A9 c9 w4) => (by
    obtain ⟨g1, d1⟩ := hD.fin hc
    exact ⟨hD.doc.fz 1, hD.doc.fz 2, hD.doc.fz 3, col, ⟨Ext.refl _ _, hf.up g1.size, g1⟩, none, 0, A9, c9, d1⟩ : w4.frozen? ⟨q, 1, none⟩ = false ∧ w4.frozen? ⟨q, 2, none⟩ = false ∧ w4.frozen? ⟨q, 3, none⟩ = false ∧ DLv col c q ⟨S.snap, ts, false, [], caJ S ts dc tx S.ws.length, S.cnt + S.ws.length⟩ w (((w4.setCell ⟨q, 1, none⟩ (.int .u64 ts)).setCell ⟨q, 2, none⟩ (.bool false)).setCell ⟨q, 3, none⟩ (.slice none 0 0))))
  have hlen := Lib.hid (fun j hj => dcaJ_len hok ts dc tx j hj)
  have hl8 : S.ws.length ≤ 8 := hok.le
  have hcells := Lib.hid (fun wr ca A9 c9 (hD : DC col c q S Aw cw w.heap.size ts dc tx w ca A9 c9 wr) => hD.doc.cells)
  have hput := Lib.hid (fun wr w1 ca A9 c9 x (hD : DC col c q S Aw cw w.heap.size ts dc tx w ca A9 c9 wr) (hB : Below wr.heap.size wr w1) (hl : ca.length ≤ 20000) => put_any A9 c9 ca x w1 (hD.below hB).doc.cd.hv hl)
  have hnext := Lib.hid (fun wr w1 w5 ca r A9 c9 A8 c8 (hD : DC col c q S Aw cw w.heap.size ts dc tx w ca A9 c9 wr) (hB : Below wr.heap.size wr w1) hr hG hB5 => (hD.below hB).next (w5 := w5) (r := r) (A9 := A8) (c9 := c8) hc hr hG hB5)
  clear h hB hok hop
  generalize low S = lo at *
  go_enter Try.func14, Try.ntmps14
  go_upto_region 1 with (fail)
  rw [hW.out]
  go_upto_region 3 with (fail)
  go_quiet ((go_at_call 22; exact hl.out _))
  have hC1 := Lib.hid (hC0.out nq)
  clear k0 k1 k2 k3 k4 m0 m1 m2 hC0 hW hl
  generalize W.drewN nq = W1 at *
  go_wp2
  go_loopw [5] (fun i wr => ∃ (j : Nat) (A2 : Option Addr) (c2 : Nat), i = .int .i64 j ∧ j ≤ S.ws.length ∧ Hid (DC col c q S Aw cw w.heap.size ts dc tx w (caJ S ts dc tx j) A2 c2 wr)) (fun i _ => S.ws.length - (intOf i).toNat)
  case atStart => exact ⟨0, Ac, cc, rfl, by omega, hC1⟩
  case round =>
    clear hC1
    obtain ⟨j, A2, c2, rfl, hj, hC⟩ := hrel
    obtain ⟨m0, m1, m2⟩ := hC.out.mr
    obtain ⟨k0, k1, k2, k3, k4⟩ := hcells.out _ _ _ _ hC.out
    by_cases hlj : j < S.ws.length
    · obtain ⟨pb, po, hA, hpb, hc6⟩ := hC.out.doc.wd.hv.at hlj
      obtain ⟨x, hx⟩ : ∃ x, nt S.ws j = x := ⟨_, rfl⟩
      have hnx : Hid (caJ S ts dc tx (j + 1) = pK (caJ S ts dc tx j) (sign ts dc tx x)) := Lib.hid (by rw [← hx]; rfl)
      rw [hx] at hc6
      have hln1 := hlen.out j (by omega)
      have hln2 := hlen.out (j + 1) (by omega)
      have hjI : (j : Int) < (S.ws.length : Int) := by omega
      have hpl := World.block_lt_of_cell? _ _ k4
      have hml := World.block_lt_of_cell? _ _ m0
      obtain ⟨W3, hW3⟩ : ∃ W3, (wr.alloc (.cells #[.string x.key, .string x.val, .bool x.gone, .int .u64 ts, .int .i64 dc, .int .i64 tx] 41)).drew = W3 := ⟨_, rfl⟩
      have hB3 : Below wr.heap.size wr W3 := by rw [← hW3]; exact (al0 wr _).drew
      have hV3 : V6 wr.heap.size 0 (sign ts dc tx x) W3 := by rw [← hW3]; exact (R6.new wr (sign ts dc tx x)).v6
      replace hW3 := Lib.hid hW3
      obtain ⟨ca, hca⟩ : ∃ ca, caJ S ts dc tx j = ca := ⟨_, rfl⟩
      obtain ⟨r, hr⟩ : ∃ r, caJ S ts dc tx (j + 1) = r := ⟨_, rfl⟩
      rw [hca] at hnx hln1 hC k4
      rw [hr] at hnx hln2
      replace hr := Lib.hid hr
      have hpu := Lib.hid (hput.out _ W3.drew _ _ _ (sign ts dc tx x) hC.out (bdr hB3) (by omega))
      rw [← hnx.out] at hpu
      have hnxt := Lib.hid (fun w5 A8 c8 hG hB5 => hnext.out wr W3.drew w5 ca r A2 c2 A8 c8 hC.out (bdr hB3) (by omega) hG hB5)
      have q4 := keep_cell hB3 k4
      have q4f := keep_frozen hB3 k4 (hC.out.doc.fz 4)
      unfold sign at hV3 hpu
      obtain ⟨d0, d1, d2, d3, d4, d5⟩ := hc6
      clear hx hC hend hput hnext hcells hnx hlen hca
      subst hA
      go_upto_region 9 with (fail)
      go_region
      all_goals
        rw [hW3.out]
        clear m0 m1 m2 k0 k1 k2 k3 k4 d0 d1 d2 d3 d4 d5 hpl hml hW3
        obtain ⟨e0, e1, e2, e3, e4, e5⟩ := hV3
        generalize wr.heap.size = vb at *
        go_upto_region 10 with (fail)
        go_region_law (first
          | (go_simp; go_at_call 31; ((with_reducible refine (hpu.out).mono ?_); rintro e w5 ⟨A8, c8, rfl, hG5, hB5⟩); obtain ⟨z1, z2, hD5⟩ := hnxt.out _ _ _ hG5 hB5; replace hD5 := Lib.hid hD5; clear hG5 hB5)
          | fail)
        all_goals
          go_wp2
          go_roundw
          case rel => exact ⟨j + 1, _, _, by go_num, by omega, by rw [hr.out]; exact hD5⟩
          case measure => simp [intOf]; omega
    · obtain rfl : j = S.ws.length := by omega
      obtain ⟨f1, f2, f3, hfi⟩ := hend.out _ _ _ hC.out
      replace hfi := Lib.hid hfi
      have hpl := World.block_lt_of_cell? _ _ k4
      clear hC hend hput hnext hcells hlen
      go_wp2
      go_ret
      exact ⟨rfl, hfi.out⟩
theorem dcommit_at (w : World) (h : DocAt col c w q S) (hok : S.ok) (hc : c ≠ 0) (hf : Fresh col w) (ts dc tx : Int) (hcn : S.cnt ≤ 10000) : Calls Try.prog 14 #[.pointer (some ⟨q, 0, none⟩), mk (ts, dc, tx)] w fun e w' =>
    e = .returned (.int .i64 (coE S ts)) ∧ DLv col c q (coS S ts dc tx) w w' := by
  by_cases hz : coE S ts = 0
  · have h1 : S.op = true ∧ ¬ ts ≤ low S := by
      unfold coE at hz
      split at hz
      · omega
      · rename_i h2
        split at hz
        · omega
        · rename_i h3
          exact ⟨by simpa using h2, h3⟩
    have e : coS S ts dc tx = ⟨S.snap, ts, false, [], caJ S ts dc tx S.ws.length, S.cnt + S.ws.length⟩ := if_pos hz
    rw [e, hz]
    exact dcommit_yes w h hok hc hf ts dc tx h1.1 h1.2 hcn
  · have e : coS S ts dc tx = S := if_neg hz
    rw [e]
    exact dcommit_not w h hf ts dc tx hz
end
end Go.Proofs.Ytnicomhodnfggaa.seY
