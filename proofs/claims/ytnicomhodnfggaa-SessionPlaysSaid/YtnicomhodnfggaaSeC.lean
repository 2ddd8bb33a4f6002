/- The program's Commit. -/
import Derived.Test.YtnicomhodnfggaaSeG
set_option linter.unusedVariables false
set_option linter.unusedSimpArgs false
set_option maxRecDepth 100000
namespace Go.Proofs.Ytnicomhodnfggaa.seC
open Go.ChangeShapes Go.WideShapes Go.ChangeAt Go.RowKit Go.Deep
open opV chnM gen chnA chnR chnE seM seI ordC seL seN seB seK seV seW seG

/-- a mark's cells -/
abbrev M3 (b o : Nat) (ts dc tx : Int) (w : World) : Prop := w.cell? ⟨b, o, none⟩ = some (.int .u64 ts) ∧ w.cell? ⟨b, o + 1, none⟩ = some (.int .i64 dc) ∧ w.cell? ⟨b, o + 2, none⟩ = some (.int .i64 tx)
theorem m3_of {b o : Nat} {ts dc tx : Int} {w w1 : World} (h : M3 b o ts dc tx w) (e : w1.heap[b]? = w.heap[b]?) : M3 b o ts dc tx w1 :=
  ⟨(World.cell?_of_block (a := ⟨b, o, none⟩) e).trans h.1, (World.cell?_of_block (a := ⟨b, o + 1, none⟩) e).trans h.2.1, (World.cell?_of_block (a := ⟨b, o + 2, none⟩) e).trans h.2.2⟩
theorem m3_lt {b o : Nat} {ts dc tx : Int} {w : World} (h : M3 b o ts dc tx w) : b < w.heap.size := World.block_lt_of_cell? _ _ h.1
theorem m3_new (w : World) (ts dc tx : Int) : M3 w.heap.size 0 ts dc tx (w.alloc (.cells #[.int .u64 ts, .int .i64 dc, .int .i64 tx] 31)) := by
  have h := fun (j : Nat) (u : Value) (hu : (#[.int .u64 ts, .int .i64 dc, .int .i64 tx] : Array Value)[j]? = some u) => (cell_of_row _ _ j #[.int .u64 ts, .int .i64 dc, .int .i64 tx] 31 (0, 0) (heap_alloc_new w (.cells #[.int .u64 ts, .int .i64 dc, .int .i64 tx] 31))).trans hu
  exact ⟨h 0 _ rfl, h 1 _ rfl, h 2 _ rfl⟩
section
variable {col : Nat → Nat} {c p : Nat} {S : Ss}
/-- between the rounds -/
structure CJ (col : Nat → Nat) (c p : Nat) (S : Ss) (A : Option Addr) (cw mb n : Nat) (B : Nat) (ts dc tx : Int) (w : World) (j : Nat) (wr : World) : Prop where
  chg : Chg col c w wr
  mr : M3 B 0 ts dc tx wr
  cb : col B = 0
  ses : ∃ n' D', SesM col c wr p S.snap S.last S.op A cw S.ws mb n' D' ∧ CR (caJ S ts dc tx j) D' ∧ n' ≤ n + j
theorem CJ.below {A : Option Addr} {cw mb n B j : Nat} {ts dc tx : Int} {w wr w1 : World} (h : CJ col c p S A cw mb n B ts dc tx w j wr) (hB : Below wr.heap.size wr w1) : CJ col c p S A cw mb n B ts dc tx w j w1 := by
  obtain ⟨n', D', h1, h2⟩ := h.ses
  exact ⟨h.chg.then hB, m3_of h.mr (hB.block _ (m3_lt h.mr)), h.cb, n', D', h1.below hB, h2⟩
/-- one more is laid into the map -/
theorem CJ.next {A : Option Addr} {cw mb n B j : Nat} {ts dc tx : Int} {w wr : World} (h : CJ col c p S A cw mb n B ts dc tx w j wr) (hc : c ≠ 0) (hk : (nt S.ws j).key.size ≤ 16) (hn : n ≤ 100000) (hj : j ≤ 100) :
    ∃ w4, (Instr.mapUpdate TM (.map (some mb)) (.string (nt S.ws j).key) (vv (sign ts dc tx (nt S.ws j)))).run Try.prog wr = .ok () w4 ∧ CJ col c p S A cw mb n B ts dc tx w (j + 1) w4 := by
  obtain ⟨n', D', h1, h2, h3⟩ := h.ses
  obtain ⟨w4, D4, hr, hm, hcr, ht⟩ := cr_store h2 h1.mp (sign ts dc tx (nt S.ws j)) (by unfold maxLen; show (nt S.ws j).key.size ≤ _; omega) (by unfold maxLen; omega)
  obtain ⟨c1, s1⟩ := h1.turned ht.grown hm
  exact ⟨w4, hr, h.chg.tran c1, m3_of h.mr (c1.block _ (m3_lt h.mr) (by rw [h.cb]; exact fun e => hc e.symm)), h.cb, n' + 1, D4, s1, hcr, by omega⟩
theorem CJ.last {A : Option Addr} {cw mb n B j : Nat} {ts dc tx : Int} {w wr : World} (h : CJ col c p S A cw mb n B ts dc tx w j wr) (hc : c ≠ 0) :
    ∃ n' D', SesM col c (wr.setCell ⟨p, 1, none⟩ (.int .u64 ts)) p S.snap ts S.op A cw S.ws mb n' D' ∧ CR (caJ S ts dc tx j) D' ∧ n' ≤ n + j ∧ Chg col c w (wr.setCell ⟨p, 1, none⟩ (.int .u64 ts)) := by
  obtain ⟨n', D', h1, h2, h3⟩ := h.ses
  obtain ⟨g1, s1⟩ := h1.setLa hc ts
  exact ⟨n', D', s1, h2, h3, h.chg.tran g1⟩
set_option maxHeartbeats 1000000 in
theorem commit_not (w : World) (h : SesAt col c w p S) (hf : Fresh col w) (ts dc tx : Int) (hz : coE S ts ≠ 0) : Calls Try.prog 13 #[.pointer (some ⟨p, 0, none⟩), mk (ts, dc, tx)] w fun e w' =>
    e = .returned (.int .i64 (coE S ts)) ∧ Lv col c p S w w' := by
  obtain ⟨W, hW⟩ : ∃ W, w.alloc (.cells #[.int .u64 ts, .int .i64 dc, .int .i64 tx] 31) = W := ⟨_, rfl⟩
  have hB : Below w.heap.size w W := by rw [← hW]; exact al0 w _
  have hM : M3 w.heap.size 0 ts dc tx W := by rw [← hW]; exact m3_new w ts dc tx
  replace hW := Lib.hid hW
  have hfin := Lib.hid (fun w' hB => lv_stay (w1 := w') h hf hB)
  cases hop : S.op with
  | false =>
    have hE : coE S ts = 17 := by unfold coE; rw [if_pos hop]
    rw [hE]
    obtain ⟨A, cw, mb, n, D, h, hr⟩ := h
    obtain ⟨k0, k1, k2, k3, k4⟩ := (h.below hB).cells
    rw [hop] at k2
    have hfi := Lib.hid (hfin.out W hB)
    clear h hr hB hM hfin
    go_enter Try.func13, Try.ntmps13
    go_upto_region 1 with (fail)
    rw [hW.out]
    go_wp2
    go_ret
    exact ⟨rfl, hfi.out⟩
  | true =>
    have hlt : ts ≤ low S := by
      unfold coE at hz
      rw [if_neg (by rw [hop]; simp)] at hz
      by_cases h9 : ts ≤ low S
      · exact h9
      · rw [if_neg h9] at hz; exact absurd rfl hz
    have hE : coE S ts = 11 := by unfold coE; rw [if_neg (by rw [hop]; simp), if_pos hlt]
    rw [hE]
    have hl := Lib.hid (fun n => low_quiet W (h.below hB) n)
    obtain ⟨A, cw, mb, n, D, h, hr⟩ := h
    obtain ⟨k0, k1, k2, k3, k4⟩ := (h.below hB).cells
    rw [hop] at k2
    obtain ⟨m0, m1, m2⟩ := hM
    have hfi := Lib.hid (fun nn => hfin.out (W.drewN nn) (bdrN nn hB))
    clear h hr hB hfin hE hz
    generalize low S = lo at *
    go_enter Try.func13, Try.ntmps13
    go_upto_region 1 with (fail)
    rw [hW.out]
    go_upto_region 5 with (fail)
    go_quiet ((go_at_call 21; exact hl.out _))
    go_wp2
    go_ret
    exact ⟨rfl, hfi.out _⟩
set_option maxHeartbeats 2000000 in
theorem commit_yes (w : World) (h : SesAt col c w p S) (hok : S.ok) (hc : c ≠ 0) (hf : Fresh col w) (ts dc tx : Int) (hop : S.op = true) (hlt : ¬ ts ≤ low S) (hcn : S.cnt ≤ 100000) : Calls Try.prog 13 #[.pointer (some ⟨p, 0, none⟩), mk (ts, dc, tx)] w fun e w' =>
    e = .returned (.int .i64 0) ∧ Lv col c p ⟨S.snap, ts, false, [], caJ S ts dc tx S.ws.length, S.cnt + S.ws.length⟩ w w' := by
  obtain ⟨W, hW⟩ : ∃ W, w.alloc (.cells #[.int .u64 ts, .int .i64 dc, .int .i64 tx] 31) = W := ⟨_, rfl⟩
  have hB : Below w.heap.size w W := by rw [← hW]; exact al0 w _
  have hM : M3 w.heap.size 0 ts dc tx W := by rw [← hW]; exact m3_new w ts dc tx
  replace hW := Lib.hid hW
  have hl := Lib.hid (fun n => low_quiet W (h.below hB) n)
  obtain ⟨A, cw, mb, n, D, h, hcr, hn⟩ := h
  obtain ⟨k0, k1, k2, k3, k4⟩ := (h.below hB).cells
  rw [hop] at k2
  have hC0 := Lib.hid (fun nn => (⟨Chg.of_below _ _ (bdrN nn hB), m3_of hM rfl, hf _ (Nat.le_refl _), n, D, h.below (bdrN nn hB), hcr, by omega⟩ : CJ col c p S A cw mb n w.heap.size ts dc tx w 0 (W.drewN nn)))
  obtain ⟨m0, m1, m2⟩ := hM
  have hend := Lib.hid (fun w4 (hg : Chg col c w w4) n' D' (h4 : SesM col c w4 p S.snap ts false none 0 [] mb n' D') (hcr : CR (caJ S ts dc tx S.ws.length) D') (hn' : n' ≤ n + S.ws.length) => (⟨col, ⟨Ext.refl _ _, hf.up hg.size, hg⟩, none, 0, mb, n', D', h4, hcr, by simp only; omega⟩ : Lv col c p ⟨S.snap, ts, false, [], caJ S ts dc tx S.ws.length, S.cnt + S.ws.length⟩ w w4))
  have hks := Lib.hid (fun j (hj : j < S.ws.length) => hok.ks _ (nt_mem hj))
  have hl8 : S.ws.length ≤ 8 := hok.le
  have hn9 : n ≤ 100000 := by omega
  have hop' := Lib.hid hop
  clear h hB hcr hok hop
  generalize low S = lo at *
  go_enter Try.func13, Try.ntmps13
  go_upto_region 1 with (fail)
  rw [hW.out]
  go_upto_region 5 with (fail)
  go_quiet ((go_at_call 21; exact hl.out _))
  have hC1 := Lib.hid (hC0.out nq)
  clear k0 k1 k2 k3 k4 m0 m1 m2 hC0 hW hl
  generalize W.drewN nq = W1 at *
  obtain ⟨m0, m1, m2⟩ := hC1.out.mr
  have hcells := (by obtain ⟨n', D', h1, h2⟩ := hC1.out.ses; exact h1.cells : W1.cell? ⟨p, 0, none⟩ = some (.int .u64 S.snap) ∧ W1.cell? ⟨p, 1, none⟩ = some (.int .u64 S.last) ∧ W1.cell? ⟨p, 2, none⟩ = some (.bool S.op) ∧ W1.cell? ⟨p, 3, none⟩ = some (.slice A S.ws.length cw) ∧ W1.cell? ⟨p, 4, none⟩ = some (.map (some mb)))
  obtain ⟨k0, k1, k2, k3, k4⟩ := hcells
  go_upto_region 7 with (fail)
  go_wp2
  clear m0 m1 m2 k0 k1 k2 k3 k4
  go_loopw [27] (fun i wr => ∃ j : Nat, j ≤ S.ws.length ∧ i = .int .i64 j ∧ Hid (CJ col c p S A cw mb n w.heap.size ts dc tx w j wr)) (fun i _ => S.ws.length - (intOf i).toNat)
  case atStart => exact ⟨0, by omega, rfl, hC1⟩
  case round =>
    obtain ⟨j, hj, rfl, hC⟩ := hrel
    obtain ⟨m0, m1, m2⟩ := hC.out.mr
    have hcells := (by obtain ⟨n', D', h1, h2⟩ := hC.out.ses; exact h1.cells : wr.cell? ⟨p, 0, none⟩ = some (.int .u64 S.snap) ∧ wr.cell? ⟨p, 1, none⟩ = some (.int .u64 S.last) ∧ wr.cell? ⟨p, 2, none⟩ = some (.bool S.op) ∧ wr.cell? ⟨p, 3, none⟩ = some (.slice A S.ws.length cw) ∧ wr.cell? ⟨p, 4, none⟩ = some (.map (some mb)))
    obtain ⟨k0, k1, k2, k3, k4⟩ := hcells
    by_cases hlj : j < S.ws.length
    · have hat := (by obtain ⟨n', D', h1, h2⟩ := hC.out.ses; exact (h1.ro.hv (by omega)).at hlj : ∃ b off, A = some ⟨b, off, none⟩ ∧ b < wr.heap.size ∧ V6 b (off + j * 6) (nt S.ws j) wr)
      obtain ⟨pb, po, hA, hpb, hc6⟩ := hat
      have hnx := Lib.hid (fun w' (hB : Below wr.heap.size wr w') => (hC.out.below hB).next hc (hks.out j hlj) hn9 (by omega))
      obtain ⟨x, hx⟩ : ∃ x, nt S.ws j = x := ⟨_, rfl⟩
      rw [hx] at hnx hc6
      have hjI : (j : Int) < (S.ws.length : Int) := by omega
      have hl9 := Lib.hid (al0 wr (.cells #[.string x.key, .string x.val, .bool x.gone, .int .u64 ts, .int .i64 dc, .int .i64 tx] 41))
      have hpl := World.block_lt_of_cell? _ _ k4
      have hml := World.block_lt_of_cell? _ _ m0
      have hR := Lib.hid (R6.new wr (sign ts dc tx x))
      obtain ⟨d0, d1, d2, d3, d4, d5⟩ := hc6
      clear hx hC hC1 hend hks
      subst hA
      obtain ⟨W3, hW3⟩ : ∃ W3, (wr.alloc (.cells #[.string x.key, .string x.val, .bool x.gone, .int .u64 ts, .int .i64 dc, .int .i64 tx] 41)).drew = W3 := ⟨_, rfl⟩
      have hB3 : Below wr.heap.size wr W3 := by rw [← hW3]; exact hl9.out.drew
      have hV3 : V6 wr.heap.size 0 (sign ts dc tx x) W3 := by rw [← hW3]; exact hR.out.v6
      obtain ⟨w4, hrun, hC4⟩ := hnx.out W3.drew (bdr hB3)
      have q4 := keep_cell hB3 k4
      replace hC4 := Lib.hid hC4
      replace hW3 := Lib.hid hW3
      unfold sign at hV3 hrun
      go_upto_region 10 with (fail)
      go_region
      all_goals
        rw [hW3.out]
        clear m0 m1 m2 k0 k1 k2 k3 k4 d0 d1 d2 d3 d4 d5 hl9 hpl hml hR hnx hB3 hW3
        obtain ⟨e0, e1, e2, e3, e4, e5⟩ := hV3
        generalize wr.heap.size = vb at *
        go_upto_region 11 with (fail)
        go_region
        all_goals
          go_wp2
          go_roundw
          case rel => exact ⟨j + 1, by omega, by go_num, hC4⟩
          case measure => simp [intOf]; omega
    · obtain rfl : j = S.ws.length := by omega
      obtain ⟨n', D', h4, hcr4, hn4, hg4⟩ := hC.out.last hc
      have hf1 := (by obtain ⟨n', D', h1, h2⟩ := hC.out.ses; exact h1.fz 1 : wr.frozen? ⟨p, 1, none⟩ = false)
      have hen := Lib.hid (end_any _ h4 hc)
      have hfi := Lib.hid (fun w4 (hg : Chg col c (wr.setCell ⟨p, 1, none⟩ (.int .u64 ts)) w4) h5 => hend.out w4 (hg4.tran hg) n' D' h5 hcr4 hn4)
      have hpl := World.block_lt_of_cell? _ _ k4
      clear hC hC1 hend hks h4 hcr4 hg4
      go_wp2_with (go_at_call 32; (with_reducible refine (hen.out).mono ?_); rintro e w5 ⟨rfl, hg5, h5⟩)
      go_ret
      exact ⟨rfl, hfi.out _ hg5 h5⟩
theorem commit_at (w : World) (h : SesAt col c w p S) (hok : S.ok) (hc : c ≠ 0) (hf : Fresh col w) (ts dc tx : Int) (hcn : S.cnt ≤ 100000) : Calls Try.prog 13 #[.pointer (some ⟨p, 0, none⟩), mk (ts, dc, tx)] w fun e w' =>
    e = .returned (.int .i64 (coE S ts)) ∧ Lv col c p (coS S ts dc tx) w w' := by
  by_cases hz : coE S ts = 0
  · have h1 : S.op = true ∧ ¬ ts ≤ low S := by
      unfold coE at hz
      split at hz
      · omega
      · rename_i h2
        split at hz
        · omega
        · rename_i h3
          exact ⟨by simpa using h2, h3⟩
    have e : coS S ts dc tx = ⟨S.snap, ts, false, [], caJ S ts dc tx S.ws.length, S.cnt + S.ws.length⟩ := if_pos hz
    rw [e, hz]
    exact commit_yes w h hok hc hf ts dc tx h1.1 h1.2 hcn
  · have e : coS S ts dc tx = S := if_neg hz
    rw [e]
    exact commit_not w h hf ts dc tx hz
end
end Go.Proofs.Ytnicomhodnfggaa.seC
