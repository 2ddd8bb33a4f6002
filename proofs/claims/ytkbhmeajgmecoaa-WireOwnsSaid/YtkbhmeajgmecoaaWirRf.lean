/- The document's reader: rows of versions. -/
import Derived.Test.YtkbhmeajgmecoaaWirRd
namespace Go.Proofs.Ytkbhmeajgmecoaa.wirRe
open Go.ChangeShapes Go.WideShapes Go.ChangeAt Go.RowKit Go.Deep
open numM rowA byt numA numB numC numN numD numE wirM wirA wirL wirP wirQ wirR wirDa wirDb wirDf wirDg wirDh wirDi wirRa wirRb wirRc wirRd

theorem addVer {w1 w9 : World} {o : Obj} {mb B : Nat} {m : Ms} {t : At} {xs : List Vr} {x : Vr} {A9 : Option Addr} {c9 : Nat} (h : MT w1 mb B { m with vers := xs } t) (hmb : mb < B)
    (hr : w9.ownsRow B 51 6 (.slice A9 (xs.length + 1) c9) (xs.length + 1) ((xs.map fun x => (cv x).toList).flatten ++ (cv x).toList)) (hg : (w1.alloc o).grownBy w9 (Value.slice t.va xs.length t.vc).ownBlock) :
    MT (w9.setCell ⟨mb, 6, none⟩ (.slice A9 (xs.length + 1) c9)) mb B { m with vers := xs ++ [x] } { t with va := A9, vc := c9 } := by
  obtain ⟨h1, h2, h3⟩ := h
  have hlt := World.ownsRow.lt h2
  have h1' := (h1.alloc o).of_block (hg.block mb (h1.alloc o).lt (fun e => by have := (hlt mb e.symm).1; omega))
  have h3' := own_blk (h3.alloc o) (w' := w9) (fun k e => hg.block k (World.ownsRow.lt (h3.alloc o) k e).2 (fun q => rows_ne h3 h2 (by decide) k e q.symm))
  refine ⟨(h1'.set 6 _).congr (j14 rfl rfl rfl rfl rfl rfl ?_ rfl rfl rfl rfl rfl rfl rfl), ?_, ?_⟩
  · show Value.slice A9 (xs.length + 1) c9 = .slice A9 (xs ++ [x]).length c9
    rw [List.length_append]; rfl
  · have e : vRow B w9 (.slice A9 (xs.length + 1) c9) (xs ++ [x]) := by unfold vRow; rw [List.length_append, List.map_append, List.flatten_append]; simpa using hr
    have hl : (xs ++ [x]).length = xs.length + 1 := by rw [List.length_append]; rfl
    show vRow B _ (.slice A9 (xs ++ [x]).length c9) (xs ++ [x])
    rw [hl]
    exact own_put e (fun q => by have := (World.ownsRow.lt e mb q).1; omega) _
  · exact own_put h3' (fun e => by have := (World.ownsRow.lt h3 mb e).1; omega) _
theorem rowAfterV {w1 w9 : World} {o : Obj} {mb B : Nat} {m : Ms} {t : At} (h : MT w1 mb B m t) (hmb : mb < B) (hg : (w1.alloc o).grownBy w9 (Value.slice t.va m.vers.length t.vc).ownBlock) : w9.rowIs mb 28 14 (fun i => (cm m t : Array Value).getD i undef) :=
  (h.row.alloc o).of_block (hg.block mb (h.row.alloc o).lt (fun e => by have := (World.ownsRow.lt h.vs mb e.symm).1; omega))
/-- a version is being read, at block vb -/
structure VB (u mb B vb : Nat) (W : World) (m : Ms) (t : At) (w : World) (s : Except Nat (List Nat)) (cs : Array Value) : Prop where
  row : w.rowIs vb 51 6 (fun i => cs.getD i undef)
  mt : MT w mb B m t
  sa : SAt w u s
  bl : Below W.heap.size W w
  nv : ∀ k, (Value.slice t.va m.vers.length t.vc).ownBlock = some k → k < vb
  nn : ∀ k, (Value.slice t.na m.vec.length t.nc).ownBlock = some k → k < vb
  um : u < mb
  mB : mb < B
  Bv : B ≤ vb
  Wu : W.heap.size ≤ u
theorem VB.start {u mb B : Nat} {W w : World} {m : Ms} {t : At} {s : Except Nat (List Nat)} (hM : MT w mb B m t) (hS : SAt w u s) (hW : Below W.heap.size W w) (um : u < mb) (mB : mb < B) (hB : B ≤ w.heap.size) (Wu : W.heap.size ≤ u) (cs : Array Value) (h6 : cs.size = 6) :
    VB u mb B w.heap.size W m t (w.alloc (.cells cs 51)) s cs := by
  have hr := wirDe.row_new w cs 51
  rw [h6] at hr
  have hg : Gr u w (w.alloc (.cells cs 51)) := (Gr.refl u w).alloc _
  exact ⟨hr, hM.gr hg (by omega) (by omega), hS.alloc _, hW.alloc hW.size _, fun k e => (World.ownsRow.lt hM.vs k e).2, fun k e => (World.ownsRow.lt hM.ns k e).2, um, mB, hB, Wu⟩
theorem VB.call {u mb B vb : Nat} {W w w' : World} {m : Ms} {t : At} {s s' : Except Nat (List Nat)} {cs : Array Value} (h : VB u mb B vb W m t w s cs) (hs : SAt w' u s') (hg : Gr u w w') : VB u mb B vb W m t w' s' cs :=
  have h1 := h.um
  have h2 := h.mB
  have h3 := h.Bv
  ⟨h.row.of_block (hg.block vb h.row.lt (by omega)), h.mt.gr hg (by omega) (by omega), hs, h.bl.trans (hg.below h.bl.size h.Wu), h.nv, h.nn, h.um, h.mB, h.Bv, h.Wu⟩
theorem VB.put {u mb B vb : Nat} {W w : World} {m : Ms} {t : At} {s : Except Nat (List Nat)} {cs cs' : Array Value} (h : VB u mb B vb W m t w s cs) (i : Nat) (x : Value) (hc : ∀ j, j < 6 → (if j = i then x else cs.getD j undef) = cs'.getD j undef) : VB u mb B vb W m t (w.setCell ⟨vb, i, none⟩ x) s cs' :=
  have h1 := h.um
  have h2 := h.mB
  have h3 := h.Bv
  have h4 := h.Wu
  ⟨(h.row.set i x).congr hc, ⟨h.mt.row.setOther (a := ⟨vb, i, none⟩) (by show mb ≠ vb; omega) x, own_put h.mt.vs (fun e => by have := h.nv _ e; simp at this) x, own_put h.mt.ns (fun e => by have := h.nn _ e; simp at this) x⟩,
    h.sa.put (p := ⟨vb, i, none⟩) (by show u < vb; omega) x, h.bl.setCell (p := ⟨vb, i, none⟩) (by show W.heap.size ≤ vb; omega) x, h.nv, h.nn, h.um, h.mB, h.Bv, h.Wu⟩
theorem j6 {P : Nat → Prop} (h0 : P 0) (h1 : P 1) (h2 : P 2) (h3 : P 3) (h4 : P 4) (h5 : P 5) : ∀ j, j < 6 → P j := by
  intro j hj
  match j, hj with
  | 0, _ => exact h0
  | 1, _ => exact h1
  | 2, _ => exact h2
  | 3, _ => exact h3
  | 4, _ => exact h4
  | 5, _ => exact h5
theorem lim_on (s : Except Nat (List Nat)) (r : R Nat) (lim err : Nat) : on s (rLim r lim err) = on (stt (on s r)) (rMost (vl 0 (on s r)) lim err) := by rw [lim_most, on_seq s r _ 0]
abbrev cv0 (key val : ByteArray) : Array Value := #[.string key, .string val, .bool false, .int .u64 0, .int .i64 0, .int .i64 0]
theorem add_u64 (a b : Nat) : IntKind.u64.wrap ((b : Int) + (a : Int)) = (((a + b) % 18446744073709551616 : Nat) : Int) := by
  rw [IntKind.wrap_u64]; omega
theorem one_bool (g : Nat) : ((g : Int) == 1) = (g == 1) := by
  by_cases h : g = 1
  · subst h; rfl
  · rw [beq_eq_false_iff_ne.2 h, beq_eq_false_iff_ne]; omega
/-- numbers that are read have 64 bits -/
theorem num_lt {s : Except Nat (List Nat)} (v : Int) (k : Nat) (hk : k ≤ 8) (hs : ∀ l, s = .ok l → ∀ c ∈ l, c < 256) : vl 0 (on s (rn v k)) < 18446744073709551616 := by
  cases s with
  | error e => exact Nat.succ_pos _
  | ok l =>
    have hl := hs l rfl
    unfold on rn
    by_cases hv : v = 1
    · simp only [if_pos hv]
      rcases h : rWide k l with e | ⟨n, t⟩
      · exact Nat.succ_pos _
      · have := ((is_wide k).bw l n t hl h).1
        have h2 : (256 : Nat) ^ k ≤ 256 ^ 8 := Nat.pow_le_pow_right (by decide) hk
        have h3 : (256 : Nat) ^ 8 = 18446744073709551616 := by decide
        show n < _
        omega
    · simp only [if_neg hv]
      rcases h : rShort l with e | ⟨n, t⟩
      · exact Nat.succ_pos _
      · exact (is_short.bw l n t hl h).1
set_option maxRecDepth 100000 in
set_option maxHeartbeats 4000000 in
theorem part_5 {u mb B : Nat} {W w : World} {m : Ms} {t : At} {l : List Nat} (v : Int) (hv : v = 1 ∨ v = 2) (hs : SAt w u (.ok l)) (hm : MT w mb B m t) (hu : u < mb) (hmb : mb < B) (hB : B ≤ w.heap.size) (hW : Below W.heap.size W w) (hWu : W.heap.size ≤ u) (hm0 : m.vers = []) :
    Calls Try.prog 41 #[.pointer (some ⟨u, 0, none⟩), .int .i64 v, .int .i64 5, .pointer (some ⟨mb, 0, none⟩)] w (PR u mb B W v 5 m l) := by
  have hn := Lib.hid (number_s v hv 2 w hs (by omega) (by omega))
  replace hm := Lib.hid hm
  replace hW := Lib.hid hW
  have hon : Hid (on (.ok l) (rPart v 5 m) = on (stt (on (stt (on (.ok l) (rn v 2))) (rMost (vl 0 (on (.ok l) (rn v 2))) 4096 6)))
    ((rRow (stV v) (rVerD v) 0 (vl 0 (on (stt (on (.ok l) (rn v 2))) (rMost (vl 0 (on (.ok l) (rn v 2))) 4096 6)))).seq fun x => R.ret ({ m with vers := x }, decide (0 < vl 0 (on (stt (on (.ok l) (rn v 2))) (rMost (vl 0 (on (.ok l) (rn v 2))) 4096 6)))))) := Lib.hid (by
      show on (.ok l) ((rLim (rn v 2) 4096 6).seq _) = _
      rw [on_seq (.ok l) (rLim (rn v 2) 4096 6) _ 0, lim_most, on_seq (.ok l) (rn v 2) _ 0])
  obtain ⟨i0, hi, hz0, hz1, hz2⟩ := info_parts infoV
  clear hs
  go_enter Try.func41, Try.ntmps41
  go_wp2_with (fail)
  refine hn.out.mono ?_
  rintro e w1 ⟨rfl, hs1, hg1⟩
  have hm1 := Lib.hid (hm.out.gr hg1 (by omega) (by omega))
  have hW1 := Lib.hid (hW.out.trans (hg1.below hW.out.size hWu))
  have hB1 : B ≤ w1.heap.size := by have := hg1.size; omega
  have hms := Lib.hid (most_s (vl 0 (on (.ok l) (rn v 2))) 4096 6 (by decide) (by decide) w1 hs1)
  clear hs1 hg1 hn hm hW
  unfold wirRb.vU
  generalize stt (on (.ok l) (rn v 2)) = s1 at *
  generalize vl 0 (on (.ok l) (rn v 2)) = x0 at *
  go_wp2_with (fail)
  refine hms.out.mono ?_
  rintro e w2 ⟨rfl, hs2, hg2⟩
  have hm2 := Lib.hid (hm1.out.gr hg2 (by omega) (by omega))
  have hW2 := Lib.hid (hW1.out.trans (hg2.below hW1.out.size hWu))
  have hB2 : B ≤ w2.heap.size := by have := hg2.size; omega
  have hn32 := most_le s1 x0 4096 6
  replace hs2 := Lib.hid hs2
  clear hg2 hms hm1 hW1
  unfold vN
  generalize vl 0 (on s1 (rMost x0 4096 6)) = n at *
  generalize stt (on s1 (rMost x0 4096 6)) = s2 at *
  go_wp2
  go_loopw [10, 11, 12] (fun av i p wr => ∃ (k : Nat) (xs : List Vr) (s : Except Nat (List Nat)) (t' : At) (a : Nat), i = .int .i64 k ∧ k ≤ n ∧ av = .int .u64 a ∧ a < 18446744073709551616 ∧ Hid (xs.length = k) ∧ Hid (Ch s2 (stV v) (rVerD v) n s (if v = 1 then 0 else a) k xs) ∧ Hid (MT wr mb B { m with vers := xs } t') ∧ Hid (SAt wr u s) ∧ Hid (Below W.heap.size W wr) ∧ B ≤ wr.heap.size) (fun _ i _ _ => n - (intOf i).toNat)
  case atStart => exact ⟨0, [], s2, t, 0, rfl, by omega, rfl, by decide, Lib.hid rfl, Lib.hid (by rw [ite_self]; exact Ch.start _ _ _ _), Lib.hid (by have := hm2.out; rw [show ({ m with vers := [] } : Ms) = m by rw [← hm0]]; exact this), hs2, hW2, hB2⟩
  case round =>
    clear hs2 hW2 hm2 hB2
    obtain ⟨k, xs, s, t', a, rfl, hk, rfl, ha, hxl, hC, hM, hS, hW, hBr⟩ := hrel
    have he := hS.out.err
    have hfin : Hid (n ≤ k ∨ er s ≠ 0 → PR u mb B W v 5 m l (.returned (.bool (decide (0 < n)))) wr) := Lib.hid fun q => by
      refine ⟨s, { m with vers := xs }, t', _, rfl, hS.out, hM.out, ?_, hW.out, fun h => by omega, fun _ => rfl⟩
      rw [hon.out, on_then (hC.out.done q)]
    by_cases hlt : k < n
    · by_cases hz : er s = 0
      · rw [hz] at he
        have hx4 : xs.length ≤ 4096 := by rw [hxl.out]; omega
        have hV : on s (rVerD v (if v = 1 then 0 else a)) = on s ((rTxt v 16).seq fun key => (rTxt v 64).seq fun val => (rLim (rWide 1) 1 3).seq fun g => (rn v 8).seq fun ts => (rLim (rn v 1) 3 1).seq fun dc => (rLim (rn v 4) 1073741824 1).seq fun tx =>
            R.ret ⟨key, val, g == 1, if v = 1 then ts else ((if v = 1 then 0 else a) + ts) % 18446744073709551616, dc, tx⟩) := rfl
        replace hV := Lib.hid (on_step hV ⟨#[]⟩)
        have ht1 := Lib.hid (text_s v hv 16 wr hS.out (by omega))
        clear hfin hS hz
        go_wp2_with (fail)
        refine ht1.out.mono ?_
        rintro e w3 ⟨rfl, hs3, hg3⟩
        replace hM := Lib.hid (hM.out.gr hg3 (show u < B by omega) (by omega))
        replace hW := Lib.hid (hW.out.trans (hg3.below hW.out.size hWu))
        replace hBr : B ≤ w3.heap.size := Nat.le_trans hBr hg3.size
        replace hV := Lib.hid (on_step hV.out ⟨#[]⟩)
        have ht2 := Lib.hid (text_s v hv 64 w3 hs3 (by omega))
        clear hs3 hg3 ht1 he
        unfold wirRb.vS
        generalize vl ⟨#[]⟩ (on s (rTxt v 16)) = key at *
        generalize stt (on s (rTxt v 16)) = s3 at *
        go_wp2_with (fail)
        refine ht2.out.mono ?_
        rintro e w4 ⟨rfl, hs4, hg4⟩
        replace hM := Lib.hid (hM.out.gr hg4 (show u < B by omega) (by omega))
        replace hW := Lib.hid (hW.out.trans (hg4.below hW.out.size hWu))
        replace hBr : B ≤ w4.heap.size := Nat.le_trans hBr hg4.size
        replace hV := hV.out
        unfold wirRb.vS
        generalize vl ⟨#[]⟩ (on s3 (rTxt v 64)) = val at *
        generalize stt (on s3 (rTxt v 64)) = s4 at *
        have hQ := Lib.hid (VB.start hM.out hs4 hW.out hu hmb hBr hWu (cv0 key val) rfl)
        have hwd := Lib.hid (wide_s 1 _ hQ.out.sa (by omega) (by omega))
        replace hV := on_step hV 0
        rw [lim_on] at hV
        replace hV := Lib.hid hV
        clear hs4 hg4 ht2 hM hW
        go_wp2_with (fail)
        refine hwd.out.mono ?_
        rintro e w5 ⟨rfl, hs5, hg5⟩
        replace hQ := Lib.hid (hQ.out.call hs5 hg5)
        have hms := Lib.hid (most_s (vl 0 (on s4 (rWide 1))) 1 3 (by decide) (by decide) w5 hs5)
        clear hs5 hg5 hwd
        unfold wirRb.vU
        generalize vl 0 (on s4 (rWide 1)) = y5 at *
        generalize stt (on s4 (rWide 1)) = s5 at *
        go_wp2_with (fail)
        refine hms.out.mono ?_
        rintro e w6 ⟨rfl, hs6, hg6⟩
        replace hQ := hQ.out.call hs6 hg6
        clear hs6 hg6 hms
        unfold vN
        generalize vl 0 (on s5 (rMost y5 1 3)) = g at *
        generalize stt (on s5 (rMost y5 1 3)) = s6 at *
        obtain ⟨gb, hgb, hgb2⟩ : ∃ b : Bool, ((g : Int) == 1) = b ∧ (g == 1) = b := ⟨_, one_bool g, rfl⟩
        rw [hgb2] at hV
        have q2 := hQ.row.cell (i := 2) (by omega)
        have qf := hQ.row.frozen 2
        replace hQ := hQ.put (cs' := #[.string key, .string val, .bool gb, .int .u64 0, .int .i64 0, .int .i64 0]) 2 (.bool gb) (j6 rfl rfl rfl rfl rfl rfl)
        have hnm := Lib.hid (number_s v hv 8 _ hQ.sa (by omega) (by omega))
        have hts := Lib.hid (num_lt (s := s6) v 8 (by decide) hQ.sa.lt256)
        replace hQ := Lib.hid hQ
        replace hV := Lib.hid (on_step hV.out 0)
        go_wp2_with (fail)
        refine hnm.out.mono ?_
        rintro e w7 ⟨rfl, hs7, hg7⟩
        replace hQ := hQ.out.call hs7 hg7
        clear hs7 hg7 hnm q2 qf
        unfold wirRb.vU
        generalize vl 0 (on s6 (rn v 8)) = ts at *
        generalize stt (on s6 (rn v 8)) = s7 at *
        replace hts := hts.out
        have q3 := hQ.row.cell (i := 3) (by omega)
        have qf := hQ.row.frozen 3
        have hadd := add_u64 a ts
        have ham : (a + ts) % 18446744073709551616 < 18446744073709551616 := Nat.mod_lt _ (by decide)
        obtain ⟨tv, htv, htl, ht1', htg, hQ⟩ : ∃ tv : Nat, (if v = 1 then ts else ((if v = 1 then 0 else a) + ts) % 18446744073709551616) = tv ∧ tv < 18446744073709551616 ∧ (v = 1 → ts = tv) ∧ (v = 2 → IntKind.u64.wrap ((ts : Int) + (a : Int)) = (tv : Int)) ∧ VB u mb B w4.heap.size W { m with vers := xs } t' w7 s7 #[.string key, .string val, .bool gb, .int .u64 0, .int .i64 0, .int .i64 0] := by
          refine ⟨_, rfl, ?_, ?_, ?_, hQ⟩
          · by_cases q : v = 1
            · rw [if_pos q]; exact hts
            · rw [if_neg q, if_neg q]; exact ham
          · intro q; rw [if_pos q]
          · rintro rfl
            rw [if_neg (by decide), if_neg (by decide)]; exact hadd
        rw [htv] at hV
        replace hV := hV.out
        clear hadd ham
        have hQ1 := hQ.put (cs' := #[.string key, .string val, .bool gb, .int .u64 ts, .int .i64 0, .int .i64 0]) 3 (.int .u64 ts) (j6 rfl rfl rfl rfl rfl rfl)
        have hv' := hv
        rcases hv' with hv1 | hv1
        · have hq : (v == 2) = false := by rw [beq_eq_false_iff_ne]; omega
          obtain rfl := ht1' hv1
          replace hQ := hQ1
          clear hQ1 htg ht1' hv1
          have hnm := Lib.hid (number_s v hv 1 _ hQ.sa (by omega) (by omega))
          replace hV := on_step hV 0
          rw [lim_on] at hV
          replace hV := Lib.hid hV
          replace hQ := Lib.hid hQ
          go_wp2_with (fail)
          refine hnm.out.mono ?_
          rintro e w8a ⟨rfl, hs, hg⟩
          replace hQ := Lib.hid (hQ.out.call hs hg)
          have hms := Lib.hid (most_s (vl 0 (on s7 (rn v 1))) 3 1 (by decide) (by decide) _ hs)
          clear hs hg hnm
          unfold wirRb.vU
          generalize vl 0 (on s7 (rn v 1)) = y8 at *
          generalize stt (on s7 (rn v 1)) = s8 at *
          go_wp2_with (fail)
          refine hms.out.mono ?_
          rintro e w8b ⟨rfl, hs, hg⟩
          replace hQ := hQ.out.call hs hg
          replace hV := hV.out
          clear hs hg hms
          unfold vN
          generalize vl 0 (on s8 (rMost y8 3 1)) = dc at *
          generalize stt (on s8 (rMost y8 3 1)) = s9 at *
          have qa := hQ.row.cell (i := 4) (by omega)
          have qf := hQ.row.frozen 4
          replace hQ := hQ.put (cs' := #[.string key, .string val, .bool gb, .int .u64 ts, .int .i64 (dc : Nat), .int .i64 0]) 4 (.int .i64 (dc : Nat)) (j6 rfl rfl rfl rfl rfl rfl)
          have hnm := Lib.hid (number_s v hv 4 _ hQ.sa (by omega) (by omega))
          replace hV := on_step hV 0
          rw [lim_on] at hV
          replace hV := Lib.hid hV
          replace hQ := Lib.hid hQ
          go_wp2_with (fail)
          refine hnm.out.mono ?_
          rintro e w9a ⟨rfl, hs, hg⟩
          replace hQ := Lib.hid (hQ.out.call hs hg)
          have hms := Lib.hid (most_s (vl 0 (on s9 (rn v 4))) 1073741824 1 (by decide) (by decide) _ hs)
          clear hs hg hnm
          unfold wirRb.vU
          generalize vl 0 (on s9 (rn v 4)) = y9 at *
          generalize stt (on s9 (rn v 4)) = s10 at *
          go_wp2_with (fail)
          refine hms.out.mono ?_
          rintro e w9b ⟨rfl, hs, hg⟩
          replace hQ := hQ.out.call hs hg
          replace hV := hV.out
          clear hs hg hms
          unfold vN
          generalize vl 0 (on s10 (rMost y9 1073741824 1)) = tx at *
          generalize stt (on s10 (rMost y9 1073741824 1)) = s11 at *
          have qa := hQ.row.cell (i := 5) (by omega)
          have qf := hQ.row.frozen 5
          replace hQ := hQ.put (cs' := #[.string key, .string val, .bool gb, .int .u64 ts, .int .i64 (dc : Nat), .int .i64 (tx : Nat)]) 5 (.int .i64 (tx : Nat)) (j6 rfl rfl rfl rfl rfl rfl)
          replace hV := Lib.hid hV
          replace hQ := Lib.hid hQ
          go_upto_region 30 with fail
          generalize w9b.setCell ⟨w4.heap.size, 5, none⟩ (.int .i64 (tx : Nat)) = wx at *
          have z0 : wx.cell? ⟨w4.heap.size, 0, none⟩ = some (.string key) := hQ.out.row.cell (i := 0) (by omega)
          have z1 : wx.cell? ⟨w4.heap.size, 1, none⟩ = some (.string val) := hQ.out.row.cell (i := 1) (by omega)
          have z2 : wx.cell? ⟨w4.heap.size, 2, none⟩ = some (.bool gb) := hQ.out.row.cell (i := 2) (by omega)
          have z3 : wx.cell? ⟨w4.heap.size, 3, none⟩ = some (.int .u64 ts) := hQ.out.row.cell (i := 3) (by omega)
          have z4 : wx.cell? ⟨w4.heap.size, 4, none⟩ = some (.int .i64 dc) := hQ.out.row.cell (i := 4) (by omega)
          have z5 : wx.cell? ⟨w4.heap.size, 5, none⟩ = some (.int .i64 tx) := hQ.out.row.cell (i := 5) (by omega)
          have z6 : wx.cell? ⟨mb, 6, none⟩ = some (.slice t'.va xs.length t'.vc) := hQ.out.mt.row.cell (i := 6) (by omega)
          have lt1 := hQ.out.row.lt
          have lt2 := hQ.out.mt.row.lt
          have hQd := Lib.hid (hQ.out.call (hQ.out.sa.below (Below.refl _ _).drew) (Gr.of_below (Below.refl _ _).drew))
          have hst : Hid (∀ W' : World, Stand (W'.alloc (.cells #[.string key, .string val, .bool gb, .int .u64 ts, .int .i64 dc, .int .i64 tx] 51)) (some ⟨W'.heap.size, 0, none⟩) 1 (cv ⟨key, val, gb, ts, dc, tx⟩).toList) := Lib.hid (fun W' => by have := stand_new W' (cv ⟨key, val, gb, ts, dc, tx⟩).toList 51 1; simpa using this)
          have hBd : Hid (B ≤ wx.drew.heap.size) := Lib.hid (Nat.le_trans hQ.out.Bv (Nat.le_of_lt lt1))
          have hlen := Lib.hid (vcells_len xs)
          clear hQ qa qf q3
          go_wp2
          go_region_law (refine step_gen rfl (.tmp 144) (.tmp 146) 23 rfl B 51 i0 _ 6 64 Try.underlying23 hi hz0 hz1 hz2 rfl (by decide) (.slice t'.va xs.length t'.vc) xs.length _ (by rfl) (hQd.out.mt.vs.alloc _) (some ⟨_, 0, none⟩) 1 1 (cv ⟨key, val, gb, ts, dc, tx⟩).toList (by rfl) rfl (hst.out _) (cv_one _) (by unfold maxLen; omega) (by omega) (Nat.le_trans hBd.out (by simp)) ?_; intro A9 c9 w10 hr9 hg9 hat9; have z9 := rowAfterV hQd.out.mt hmb hg9; have q7 := z9.cell (i := 6) (by omega); have f7 := z9.frozen 6; clear z9)
          all_goals
            have hM9 := Lib.hid (addVer hQd.out.mt hmb hr9 hg9)
            have hlt3 := World.ownsRow.lt hQd.out.mt.vs
            have hS9 := Lib.hid ((SAt.grown (hQd.out.sa.alloc _) hg9 (fun q e => by have := (hlt3 q e).1; omega)).put (p := ⟨mb, 6, none⟩) hu (.slice A9 (xs.length + 1) c9))
            have hW9 := Lib.hid ((((hQd.out.bl.alloc hQd.out.bl.size _).grown hg9 (by have := hQd.out.bl.size; simp at this ⊢; omega) (fun q e => by have := (hlt3 q e).1; omega))).setCell (p := ⟨mb, 6, none⟩) (by show W.heap.size ≤ mb; omega) (.slice A9 (xs.length + 1) c9))
            have hB9 : B ≤ (w10.setCell ⟨mb, 6, none⟩ (.slice A9 (xs.length + 1) c9)).heap.size := by rw [World.size_setCell]; exact Nat.le_trans hBd.out (Nat.le_trans (by simp) hg9.size)
            have hC9 : Hid (Ch s2 (stV v) (rVerD v) n s11 (if v = 1 then 0 else ts) (k + 1) (xs ++ [⟨key, val, gb, ts, dc, tx⟩])) := Lib.hid (hC.out.step hlt hV.out)
            clear lt1 lt2 hst hBd hlen hlt3 hr9 hg9 hat9 hC z0 z1 z2 z3 z4 z5 z6 hV hQd
            generalize w10.setCell ⟨mb, 6, none⟩ (.slice A9 (xs.length + 1) c9) = w11 at *
            go_wp2
            go_roundw
            case rel => exact ⟨k + 1, _, _, _, ts, by go_num, by omega, rfl, by assumption, Lib.hid (by rw [List.length_append, hxl.out]; rfl), hC9, hM9, hS9, hW9, hB9⟩
            case measure => simp [intOf]; omega
        · have hq : (v == 2) = true := by rw [beq_iff_eq]; exact hv1
          replace htg := htg hv1
          replace hQ := hQ1.put (cs' := #[.string key, .string val, .bool gb, .int .u64 tv, .int .i64 0, .int .i64 0]) 3 (.int .u64 tv) (j6 rfl rfl rfl rfl rfl rfl)
          clear hQ1 ht1' hv1
          have hnm := Lib.hid (number_s v hv 1 _ hQ.sa (by omega) (by omega))
          replace hV := on_step hV 0
          rw [lim_on] at hV
          replace hV := Lib.hid hV
          replace hQ := Lib.hid hQ
          go_wp2_with (fail)
          refine hnm.out.mono ?_
          rintro e w8a ⟨rfl, hs, hg⟩
          replace hQ := Lib.hid (hQ.out.call hs hg)
          have hms := Lib.hid (most_s (vl 0 (on s7 (rn v 1))) 3 1 (by decide) (by decide) _ hs)
          clear hs hg hnm
          unfold wirRb.vU
          generalize vl 0 (on s7 (rn v 1)) = y8 at *
          generalize stt (on s7 (rn v 1)) = s8 at *
          go_wp2_with (fail)
          refine hms.out.mono ?_
          rintro e w8b ⟨rfl, hs, hg⟩
          replace hQ := hQ.out.call hs hg
          replace hV := hV.out
          clear hs hg hms
          unfold vN
          generalize vl 0 (on s8 (rMost y8 3 1)) = dc at *
          generalize stt (on s8 (rMost y8 3 1)) = s9 at *
          have qa := hQ.row.cell (i := 4) (by omega)
          have qf := hQ.row.frozen 4
          replace hQ := hQ.put (cs' := #[.string key, .string val, .bool gb, .int .u64 tv, .int .i64 (dc : Nat), .int .i64 0]) 4 (.int .i64 (dc : Nat)) (j6 rfl rfl rfl rfl rfl rfl)
          have hnm := Lib.hid (number_s v hv 4 _ hQ.sa (by omega) (by omega))
          replace hV := on_step hV 0
          rw [lim_on] at hV
          replace hV := Lib.hid hV
          replace hQ := Lib.hid hQ
          go_wp2_with (fail)
          refine hnm.out.mono ?_
          rintro e w9a ⟨rfl, hs, hg⟩
          replace hQ := Lib.hid (hQ.out.call hs hg)
          have hms := Lib.hid (most_s (vl 0 (on s9 (rn v 4))) 1073741824 1 (by decide) (by decide) _ hs)
          clear hs hg hnm
          unfold wirRb.vU
          generalize vl 0 (on s9 (rn v 4)) = y9 at *
          generalize stt (on s9 (rn v 4)) = s10 at *
          go_wp2_with (fail)
          refine hms.out.mono ?_
          rintro e w9b ⟨rfl, hs, hg⟩
          replace hQ := hQ.out.call hs hg
          replace hV := hV.out
          clear hs hg hms
          unfold vN
          generalize vl 0 (on s10 (rMost y9 1073741824 1)) = tx at *
          generalize stt (on s10 (rMost y9 1073741824 1)) = s11 at *
          have qa := hQ.row.cell (i := 5) (by omega)
          have qf := hQ.row.frozen 5
          replace hQ := hQ.put (cs' := #[.string key, .string val, .bool gb, .int .u64 tv, .int .i64 (dc : Nat), .int .i64 (tx : Nat)]) 5 (.int .i64 (tx : Nat)) (j6 rfl rfl rfl rfl rfl rfl)
          replace hV := Lib.hid hV
          replace hQ := Lib.hid hQ
          go_upto_region 30 with fail
          generalize w9b.setCell ⟨w4.heap.size, 5, none⟩ (.int .i64 (tx : Nat)) = wx at *
          have z0 : wx.cell? ⟨w4.heap.size, 0, none⟩ = some (.string key) := hQ.out.row.cell (i := 0) (by omega)
          have z1 : wx.cell? ⟨w4.heap.size, 1, none⟩ = some (.string val) := hQ.out.row.cell (i := 1) (by omega)
          have z2 : wx.cell? ⟨w4.heap.size, 2, none⟩ = some (.bool gb) := hQ.out.row.cell (i := 2) (by omega)
          have z3 : wx.cell? ⟨w4.heap.size, 3, none⟩ = some (.int .u64 tv) := hQ.out.row.cell (i := 3) (by omega)
          have z4 : wx.cell? ⟨w4.heap.size, 4, none⟩ = some (.int .i64 dc) := hQ.out.row.cell (i := 4) (by omega)
          have z5 : wx.cell? ⟨w4.heap.size, 5, none⟩ = some (.int .i64 tx) := hQ.out.row.cell (i := 5) (by omega)
          have z6 : wx.cell? ⟨mb, 6, none⟩ = some (.slice t'.va xs.length t'.vc) := hQ.out.mt.row.cell (i := 6) (by omega)
          have lt1 := hQ.out.row.lt
          have lt2 := hQ.out.mt.row.lt
          have hQd := Lib.hid (hQ.out.call (hQ.out.sa.below (Below.refl _ _).drew) (Gr.of_below (Below.refl _ _).drew))
          have hst : Hid (∀ W' : World, Stand (W'.alloc (.cells #[.string key, .string val, .bool gb, .int .u64 tv, .int .i64 dc, .int .i64 tx] 51)) (some ⟨W'.heap.size, 0, none⟩) 1 (cv ⟨key, val, gb, tv, dc, tx⟩).toList) := Lib.hid (fun W' => by have := stand_new W' (cv ⟨key, val, gb, tv, dc, tx⟩).toList 51 1; simpa using this)
          have hBd : Hid (B ≤ wx.drew.heap.size) := Lib.hid (Nat.le_trans hQ.out.Bv (Nat.le_of_lt lt1))
          have hlen := Lib.hid (vcells_len xs)
          clear hQ qa qf q3
          go_wp2
          go_region_law (refine step_gen rfl (.tmp 144) (.tmp 146) 23 rfl B 51 i0 _ 6 64 Try.underlying23 hi hz0 hz1 hz2 rfl (by decide) (.slice t'.va xs.length t'.vc) xs.length _ (by rfl) (hQd.out.mt.vs.alloc _) (some ⟨_, 0, none⟩) 1 1 (cv ⟨key, val, gb, tv, dc, tx⟩).toList (by rfl) rfl (hst.out _) (cv_one _) (by unfold maxLen; omega) (by omega) (Nat.le_trans hBd.out (by simp)) ?_; intro A9 c9 w10 hr9 hg9 hat9; have z9 := rowAfterV hQd.out.mt hmb hg9; have q7 := z9.cell (i := 6) (by omega); have f7 := z9.frozen 6; clear z9)
          all_goals
            have hM9 := Lib.hid (addVer hQd.out.mt hmb hr9 hg9)
            have hlt3 := World.ownsRow.lt hQd.out.mt.vs
            have hS9 := Lib.hid ((SAt.grown (hQd.out.sa.alloc _) hg9 (fun q e => by have := (hlt3 q e).1; omega)).put (p := ⟨mb, 6, none⟩) hu (.slice A9 (xs.length + 1) c9))
            have hW9 := Lib.hid ((((hQd.out.bl.alloc hQd.out.bl.size _).grown hg9 (by have := hQd.out.bl.size; simp at this ⊢; omega) (fun q e => by have := (hlt3 q e).1; omega))).setCell (p := ⟨mb, 6, none⟩) (by show W.heap.size ≤ mb; omega) (.slice A9 (xs.length + 1) c9))
            have hB9 : B ≤ (w10.setCell ⟨mb, 6, none⟩ (.slice A9 (xs.length + 1) c9)).heap.size := by rw [World.size_setCell]; exact Nat.le_trans hBd.out (Nat.le_trans (by simp) hg9.size)
            have hC9 : Hid (Ch s2 (stV v) (rVerD v) n s11 (if v = 1 then 0 else tv) (k + 1) (xs ++ [⟨key, val, gb, tv, dc, tx⟩])) := Lib.hid (hC.out.step hlt hV.out)
            clear lt1 lt2 hst hBd hlen hlt3 hr9 hg9 hat9 hC z0 z1 z2 z3 z4 z5 z6 hV hQd
            generalize w10.setCell ⟨mb, 6, none⟩ (.slice A9 (xs.length + 1) c9) = w11 at *
            go_wp2
            go_roundw
            case rel => exact ⟨k + 1, _, _, _, tv, by go_num, by omega, rfl, by assumption, Lib.hid (by rw [List.length_append, hxl.out]; rfl), hC9, hM9, hS9, hW9, hB9⟩
            case measure => simp [intOf]; omega
      · have hne : ((er s : Int) == 0) = false := by rw [beq_eq_false_iff_ne]; omega
        replace hfin := Lib.hid (hfin.out (.inr hz))
        clear hC hM hS hW hz
        generalize er s = E at *
        go_wp2
        go_ret
        exact hfin.out
    · replace hfin := Lib.hid (hfin.out (.inl (by omega)))
      clear hC hM hS hW
      generalize er s = E at *
      go_wp2
      go_ret
      exact hfin.out
end Go.Proofs.Ytkbhmeajgmecoaa.wirRe
/- The document's reader: commands. -/
namespace Go.Proofs.Ytkbhmeajgmecoaa.wirRf
open Go.ChangeShapes Go.WideShapes Go.ChangeAt Go.RowKit Go.Deep
open numM rowA byt numA numB numC numN numD numE wirM wirA wirL wirP wirQ wirR wirDa wirDb wirDf wirDg wirDh wirDi wirRa wirRb wirRc wirRd wirRe

theorem MT.grown {w w' : World} {mb B b : Nat} {m : Ms} {t : At} {v : Value} {n : Nat} {xs : List Value} (h : MT w mb B m t) (hB : mb < B) (hg : w.grownBy w' v.ownBlock) (ho : w.ownsRow b 3 1 v n xs) (hb : B ≤ b) : MT w' mb B m t :=
  ⟨h.row.of_block (hg.block mb h.row.lt (fun e => by have := (World.ownsRow.lt ho mb e.symm).1; omega)),
    own_blk h.vs (fun k e => hg.block k (World.ownsRow.lt h.vs k e).2 (fun q => rows_ne h.vs ho (by decide) k e q.symm)),
    own_blk h.ns (fun k e => hg.block k (World.ownsRow.lt h.ns k e).2 (fun q => rows_ne h.ns ho (by decide) k e q.symm))⟩
theorem infoI : (Try.prog.info? 3).map (fun i => (i.zero, i.size, i.bytes)) = some (some (.int .i64 0), 1, 8) := by kernel_rfl
theorem neq_cmd (c : Cm) (w : World) :
    (binOp .neq 26 (.agg (cc c)) (.agg #[.int .i64 0, .int .i64 0, .int .i64 0, .int .i64 0, .int .i64 0, .string ⟨#[]⟩])).run Try.prog w = .ok (.bool (decide (c ≠ Cm.nought))) w := by
  obtain ⟨a, b, d, e, f, s⟩ := c
  have size_zero : s.toList = [] ↔ s = ⟨#[]⟩ := by
    rw [ByteArray.toList_eq]
    constructor
    · intro h
      cases s with
      | mk d => simp at h; rw [h]
    · rintro rfl; rfl
  unfold Cm.nought
  go_simp
  by_cases h1 : a = 0 <;> by_cases h2 : b = 0 <;> by_cases h3 : d = 0 <;> by_cases h4 : e = 0 <;> by_cases h5 : f = 0 <;> by_cases h6 : s = ⟨#[]⟩ <;> simp [h1, h2, h3, h4, h5, h6]
def iv (xs : List Int) : List Value := xs.map fun x => .int .i64 x
theorem five {xs : List Int} (h : xs.length = 5) : ∃ a b c d e, xs = [a, b, c, d, e] := by
  match xs, h with
  | [a, b, c, d, e], _ => exact ⟨a, b, c, d, e, rfl⟩
/-- the command's six cells are stored -/
theorem MT.cmd {w : World} {mb B : Nat} {m : Ms} {t : At} (h : MT w mb B m t) (hB : mb < B) (c : Cm) :
    MT ((((((w.setCell ⟨mb, 8, none⟩ (.int .i64 c.kind)).setCell ⟨mb, 9, none⟩ (.int .i64 c.dc)).setCell ⟨mb, 10, none⟩ (.int .i64 c.shard)).setCell ⟨mb, 11, none⟩ (.int .i64 c.node)).setCell ⟨mb, 12, none⟩ (.int .i64 c.mode)).setCell ⟨mb, 13, none⟩ (.string c.key)) mb B { m with cmd := c } t := by
  have g1 := h.set (m' := { m with cmd := { m.cmd with kind := c.kind } }) hB 8 (.int .i64 c.kind) rfl rfl (j14 rfl rfl rfl rfl rfl rfl rfl rfl rfl rfl rfl rfl rfl rfl)
  have g2 := g1.set (m' := { m with cmd := { m.cmd with kind := c.kind, dc := c.dc } }) hB 9 (.int .i64 c.dc) rfl rfl (j14 rfl rfl rfl rfl rfl rfl rfl rfl rfl rfl rfl rfl rfl rfl)
  have g3 := g2.set (m' := { m with cmd := { m.cmd with kind := c.kind, dc := c.dc, shard := c.shard } }) hB 10 (.int .i64 c.shard) rfl rfl (j14 rfl rfl rfl rfl rfl rfl rfl rfl rfl rfl rfl rfl rfl rfl)
  have g4 := g3.set (m' := { m with cmd := { m.cmd with kind := c.kind, dc := c.dc, shard := c.shard, node := c.node } }) hB 11 (.int .i64 c.node) rfl rfl (j14 rfl rfl rfl rfl rfl rfl rfl rfl rfl rfl rfl rfl rfl rfl)
  have g5 := g4.set (m' := { m with cmd := { m.cmd with kind := c.kind, dc := c.dc, shard := c.shard, node := c.node, mode := c.mode } }) hB 12 (.int .i64 c.mode) rfl rfl (j14 rfl rfl rfl rfl rfl rfl rfl rfl rfl rfl rfl rfl rfl rfl)
  exact g5.set (m' := { m with cmd := c }) hB 13 (.string c.key) rfl rfl (j14 rfl rfl rfl rfl rfl rfl rfl rfl rfl rfl rfl rfl rfl rfl)
/-- the five numbers lie at g -/
abbrev SK (u mb g : Nat) (a b d e f : Int) (w : World) : Prop :=
  w.cell? ⟨g, 0, none⟩ = some (.int .i64 a) ∧ w.cell? ⟨g, 1, none⟩ = some (.int .i64 b) ∧ w.cell? ⟨g, 2, none⟩ = some (.int .i64 d) ∧ w.cell? ⟨g, 3, none⟩ = some (.int .i64 e) ∧ w.cell? ⟨g, 4, none⟩ = some (.int .i64 f) ∧ g < w.heap.size ∧ g ≠ mb ∧ g ≠ u
theorem SK.block {u mb g : Nat} {a b d e f : Int} {w w' : World} (h : SK u mb g a b d e f w) (hb : w'.heap[g]? = w.heap[g]?) (hs : w.heap.size ≤ w'.heap.size) : SK u mb g a b d e f w' := by
  have c : ∀ i, w'.cell? ⟨g, i, none⟩ = w.cell? ⟨g, i, none⟩ := fun i => World.cell?_of_block (a := ⟨g, i, none⟩) hb
  obtain ⟨h0, h1, h2, h3, h4, h5, h6, h7⟩ := h
  exact ⟨(c 0).trans h0, (c 1).trans h1, (c 2).trans h2, (c 3).trans h3, (c 4).trans h4, Nat.lt_of_lt_of_le h5 hs, h6, h7⟩
theorem SK.gr {u mb g : Nat} {a b d e f : Int} {w w' : World} (h : SK u mb g a b d e f w) (hg : Gr u w w') : SK u mb g a b d e f w' :=
  h.block (hg.block g h.2.2.2.2.2.1 h.2.2.2.2.2.2.2) hg.size
theorem SK.set1 {u mb g : Nat} {a b d e f : Int} {w : World} (h : SK u mb g a b d e f w) (i : Nat) (x : Value) : SK u mb g a b d e f (w.setCell ⟨mb, i, none⟩ x) :=
  h.block (Below.heap_setCell w ⟨mb, i, none⟩ x g h.2.2.2.2.2.2.1) (by rw [World.size_setCell]; exact Nat.le_refl _)
theorem SK.set6 {u mb g : Nat} {a b d e f : Int} {w : World} (h : SK u mb g a b d e f w) (x0 x1 x2 x3 x4 x5 : Value) :
    SK u mb g a b d e f ((((((w.setCell ⟨mb, 8, none⟩ x0).setCell ⟨mb, 9, none⟩ x1).setCell ⟨mb, 10, none⟩ x2).setCell ⟨mb, 11, none⟩ x3).setCell ⟨mb, 12, none⟩ x4).setCell ⟨mb, 13, none⟩ x5) :=
  (((((h.set1 8 x0).set1 9 x1).set1 10 x2).set1 11 x3).set1 12 x4).set1 13 x5
set_option maxRecDepth 100000 in
set_option maxHeartbeats 1000000 in
theorem part_7 {u mb B : Nat} {W w : World} {m : Ms} {t : At} {l : List Nat} (v : Int) (hv : v = 1 ∨ v = 2) (hs : SAt w u (.ok l)) (hm : MT w mb B m t) (hu : u < mb) (hmb : mb < B) (hB : B ≤ w.heap.size) (hW : Below W.heap.size W w) (hWu : W.heap.size ≤ u) :
    Calls Try.prog 41 #[.pointer (some ⟨u, 0, none⟩), .int .i64 v, .int .i64 7, .pointer (some ⟨mb, 0, none⟩)] w (PR u mb B W v 7 m l) := by
  have hfin : Hid (∀ (w' : World) (s s' : Except Nat (List Nat)) (xs : List Int) (key : ByteArray), on (.ok l) (rRow (fun _ => 0) (fun _ => rNum v) 0 5) = on s (R.ret xs) → on s (rTxt v 16) = on s' (R.ret key) → SAt w' u s' → MT w' mb B { m with cmd := cm5 xs key } t → Below W.heap.size W w' → PR u mb B W v 7 m l (.returned (.bool (decide (cm5 xs key ≠ Cm.nought)))) w') := Lib.hid fun w' s s' xs key h1 h2 h3 h4 h5 => by
    refine ⟨s', { m with cmd := cm5 xs key }, t, _, rfl, h3, h4, ?_, h5, fun h => by omega, fun h => by omega⟩
    show on (.ok l) ((rCmdD v).seq _) = _
    rw [cmd_row, seq_assoc, on_then h1, seq_assoc, on_then h2]; rfl
  have hs := Lib.hid (hs.alloc (.cells #[] 3))
  have hm := Lib.hid (hm.gr ((Gr.refl u w).alloc (.cells #[] 3)) (by omega) (by omega))
  have hW := Lib.hid (hW.alloc hW.size (.cells #[] 3))
  have ho : Hid ((w.alloc (.cells #[] 3)).ownsRow w.heap.size 3 1 (.slice (some ⟨w.heap.size, 0, none⟩) 0 0) 0 (iv [])) := Lib.hid ⟨rfl, .inr ⟨w.heap.size, 0, #[], rfl, Nat.le_refl _, heap_alloc_new _ _, Nat.le_refl _, Nat.zero_le _, rfl, rfl⟩⟩
  have hB1 : B ≤ (w.alloc (.cells #[] 3)).heap.size := Nat.le_trans hB (by simp)
  obtain ⟨i0, hi, hz0, hz1, hz2⟩ := info_parts infoI
  go_enter Try.func41, Try.ntmps41
  go_wp2
  generalize w.alloc (.cells #[] 3) = w1 at *
  go_loopw [15, 16] (fun lv i wr => ∃ (k : Nat) (xs : List Int) (s : Except Nat (List Nat)), i = .int .i64 k ∧ k ≤ 5 ∧ xs.length = k ∧ Hid (wr.ownsRow w.heap.size 3 1 lv k (iv xs)) ∧ Hid (Ch (.ok l) (fun _ => 0) (fun _ => rNum v) 5 s 0 k xs) ∧ Hid (MT wr mb B m t) ∧ Hid (SAt wr u s) ∧ Hid (Below W.heap.size W wr) ∧ B ≤ wr.heap.size ∧ Hid (w.heap.size ≤ wr.heap.size)) (fun _ i _ => 5 - (intOf i).toNat)
  case atStart => exact ⟨0, [], .ok l, rfl, by omega, rfl, ho, Lib.hid (Ch.start _ _ _ _), hm, hs, hW, hB1, Lib.hid (Nat.le_of_lt (World.ownsRow.lt ho.out w.heap.size rfl).2)⟩
  case round =>
    clear hs hm hW ho hB1
    obtain ⟨k, xs, s, rfl, hk, hxl, hO, hC, hM, hS, hW, hBr, hwr⟩ := hrel
    obtain ⟨A, c, rfl, -, -⟩ := own_form hO.out
    by_cases hlt : k < 5
    · have hx := Lib.hid (on_num (v := v) hS.out.lt256)
      replace hx : Hid (on s (rNum v) = _) := Lib.hid (hx.out.trans (by rw [lim_on]))
      have hnm := Lib.hid (number_s v hv 1 wr hS.out (by omega) (by omega))
      clear hS hfin
      go_wp2_with (fail)
      refine hnm.out.mono ?_
      rintro e w2 ⟨rfl, hs2, hg2⟩
      replace hM := Lib.hid (hM.out.gr hg2 (show u < B by omega) (by omega))
      replace hW := Lib.hid (hW.out.trans (hg2.below hW.out.size hWu))
      replace hBr : B ≤ w2.heap.size := Nat.le_trans hBr hg2.size
      replace hwr := Lib.hid (Nat.le_trans hwr.out hg2.size)
      replace hO := Lib.hid (own_gr hO.out hg2 (show u < w.heap.size by omega))
      have hms := Lib.hid (most_s (vl 0 (on s (rn v 1))) 255 1 (by decide) (by decide) w2 hs2)
      clear hs2 hg2 hnm
      unfold wirRb.vU
      generalize vl 0 (on s (rn v 1)) = y at *
      generalize stt (on s (rn v 1)) = s2 at *
      go_wp2_with (fail)
      refine hms.out.mono ?_
      rintro e w3 ⟨rfl, hs3, hg3⟩
      replace hM := Lib.hid (hM.out.gr hg3 (show u < B by omega) (by omega))
      replace hW := Lib.hid (hW.out.trans (hg3.below hW.out.size hWu))
      replace hBr : B ≤ w3.heap.size := Nat.le_trans hBr hg3.size
      replace hwr := Lib.hid (Nat.le_trans hwr.out hg3.size)
      replace hO := Lib.hid (own_gr hO.out hg3 (show u < w.heap.size by omega))
      replace hs3 := Lib.hid hs3
      clear hg3 hms
      unfold vN
      generalize vl 0 (on s2 (rMost y 255 1)) = x at *
      generalize stt (on s2 (rMost y 255 1)) = s3 at *
      go_wp2_with (at_builtin; refine wpList_gen rfl (.tmp 190) (.tmp 196) 56 rfl w.heap.size 3 i0 _ 1 8 Try.underlying56 hi hz0 hz1 hz2 rfl (by decide) (.slice A k c) k _ (by rfl) (hO.out.alloc _) (some ⟨_, 0, none⟩) 1 1 [.int .i64 x] (by rfl) rfl (stand_new _ _ _ _) (by intro u hu; rw [List.mem_singleton.1 hu]; rfl) (by unfold maxLen; omega) (by omega) (Nat.le_trans hwr.out (by simp)) ?_; intro A9 c9 w9 hr9 hg9 hat9)
      have hlt3 := World.ownsRow.lt hO.out
      have hO9 : Hid (w9.ownsRow w.heap.size 3 1 (.slice A9 (k + 1) c9) (k + 1) (iv (xs ++ [(x : Int)]))) := Lib.hid (by unfold iv; rw [List.map_append]; exact hr9)
      have hM9 := Lib.hid (MT.grown (hM.out.gr ((Gr.refl u w3).alloc (.cells #[.int .i64 x] 3)) (show u < B by omega) (by omega)) hmb hg9 (hO.out.alloc _) hB)
      have hS9 := Lib.hid (SAt.grown (hs3.out.alloc (.cells #[.int .i64 x] 3)) hg9 (fun q e => by have := (hlt3 q e).1; omega))
      have hW9 := Lib.hid ((hW.out.alloc hW.out.size (.cells #[.int .i64 x] 3)).grown hg9 (by have := hW.out.size; simp; omega) (fun q e => by have := (hlt3 q e).1; omega))
      have hB9 : B ≤ w9.heap.size := Nat.le_trans hBr (Nat.le_trans (by simp) hg9.size)
      have hw9 := Lib.hid (Nat.le_trans hwr.out (Nat.le_trans (by simp) hg9.size))
      have hC9 := Lib.hid (hC.out.step hlt hx.out)
      clear hlt3 hr9 hg9 hat9 hO hM hs3 hW hC hx hwr
      go_wp2
      go_roundw
      case rel => exact ⟨k + 1, _, s3, by go_num, by omega, by rw [List.length_append, hxl]; rfl, hO9, hC9, hM9, hS9, hW9, hB9, hw9⟩
      case measure => simp [intOf]; omega
    · obtain rfl : k = 5 := by omega
      obtain ⟨a, b, d, e, f, rfl⟩ := five hxl
      obtain ⟨g, cap, cur, hA, -, -, -, -, -, -⟩ := hO.out.2.resolve_left (by rintro ⟨-, h⟩; cases h)
      injection hA with hA1 hA2 hA3
      subst hA1
      have hcs := World.ownsRow.cells hO.out (g := g) rfl
      have c0 : wr.cell? ⟨g, 0, none⟩ = some (.int .i64 a) := by have := hcs 0 _ rfl; rwa [add_plain] at this
      have c1 : wr.cell? ⟨g, 1, none⟩ = some (.int .i64 b) := by have := hcs 1 _ rfl; rwa [add_plain] at this
      have c2 : wr.cell? ⟨g, 2, none⟩ = some (.int .i64 d) := by have := hcs 2 _ rfl; rwa [add_plain] at this
      have c3 : wr.cell? ⟨g, 3, none⟩ = some (.int .i64 e) := by have := hcs 3 _ rfl; rwa [add_plain] at this
      have c4 : wr.cell? ⟨g, 4, none⟩ = some (.int .i64 f) := by have := hcs 4 _ rfl; rwa [add_plain] at this
      obtain ⟨hg1, hg2⟩ := World.ownsRow.lt hO.out g rfl
      have htx : Hid (Calls Try.prog 75 #[.pointer (some ⟨u, 0, none⟩), .int .i64 v, .int .i64 16] wr.drew (Sd u wirRb.vS ⟨#[]⟩ wr.drew (on s (rTxt v 16)))) := Lib.hid (text_s v hv 16 wr.drew (hS.out.below (Below.refl _ _).drew) (by omega))
      have hMd := Lib.hid (hM.out.gr (Gr.of_below (Below.refl _ _).drew) (show u < B by omega) (by omega))
      have hWd := Lib.hid hW.out.drew
      have hdone := Lib.hid (hC.out.done (.inl (by omega)))
      have hK : Hid (SK u mb g a b d e f wr.drew) := Lib.hid ⟨c0, c1, c2, c3, c4, hg2, by omega, by omega⟩
      clear hS hM hW hO hC hcs hwr hBr hA2 hA3 c0 c1 c2 c3 c4
      go_wp2
      go_region_held3 (SK u mb g a b d e f)
        (first | with_reducible exact hK.out | with_reducible assumption | with_reducible exact SK.gr (by assumption) (by assumption) | with_reducible exact SK.set6 (by assumption) _ _ _ _ _ _ | fail)
        (first
          | (go_at_call 75; ((with_reducible refine htx.out.mono ?_); rintro e3 w3 ⟨rfl, hs3, hg3⟩; have hM3 := Lib.hid (hMd.out.gr hg3 (show u < B by omega) (by omega)); have hW3 := Lib.hid (hWd.out.trans (hg3.below hWd.out.size hWu)); replace hs3 := Lib.hid hs3; unfold wirRb.vS; have f0 := hM3.out.row.frozen; have k8 : w3.cell? ⟨mb, 8, none⟩ = some (.int .i64 m.cmd.kind) := hM3.out.row.cell (i := 8) (by omega); have k9 : w3.cell? ⟨mb, 9, none⟩ = some (.int .i64 m.cmd.dc) := hM3.out.row.cell (i := 9) (by omega); have k10 : w3.cell? ⟨mb, 10, none⟩ = some (.int .i64 m.cmd.shard) := hM3.out.row.cell (i := 10) (by omega); have k11 : w3.cell? ⟨mb, 11, none⟩ = some (.int .i64 m.cmd.node) := hM3.out.row.cell (i := 11) (by omega); have k12 : w3.cell? ⟨mb, 12, none⟩ = some (.int .i64 m.cmd.mode) := hM3.out.row.cell (i := 12) (by omega); have k13 : w3.cell? ⟨mb, 13, none⟩ = some (.string m.cmd.key) := hM3.out.row.cell (i := 13) (by omega))) | fail)
      all_goals
        have hE := Lib.hid (hfin.out _ s (stt (on s (rTxt v 16))) [a, b, d, e, f] (vl ⟨#[]⟩ (on s (rTxt v 16))) hdone.out (on_self s (rTxt v 16) ⟨#[]⟩) (((((((hs3.out.put (p := ⟨mb, 8, none⟩) hu (.int .i64 a)).put (p := ⟨mb, 9, none⟩) hu (.int .i64 b)).put (p := ⟨mb, 10, none⟩) hu (.int .i64 d)).put (p := ⟨mb, 11, none⟩) hu (.int .i64 e)).put (p := ⟨mb, 12, none⟩) hu (.int .i64 f)).put (p := ⟨mb, 13, none⟩) hu (.string (vl ⟨#[]⟩ (on s (rTxt v 16))))))
          (wirRf.MT.cmd hM3.out hmb (cm5 [a, b, d, e, f] (vl ⟨#[]⟩ (on s (rTxt v 16)))))
          (((((((hW3.out.setCell (p := ⟨mb, 8, none⟩) (by show W.heap.size ≤ mb; omega) (.int .i64 a)).setCell (p := ⟨mb, 9, none⟩) (by show W.heap.size ≤ mb; omega) (.int .i64 b)).setCell (p := ⟨mb, 10, none⟩) (by show W.heap.size ≤ mb; omega) (.int .i64 d)).setCell (p := ⟨mb, 11, none⟩) (by show W.heap.size ≤ mb; omega) (.int .i64 e)).setCell (p := ⟨mb, 12, none⟩) (by show W.heap.size ≤ mb; omega) (.int .i64 f)).setCell (p := ⟨mb, 13, none⟩) (by show W.heap.size ≤ mb; omega) (.string (vl ⟨#[]⟩ (on s (rTxt v 16)))))))
        generalize vl ⟨#[]⟩ (on s (rTxt v 16)) = key at *
        have hnq : ∀ w' : World, (binOp .neq 26 (.agg #[.int .i64 a, .int .i64 b, .int .i64 d, .int .i64 e, .int .i64 f, .string key]) (.agg #[.int .i64 0, .int .i64 0, .int .i64 0, .int .i64 0, .int .i64 0, .string ⟨#[]⟩])).run Try.prog w' = .ok (.bool (decide (cm5 [a, b, d, e, f] key ≠ Cm.nought))) w' := fun w' => neq_cmd ⟨a, b, d, e, f, key⟩ w'
        generalize decide (cm5 [a, b, d, e, f] key ≠ Cm.nought) = bb at *
        clear hM3 hs3 hW3 hfin htx hMd hWd hdone
        go_wp2
        go_ret
        exact hE.out
end Go.Proofs.Ytkbhmeajgmecoaa.wirRf
