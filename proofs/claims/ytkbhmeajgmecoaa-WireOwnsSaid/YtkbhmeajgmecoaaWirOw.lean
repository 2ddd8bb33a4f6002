/- WireOwns: copies of messages; what is changed behind a call. -/
import Derived.Test.YtkbhmeajgmecoaaWirDx
namespace Go.Proofs.Ytkbhmeajgmecoaa.wirOw
open Go.ChangeShapes Go.WideShapes Go.ChangeAt Go.RowKit Go.Deep
open numM rowA byt numA numB numC numN numD numE wirM wirA wirB wirD wirE wirF wirG wirH wirL wirN wirP wirQ wirR wirS wirT wirU wirV wirDa wirDb wirDc wirDd wirDe wirDf wirDg wirDh wirDi wirDj wirDk wirDl wirOn wirRg wirDx

theorem flat_get (xs : List Vr) : ∀ (j : Nat) (u : Value), (xs.map fun x => (cv x).toList).flatten[j]? = some u → j / 6 < xs.length ∧ (cv (vth xs (j / 6))).toList[j % 6]? = some u := by
  induction xs with
  | nil => intro j u h; simp at h
  | cons x xs ih =>
    intro j u h
    rw [List.map_cons, List.flatten_cons] at h
    have hl : (cv x).toList.length = 6 := rfl
    by_cases hj : j < 6
    · rw [List.getElem?_append_left (by rw [hl]; exact hj)] at h
      have e1 : j / 6 = 0 := by omega
      have e2 : j % 6 = j := by omega
      rw [e1, e2]
      exact ⟨by simp, h⟩
    · rw [List.getElem?_append_right (by rw [hl]; omega), hl] at h
      obtain ⟨h1, h2⟩ := ih _ _ h
      have e1 : j / 6 = (j - 6) / 6 + 1 := by omega
      have e2 : j % 6 = (j - 6) % 6 := by omega
      rw [e1, e2]
      exact ⟨by simp; omega, by simpa [vth] using h2⟩
theorem vl_stand {w : World} {A : Option Addr} {n : Nat} {xs : List Vr} (h : VL w A n xs) : Stand w A n (xs.map fun x => (cv x).toList).flatten := by
  rcases h.2.2.2 with h0 | ⟨b, off, rfl, -, hc⟩
  · exact .inl h0
  · refine .inr ⟨_, rfl, fun j u hj => ?_⟩
    obtain ⟨h1, h2⟩ := flat_get xs j u hj
    rw [h.1] at h1
    obtain ⟨q0, q1, q2, q3, q4, q5⟩ := hc _ h1
    rw [add_plain]
    have hm : j % 6 < 6 := Nat.mod_lt _ (by decide)
    have e : off + j = off + j / 6 * 6 + j % 6 := by omega
    rw [e]
    generalize j % 6 = r at *
    match r, hm, h2 with
    | 0, _, h2 => rw [← h2]; exact q0
    | 1, _, h2 => rw [← h2]; exact q1
    | 2, _, h2 => rw [← h2]; exact q2
    | 3, _, h2 => rw [← h2]; exact q3
    | 4, _, h2 => rw [← h2]; exact q4
    | 5, _, h2 => rw [← h2]; exact q5
theorem nl_stand {w : World} {A : Option Addr} {n : Nat} {xs : List Nat} (h : NL w A n xs) : Stand w A n (xs.map fun (n : Nat) => Value.int .u64 (n : Int)) := by
  rcases h.2.2.2 with h0 | ⟨b, off, rfl, -, hc⟩
  · exact .inl h0
  · refine .inr ⟨_, rfl, fun j u hj => ?_⟩
    rw [List.getElem?_map] at hj
    rcases hx : xs[j]? with _ | x
    · rw [hx] at hj; cases hj
    · rw [hx] at hj
      cases hj
      have hlt := (List.getElem?_eq_some_iff.1 hx).1
      rw [add_plain, hc j (by rw [← h.1]; exact hlt)]
      unfold nth
      rw [List.getD_eq_getElem?_getD, hx]; rfl
theorem one_all (xs : List Vr) : ∀ u ∈ (xs.map fun x => (cv x).toList).flatten, u.oneCell' = true := by
  intro u hu
  rw [List.mem_flatten] at hu
  obtain ⟨l, hl, hu⟩ := hu
  rw [List.mem_map] at hl
  obtain ⟨x, -, rfl⟩ := hl
  exact cv_one x u hu
theorem one_num (xs : List Nat) : ∀ u ∈ xs.map (fun (n : Nat) => Value.int .u64 (n : Int)), u.oneCell' = true := by
  intro u hu
  rw [List.mem_map] at hu
  obtain ⟨x, -, rfl⟩ := hu
  rfl
theorem row0 (w : World) (T : TypeId) (size : Nat) : (w.alloc (.cells #[] T)).ownsRow w.heap.size T size (.slice (some ⟨w.heap.size, 0, none⟩) 0 0) 0 [] :=
  ⟨by simp, .inr ⟨w.heap.size, 0, #[], rfl, Nat.le_refl _, heap_alloc_new _ _, Nat.le_refl _, Nat.zero_le _, by simp, by simp⟩⟩
set_option maxRecDepth 100000 in
set_option maxHeartbeats 4000000 in
theorem copy_m (m : Ms) (t : At) (w : World) (ha : HM w m t) (h1 : m.vers.length ≤ 6000 ∧ m.vec.length ≤ 6000) :
    Calls Try.prog 27 #[.agg (cm m t)] w fun e w' => ∃ t', e = .returned (.agg (cm m t')) ∧ HM w' m t' ∧ Below w.heap.size w w' := by
  obtain ⟨i0, hi, hz0, hz1, hz2⟩ := info_parts infoV
  obtain ⟨j0, hj, jz0, jz1, jz2⟩ := info_parts info8
  have hp : Hid ((w.alloc (.cells (cm m t) 28)).rowIs w.heap.size 28 14 (fun i => (cm m t : Array Value).getD i undef)) := Lib.hid (wirDe.row_new w (cm m t) 28)
  have hsz : (w.alloc (.cells (cm m t) 28)).heap.size = w.heap.size + 1 := by simp
  have hq : (((w.alloc (.cells (cm m t) 28)).alloc (.cells mz 28))).rowIs (w.heap.size + 1) 28 14 (fun i => (mz : Array Value).getD i undef) := by
    have := wirDe.row_new (w.alloc (.cells (cm m t) 28)) mz 28
    rw [hsz] at this; exact this
  replace hq := Lib.hid hq
  replace hp := Lib.hid (hp.out.alloc (.cells mz 28))
  have hB := Lib.hid ((alloc_below w (.cells (cm m t) 28)).alloc (by rw [hsz]; omega) (.cells mz 28))
  have ha0 := Lib.hid ha
  replace ha := Lib.hid (ha.below hB.out)
  have hs2 : w.heap.size + 2 ≤ ((w.alloc (.cells (cm m t) 28)).alloc (.cells mz 28)).heap.size := by simp
  clear hsz
  go_enter Try.func27, Try.ntmps27
  go_upto_region 1 with fail
  generalize (w.alloc (.cells (cm m t) 28)).alloc (.cells mz 28) = W at *
  have hr0 := Lib.hid (row0 W 51 6)
  have hal := alloc_below W (.cells #[] 51)
  have hst := Lib.hid (vl_stand (ha.out.vers.below hal))
  have hlen := Lib.hid (vcells_len m.vers)
  have y6 : W.cell? ⟨w.heap.size, 6, none⟩ = some (.slice t.va m.vers.length t.vc) := hp.out.cell (i := 6) (by omega)
  have lp := hp.out.lt
  replace hal := Lib.hid hal
  go_wp2_with (at_builtin; refine wpList_gen rfl (.tmp 3) (.tmp 5) 23 rfl W.heap.size 51 i0 _ 6 64 Try.underlying23 hi hz0 hz1 hz2 rfl (by decide) (.slice (some ⟨W.heap.size, 0, none⟩) 0 0) 0 [] (by rfl) hr0.out t.va m.vers.length t.vc _ (by rfl) hlen.out hst.out (one_all _) (by unfold maxLen; omega) (by omega) (by simp) ?_)
  intro A1 c1 w1 hr1 hg1 hat1
  have hv1 : vRow W.heap.size w1 (.slice A1 m.vers.length c1) m.vers := hr1
  have hB1 := hal.out.grown hg1 (by simp) (fun k e => by cases e; exact Nat.le_refl _)
  have hp1 := hp.out.of_block (hB1.block _ lp)
  have z6 : w1.cell? ⟨w.heap.size, 6, none⟩ = some (.slice t.va m.vers.length t.vc) := hp1.cell (i := 6) (by omega)
  have zf := hp1.frozen 6
  have z7 : w1.cell? ⟨w.heap.size, 7, none⟩ = some (.slice t.na m.vec.length t.nc) := hp1.cell (i := 7) (by omega)
  have lp1 := hp1.lt
  have hB1W := hB1
  have hp2 := hp1.set 6 (.slice A1 m.vers.length c1)
  have hB2 := (trans0 hB.out hB1).setCell (p := ⟨w.heap.size, 6, none⟩) (Nat.le_refl _) (.slice A1 m.vers.length c1)
  have hv2 := own_put hv1 (p := ⟨w.heap.size, 6, none⟩) (fun e => by have := (World.ownsRow.lt hv1 _ e).1; simp at this; omega) (.slice A1 m.vers.length c1)
  have hq1 := hq.out.of_block (hB1.block _ hq.out.lt)
  have hq2 := hq1.setOther (a := ⟨w.heap.size, 6, none⟩) (by show w.heap.size + 1 ≠ w.heap.size; omega) (.slice A1 m.vers.length c1)
  have hX1 : Hid (W.heap.size ≤ (w1.setCell ⟨w.heap.size, 6, none⟩ (.slice A1 m.vers.length c1)).heap.size) := Lib.hid (by rw [World.size_setCell]; exact hB1.size)
  have hr2 := Lib.hid (row0 (w1.setCell ⟨w.heap.size, 6, none⟩ (.slice A1 m.vers.length c1)) 22 1)
  have hal2 := alloc_below (w1.setCell ⟨w.heap.size, 6, none⟩ (.slice A1 m.vers.length c1)) (.cells #[] 22)
  have hB3 := hB2.trans (hal2.mono (by have := hX1.out; omega))
  have hst2 := Lib.hid (nl_stand (ha0.out.vec.below hB3))
  have hv3 := Lib.hid (hv2.alloc (.cells #[] 22))
  have hp3 := Lib.hid (hp2.alloc (.cells #[] 22))
  have hq3 := Lib.hid (hq2.alloc (.cells #[] 22))
  replace hB3 := Lib.hid hB3
  have hss : Hid ((w1.setCell ⟨w.heap.size, 6, none⟩ (.slice A1 m.vers.length c1)).heap.size = w1.heap.size) := Lib.hid (by rw [World.size_setCell])
  clear hr1 hg1 hat1 y6 hst hlen hr0 hal hB1 hB1W hB2 hp1 hp2 hq1 hq2 hv1 hv2 hB hp hq hal2
  go_wp2_with (at_builtin; refine wpList_gen rfl (.tmp 8) (.tmp 10) 24 rfl w1.heap.size 22 j0 _ 1 8 Try.underlying24 hj jz0 jz1 jz2 rfl (by decide) (.slice (some ⟨w1.heap.size, 0, none⟩) 0 0) 0 [] (by rfl) (by have := hr2.out; rw [hss.out] at this; exact this) t.na m.vec.length t.nc _ (by rfl) (by rw [List.length_map, Nat.mul_one]) hst2.out (one_num _) (by unfold maxLen; omega) (by omega) (by simp) ?_)
  intro A2 c2 w2 hr1 hg1 hat1
  have hn1 : nRow w1.heap.size w2 (.slice A2 m.vec.length c2) m.vec := hr1
  have hW1 : W.heap.size ≤ w1.heap.size := by have := hX1.out; rw [hss.out] at this; exact this
  have hp4 := hp3.out.of_block (hg1.block _ hp3.out.lt (fun e => by have e' : w.heap.size = w1.heap.size := Option.some.inj e; omega))
  have hq4 := hq3.out.of_block (hg1.block _ hq3.out.lt (fun e => by have e' : w.heap.size + 1 = w1.heap.size := Option.some.inj e; omega))
  have hv4 := own_blk hv3.out (w' := w2) (fun k e => hg1.block k (World.ownsRow.lt hv3.out k e).2 (fun q => by
    have h2 := (World.ownsRow.lt hr2.out w1.heap.size (by rw [hss.out]; rfl))
    exact wirRd.rows_ne hv3.out hr2.out (by decide) k e (by rw [hss.out]; exact q.symm)))
  have hB4 := hB3.out.grown hg1 (by have := hB3.out.size; exact this) (fun k e => by have e' : w1.heap.size = k := Option.some.inj e; omega)
  have z7 : w2.cell? ⟨w.heap.size, 7, none⟩ = some (.slice t.na m.vec.length t.nc) := hp4.cell (i := 7) (by omega)
  have zf := hp4.frozen 7
  have hp5 := hp4.set 7 (.slice A2 m.vec.length c2)
  have hq5 := hq4.setOther (a := ⟨w.heap.size, 7, none⟩) (by show w.heap.size + 1 ≠ w.heap.size; omega) (.slice A2 m.vec.length c2)
  have hv5 := own_put hv4 (p := ⟨w.heap.size, 7, none⟩) (fun e => by have := (World.ownsRow.lt hv4 _ e).1; simp at this; omega) (.slice A2 m.vec.length c2)
  have hn5 := own_put hn1 (p := ⟨w.heap.size, 7, none⟩) (fun e => by have := (World.ownsRow.lt hn1 _ e).1; simp at this; omega) (.slice A2 m.vec.length c2)
  have hB5 := hB4.setCell (p := ⟨w.heap.size, 7, none⟩) (Nat.le_refl _) (.slice A2 m.vec.length c2)
  replace hp5 := hp5.congr (g := fun i => (cm m ⟨A1, c1, A2, c2⟩ : Array Value).getD i undef) (wirRc.j14 rfl rfl rfl rfl rfl rfl rfl rfl rfl rfl rfl rfl rfl rfl)
  replace hp5 := Lib.hid hp5
  replace hq5 := Lib.hid hq5
  replace hv5 := Lib.hid hv5
  replace hn5 := Lib.hid hn5
  replace hB5 := Lib.hid hB5
  clear hr1 hg1 hat1 hn1 hp4 hq4 hv4 hB4 hr2 hst2 hv3 hp3 hq3 hB3 z6
  go_upto_region 3 with fail
  generalize w2.setCell ⟨w.heap.size, 7, none⟩ (.slice A2 m.vec.length c2) = w3 at *
  have hfin : Hid (HM (put14 w3 (w.heap.size + 1) (cm m ⟨A1, c1, A2, c2⟩) 14) m ⟨A1, c1, A2, c2⟩ ∧ Below w.heap.size w (put14 w3 (w.heap.size + 1) (cm m ⟨A1, c1, A2, c2⟩) 14)) := Lib.hid (by
    have e1 := wirRg.own_put14 hv5.out (b := w.heap.size + 1) (fun e => by have := (World.ownsRow.lt hv5.out _ e).1; omega) (cm m ⟨A1, c1, A2, c2⟩) 14
    have e2 := wirRg.own_put14 hn5.out (b := w.heap.size + 1) (fun e => by have := (World.ownsRow.lt hn5.out _ e).1; omega) (cm m ⟨A1, c1, A2, c2⟩) 14
    have hf := ha0.out.fits
    exact ⟨⟨hf, vrow_vl e1 hf.2.2.2.2.2.2.1 (by omega), nrow_nl e2 hf.2.2.2.2.2.2.2.1 (by omega)⟩, put14_below hB5.out (by omega) (cm m ⟨A1, c1, A2, c2⟩) 14⟩)
  have hm9 : Hid ((put14 w3 (w.heap.size + 1) (cm m ⟨A1, c1, A2, c2⟩) 14).rowIs (w.heap.size + 1) 28 14 (fun i => (cm m ⟨A1, c1, A2, c2⟩ : Array Value).getD i undef)) := Lib.hid ((put14_row hq5.out (cm m ⟨A1, c1, A2, c2⟩) 14).congr (fun i hi => if_pos hi))
  clear hv5 hn5 hB5 ha0 z7 zf
  have y0 : w3.cell? ⟨w.heap.size + 1, 0, none⟩ = some (.int .i64 0) := hq5.out.cell (i := 0) (by omega)
  have yf0 := hq5.out.frozen 0
  have y1 : w3.cell? ⟨w.heap.size + 1, 1, none⟩ = some (.int .u64 0) := hq5.out.cell (i := 1) (by omega)
  have yf1 := hq5.out.frozen 1
  have y2 : w3.cell? ⟨w.heap.size + 1, 2, none⟩ = some (.int .u64 0) := hq5.out.cell (i := 2) (by omega)
  have yf2 := hq5.out.frozen 2
  have y3 : w3.cell? ⟨w.heap.size + 1, 3, none⟩ = some (.int .u64 0) := hq5.out.cell (i := 3) (by omega)
  have yf3 := hq5.out.frozen 3
  have y4 : w3.cell? ⟨w.heap.size + 1, 4, none⟩ = some (.string ⟨#[]⟩) := hq5.out.cell (i := 4) (by omega)
  have yf4 := hq5.out.frozen 4
  have y5 : w3.cell? ⟨w.heap.size + 1, 5, none⟩ = some (.string ⟨#[]⟩) := hq5.out.cell (i := 5) (by omega)
  have yf5 := hq5.out.frozen 5
  have y6 : w3.cell? ⟨w.heap.size + 1, 6, none⟩ = some (.slice none 0 0) := hq5.out.cell (i := 6) (by omega)
  have yf6 := hq5.out.frozen 6
  have y7 : w3.cell? ⟨w.heap.size + 1, 7, none⟩ = some (.slice none 0 0) := hq5.out.cell (i := 7) (by omega)
  have yf7 := hq5.out.frozen 7
  have y8 : w3.cell? ⟨w.heap.size + 1, 8, none⟩ = some (.int .i64 0) := hq5.out.cell (i := 8) (by omega)
  have yf8 := hq5.out.frozen 8
  have y9 : w3.cell? ⟨w.heap.size + 1, 9, none⟩ = some (.int .i64 0) := hq5.out.cell (i := 9) (by omega)
  have yf9 := hq5.out.frozen 9
  have y10 : w3.cell? ⟨w.heap.size + 1, 10, none⟩ = some (.int .i64 0) := hq5.out.cell (i := 10) (by omega)
  have yf10 := hq5.out.frozen 10
  have y11 : w3.cell? ⟨w.heap.size + 1, 11, none⟩ = some (.int .i64 0) := hq5.out.cell (i := 11) (by omega)
  have yf11 := hq5.out.frozen 11
  have y12 : w3.cell? ⟨w.heap.size + 1, 12, none⟩ = some (.int .i64 0) := hq5.out.cell (i := 12) (by omega)
  have yf12 := hq5.out.frozen 12
  have y13 : w3.cell? ⟨w.heap.size + 1, 13, none⟩ = some (.string ⟨#[]⟩) := hq5.out.cell (i := 13) (by omega)
  have yf13 := hq5.out.frozen 13
  have z0 : w3.cell? ⟨w.heap.size, 0, none⟩ = some (.int .i64 m.kind) := hp5.out.cell (i := 0) (by omega)
  have z1 : w3.cell? ⟨w.heap.size, 1, none⟩ = some (.int .u64 m.id) := hp5.out.cell (i := 1) (by omega)
  have z2 : w3.cell? ⟨w.heap.size, 2, none⟩ = some (.int .u64 m.n) := hp5.out.cell (i := 2) (by omega)
  have z3 : w3.cell? ⟨w.heap.size, 3, none⟩ = some (.int .u64 m.ts) := hp5.out.cell (i := 3) (by omega)
  have z4 : w3.cell? ⟨w.heap.size, 4, none⟩ = some (.string m.lo) := hp5.out.cell (i := 4) (by omega)
  have z5 : w3.cell? ⟨w.heap.size, 5, none⟩ = some (.string m.hi) := hp5.out.cell (i := 5) (by omega)
  have z6 : w3.cell? ⟨w.heap.size, 6, none⟩ = some (.slice A1 m.vers.length c1) := hp5.out.cell (i := 6) (by omega)
  have z7 : w3.cell? ⟨w.heap.size, 7, none⟩ = some (.slice A2 m.vec.length c2) := hp5.out.cell (i := 7) (by omega)
  have z8 : w3.cell? ⟨w.heap.size, 8, none⟩ = some (.int .i64 m.cmd.kind) := hp5.out.cell (i := 8) (by omega)
  have z9 : w3.cell? ⟨w.heap.size, 9, none⟩ = some (.int .i64 m.cmd.dc) := hp5.out.cell (i := 9) (by omega)
  have z10 : w3.cell? ⟨w.heap.size, 10, none⟩ = some (.int .i64 m.cmd.shard) := hp5.out.cell (i := 10) (by omega)
  have z11 : w3.cell? ⟨w.heap.size, 11, none⟩ = some (.int .i64 m.cmd.node) := hp5.out.cell (i := 11) (by omega)
  have z12 : w3.cell? ⟨w.heap.size, 12, none⟩ = some (.int .i64 m.cmd.mode) := hp5.out.cell (i := 12) (by omega)
  have z13 : w3.cell? ⟨w.heap.size, 13, none⟩ = some (.string m.cmd.key) := hp5.out.cell (i := 13) (by omega)
  clear hq5 hp5
  go_wp2
  change bodyPost _ _ _ _ _ (put14 w3 (w.heap.size + 1) (cm m ⟨A1, c1, A2, c2⟩) 14)
  generalize put14 w3 (w.heap.size + 1) (cm m ⟨A1, c1, A2, c2⟩) 14 = w9 at *
  clear y0 yf0 z0 y1 yf1 z1 y2 yf2 z2 y3 yf3 z3 y4 yf4 z4 y5 yf5 z5 y6 yf6 z6 y7 yf7 z7 y8 yf8 z8 y9 yf9 z9 y10 yf10 z10 y11 yf11 z11 y12 yf12 z12 y13 yf13 z13
  have y0 : w9.cell? ⟨w.heap.size + 1, 0, none⟩ = some (.int .i64 m.kind) := hm9.out.cell (i := 0) (by omega)
  have y1 : w9.cell? ⟨w.heap.size + 1, 1, none⟩ = some (.int .u64 m.id) := hm9.out.cell (i := 1) (by omega)
  have y2 : w9.cell? ⟨w.heap.size + 1, 2, none⟩ = some (.int .u64 m.n) := hm9.out.cell (i := 2) (by omega)
  have y3 : w9.cell? ⟨w.heap.size + 1, 3, none⟩ = some (.int .u64 m.ts) := hm9.out.cell (i := 3) (by omega)
  have y4 : w9.cell? ⟨w.heap.size + 1, 4, none⟩ = some (.string m.lo) := hm9.out.cell (i := 4) (by omega)
  have y5 : w9.cell? ⟨w.heap.size + 1, 5, none⟩ = some (.string m.hi) := hm9.out.cell (i := 5) (by omega)
  have y6 : w9.cell? ⟨w.heap.size + 1, 6, none⟩ = some (.slice A1 m.vers.length c1) := hm9.out.cell (i := 6) (by omega)
  have y7 : w9.cell? ⟨w.heap.size + 1, 7, none⟩ = some (.slice A2 m.vec.length c2) := hm9.out.cell (i := 7) (by omega)
  have y8 : w9.cell? ⟨w.heap.size + 1, 8, none⟩ = some (.int .i64 m.cmd.kind) := hm9.out.cell (i := 8) (by omega)
  have y9 : w9.cell? ⟨w.heap.size + 1, 9, none⟩ = some (.int .i64 m.cmd.dc) := hm9.out.cell (i := 9) (by omega)
  have y10 : w9.cell? ⟨w.heap.size + 1, 10, none⟩ = some (.int .i64 m.cmd.shard) := hm9.out.cell (i := 10) (by omega)
  have y11 : w9.cell? ⟨w.heap.size + 1, 11, none⟩ = some (.int .i64 m.cmd.node) := hm9.out.cell (i := 11) (by omega)
  have y12 : w9.cell? ⟨w.heap.size + 1, 12, none⟩ = some (.int .i64 m.cmd.mode) := hm9.out.cell (i := 12) (by omega)
  have y13 : w9.cell? ⟨w.heap.size + 1, 13, none⟩ = some (.string m.cmd.key) := hm9.out.cell (i := 13) (by omega)
  refine bodyPost_ret (v := .agg (cm m ⟨A1, c1, A2, c2⟩)) ?_ rfl ⟨_, rfl, hfin.out⟩
  simp [results, Try.results27, go_sem, y0, y1, y2, y3, y4, y5, y6, y7, y8, y9, y10, y11, y12, y13]
end Go.Proofs.Ytkbhmeajgmecoaa.wirOw
