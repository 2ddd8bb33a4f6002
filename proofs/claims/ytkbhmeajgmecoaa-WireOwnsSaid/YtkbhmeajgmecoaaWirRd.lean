/- The document's reader: rows of numbers. -/
import Derived.Test.YtkbhmeajgmecoaaWirRc
namespace Go.Proofs.Ytkbhmeajgmecoaa.wirRd
open Go.ChangeShapes Go.WideShapes Go.ChangeAt Go.RowKit Go.Deep
open numM rowA byt numA numB numC numN numD numE wirM wirA wirL wirP wirQ wirR wirDa wirDb wirDf wirDg wirDh wirDi wirRa wirRb wirRc

/-- rows of unlike elements lie apart -/
theorem rows_ne {w : World} {b1 b2 s1 s2 n1 n2 : Nat} {T1 T2 : TypeId} {v1 v2 : Value} {x1 x2 : List Value} (h1 : w.ownsRow b1 T1 s1 v1 n1 x1) (h2 : w.ownsRow b2 T2 s2 v2 n2 x2) (hT : T1 ≠ T2) : ∀ k, v1.ownBlock = some k → v2.ownBlock ≠ some k := by
  intro k e e2
  rcases h1.2 with ⟨rfl, _⟩ | ⟨g, cap, cur, rfl, _, hg, _⟩
  · cases e
  rcases h2.2 with ⟨rfl, _⟩ | ⟨g', cap', cur', rfl, _, hg', _⟩
  · cases e2
  have q1 : g = k := by simpa [Value.ownBlock] using e
  have q2 : g' = k := by simpa [Value.ownBlock] using e2
  subst q1 q2
  rw [hg] at hg'
  simp at hg'
  exact hT hg'.2
theorem addVec {w1 w9 : World} {o : Obj} {mb B : Nat} {m : Ms} {t : At} {xs : List Nat} {x : Nat} {A9 : Option Addr} {c9 : Nat} (h : MT w1 mb B { m with vec := xs } t) (hmb : mb < B)
    (hr : w9.ownsRow B 22 1 (.slice A9 (xs.length + 1) c9) (xs.length + 1) ((xs.map fun (n : Nat) => Value.int .u64 (n : Int)) ++ [.int .u64 x])) (hg : (w1.alloc o).grownBy w9 (Value.slice t.na xs.length t.nc).ownBlock) :
    MT (w9.setCell ⟨mb, 7, none⟩ (.slice A9 (xs.length + 1) c9)) mb B { m with vec := xs ++ [x] } { t with na := A9, nc := c9 } := by
  obtain ⟨h1, h2, h3⟩ := h
  have hlt := World.ownsRow.lt h3
  have h1' := (h1.alloc o).of_block (hg.block mb (h1.alloc o).lt (fun e => by have := (hlt mb e.symm).1; omega))
  have h2' := own_blk (h2.alloc o) (w' := w9) (fun k e => hg.block k (World.ownsRow.lt (h2.alloc o) k e).2 (fun q => rows_ne h2 h3 (by decide) k e q.symm))
  refine ⟨(h1'.set 7 _).congr (j14 rfl rfl rfl rfl rfl rfl rfl ?_ rfl rfl rfl rfl rfl rfl), ?_, ?_⟩
  · show Value.slice A9 (xs.length + 1) c9 = .slice A9 (xs ++ [x]).length c9
    rw [List.length_append]; rfl
  · exact own_put h2' (fun e => by have := (World.ownsRow.lt h2 mb e).1; omega) _
  · have e : nRow B w9 (.slice A9 (xs.length + 1) c9) (xs ++ [x]) := by unfold nRow; rw [List.length_append, List.map_append]; exact hr
    have hl : (xs ++ [x]).length = xs.length + 1 := by rw [List.length_append]; rfl
    show nRow B _ (.slice A9 (xs ++ [x]).length c9) (xs ++ [x])
    rw [hl]
    exact own_put e (fun q => by have := (World.ownsRow.lt e mb q).1; omega) _
theorem rowAfter {w1 w9 : World} {o : Obj} {mb B : Nat} {m : Ms} {t : At} (h : MT w1 mb B m t) (hmb : mb < B) (hg : (w1.alloc o).grownBy w9 (Value.slice t.na m.vec.length t.nc).ownBlock) : w9.rowIs mb 28 14 (fun i => (cm m t : Array Value).getD i undef) :=
  (h.row.alloc o).of_block (hg.block mb (h.row.alloc o).lt (fun e => by have := (World.ownsRow.lt h.ns mb e.symm).1; omega))
theorem SAt.grown {w w' : World} {u : Nat} {s : Except Nat (List Nat)} {row : Option Nat} (h : SAt w u s) (hg : w.grownBy w' row) (hr : ∀ k, row = some k → u < k) : SAt w' u s :=
  h.keep fun k hk => hg.block k (by have := h.lt; omega) (fun e => by have := hr k e.symm; omega)
/-- a chain of a row's steps, so far -/
def Ch {α : Type} (s1 : Except Nat (List Nat)) (st : α → Nat) (r : Nat → R α) (n : Nat) (s : Except Nat (List Nat)) (a k : Nat) (xs : List α) : Prop :=
  on s1 (rRow st r 0 n) = on s ((rRow st r a (n - k)).seq fun ys => R.ret (xs ++ ys))
theorem Ch.start {α : Type} (s1 : Except Nat (List Nat)) (st : α → Nat) (r : Nat → R α) (n : Nat) : Ch s1 st r n s1 0 0 [] := by
  unfold Ch
  cases s1 with
  | error e => rfl
  | ok l => exact row_start
theorem Ch.step {α : Type} {s1 : Except Nat (List Nat)} {st : α → Nat} {r : Nat → R α} {n : Nat} {s s' : Except Nat (List Nat)} {a k : Nat} {xs : List α} {x : α} (h : Ch s1 st r n s a k xs) (hk : k < n) (hx : on s (r a) = on s' (R.ret x)) : Ch s1 st r n s' (st x) (k + 1) (xs ++ [x]) := by
  unfold Ch at *
  obtain ⟨m, hm⟩ : ∃ m, n - k = m + 1 := ⟨n - k - 1, by omega⟩
  rw [h, hm, show n - (k + 1) = m by omega]
  show on s (((r a).seq fun x => (rRow st r (st x) m).seq fun xs => R.ret (x :: xs)).seq _) = _
  rw [seq_assoc, on_then hx, seq_assoc]
  congr 1
  refine seq_congr fun ys => ?_
  rw [ret_seq, List.append_assoc]; rfl
theorem Ch.done {α : Type} {s1 : Except Nat (List Nat)} {st : α → Nat} {r : Nat → R α} {n : Nat} {s : Except Nat (List Nat)} {a k : Nat} {xs : List α} (h : Ch s1 st r n s a k xs) (hk : n ≤ k ∨ er s ≠ 0) : on s1 (rRow st r 0 n) = on s (R.ret xs) := by
  unfold Ch at h
  rw [h]
  rcases hk with hk | hk
  · rw [Nat.sub_eq_zero_of_le hk]
    show on s ((R.ret []).seq _) = _
    rw [ret_seq, List.append_nil]
  · cases s with
    | error e => rfl
    | ok l => exact absurd rfl hk
theorem er_zero {w : World} {u : Nat} {s : Except Nat (List Nat)} (h : SAt w u s) : er s = 0 → ∃ l, s = .ok l := by
  intro e
  cases s with
  | ok l => exact ⟨l, rfl⟩
  | error k => exact absurd e h.nz
theorem own_len {w : World} {base n sz : Nat} {e : TypeId} {A : Option Addr} {m c : Nat} {xs : List Value} (h : w.ownsRow base e sz (.slice A m c) n xs) : m = n := by
  rcases h.2 with ⟨q, rfl⟩ | ⟨g, cap, cur, q, _⟩
  · injection q
  · injection q
set_option maxRecDepth 100000 in
set_option maxHeartbeats 2000000 in
theorem part_6 {u mb B : Nat} {W w : World} {m : Ms} {t : At} {l : List Nat} (v : Int) (hv : v = 1 ∨ v = 2) (hs : SAt w u (.ok l)) (hm : MT w mb B m t) (hu : u < mb) (hmb : mb < B) (hB : B ≤ w.heap.size) (hW : Below W.heap.size W w) (hWu : W.heap.size ≤ u) (hm0 : m.vec = []) :
    Calls Try.prog 41 #[.pointer (some ⟨u, 0, none⟩), .int .i64 v, .int .i64 6, .pointer (some ⟨mb, 0, none⟩)] w (PR u mb B W v 6 m l) := by
  have hn := Lib.hid (number_s v hv 1 w hs (by omega) (by omega))
  replace hm := Lib.hid hm
  replace hW := Lib.hid hW
  have hon : Hid (on (.ok l) (rPart v 6 m) = on (stt (on (stt (on (.ok l) (rn v 1))) (rMost (vl 0 (on (.ok l) (rn v 1))) 32 6)))
    ((rRow (fun _ => 0) (fun _ => rn v 8) 0 (vl 0 (on (stt (on (.ok l) (rn v 1))) (rMost (vl 0 (on (.ok l) (rn v 1))) 32 6)))).seq fun x => R.ret ({ m with vec := x }, decide (0 < vl 0 (on (stt (on (.ok l) (rn v 1))) (rMost (vl 0 (on (.ok l) (rn v 1))) 32 6)))))) := Lib.hid (by
      show on (.ok l) ((rLim (rn v 1) 32 6).seq _) = _
      rw [on_seq (.ok l) (rLim (rn v 1) 32 6) _ 0, lim_most, on_seq (.ok l) (rn v 1) _ 0])
  obtain ⟨i0, hi, hz0, hz1, hz2⟩ := info_parts info8
  clear hs
  go_enter Try.func41, Try.ntmps41
  go_wp2_with (fail)
  refine hn.out.mono ?_
  rintro e w1 ⟨rfl, hs1, hg1⟩
  have hm1 := Lib.hid (hm.out.gr hg1 (by omega) (by omega))
  have hW1 := Lib.hid (hW.out.trans (hg1.below hW.out.size hWu))
  have hB1 : B ≤ w1.heap.size := by have := hg1.size; omega
  have hms := Lib.hid (most_s (vl 0 (on (.ok l) (rn v 1))) 32 6 (by decide) (by decide) w1 hs1)
  clear hs1 hg1 hn hm hW
  unfold wirRb.vU
  generalize stt (on (.ok l) (rn v 1)) = s1 at *
  generalize vl 0 (on (.ok l) (rn v 1)) = x0 at *
  go_wp2_with (fail)
  refine hms.out.mono ?_
  rintro e w2 ⟨rfl, hs2, hg2⟩
  have hm2 := Lib.hid (hm1.out.gr hg2 (by omega) (by omega))
  have hW2 := Lib.hid (hW1.out.trans (hg2.below hW1.out.size hWu))
  have hB2 : B ≤ w2.heap.size := by have := hg2.size; omega
  have hn32 := most_le s1 x0 32 6
  replace hs2 := Lib.hid hs2
  clear hg2 hms hm1 hW1
  unfold vN
  generalize vl 0 (on s1 (rMost x0 32 6)) = n at *
  generalize stt (on s1 (rMost x0 32 6)) = s2 at *
  go_wp2
  go_loopw [14] (fun i wr => ∃ (k : Nat) (xs : List Nat) (s : Except Nat (List Nat)) (t' : At), i = .int .i64 k ∧ k ≤ n ∧ Hid (xs.length = k) ∧ Hid (Ch s2 (fun _ => 0) (fun _ => rn v 8) n s 0 k xs) ∧ Hid (MT wr mb B { m with vec := xs } t') ∧ Hid (SAt wr u s) ∧ Hid (Below W.heap.size W wr) ∧ B ≤ wr.heap.size) (fun i _ => n - (intOf i).toNat)
  case atStart => exact ⟨0, [], s2, t, rfl, by omega, Lib.hid rfl, Lib.hid (Ch.start _ _ _ _), Lib.hid (by have := hm2.out; rw [show ({ m with vec := [] } : Ms) = m by rw [← hm0]]; exact this), hs2, hW2, hB2⟩
  case round =>
    clear hs2 hW2 hm2 hB2
    obtain ⟨k, xs, s, t', rfl, hk, hxl, hC, hM, hS, hW, hBr⟩ := hrel
    have he := hS.out.err
    have hfin : Hid (n ≤ k ∨ er s ≠ 0 → PR u mb B W v 6 m l (.returned (.bool (decide (0 < n)))) wr) := Lib.hid fun q => by
      refine ⟨s, { m with vec := xs }, t', _, rfl, hS.out, hM.out, ?_, hW.out, fun _ => rfl, fun h => by omega⟩
      rw [hon.out, on_then (hC.out.done q)]
    by_cases hlt : k < n
    · by_cases hz : er s = 0
      · rw [hz] at he
        obtain ⟨l', hl'⟩ := er_zero hS.out hz
        have hnum : Hid (Calls Try.prog 74 #[.pointer (some ⟨u, 0, none⟩), .int .i64 v, .int .i64 8] wr.drew (Sd u wirRb.vU 0 wr.drew (on s (rn v 8)))) := Lib.hid (number_s v hv 8 wr.drew (hS.out.below (Below.refl _ _).drew) (by omega) (by omega))
        have hMd := Lib.hid (hM.out.gr (Gr.of_below (Below.refl _ _).drew) (show u < B by omega) (by omega))
        have hWd := Lib.hid hW.out.drew
        have hBd : B ≤ wr.drew.heap.size := hBr
        have y7 : wr.cell? ⟨mb, 7, none⟩ = some (.slice t'.na xs.length t'.nc) := hMd.out.row.cell (i := 7) (by omega)
        have hx32 : xs.length ≤ 32 := by rw [hxl.out]; omega
        clear hfin hM hS hW hBr hz hl'
        go_wp2
        go_region_law (first
          | (go_simp; go_at_call 74; (with_reducible refine hnum.out.mono ?_); rintro e w3 ⟨rfl, hs3, hg3⟩; have hM3 := Lib.hid (hMd.out.gr hg3 (show u < B by omega) (by omega)); have hs3 := Lib.hid hs3; have hg3 := Lib.hid hg3; unfold wirRb.vU; have z7 : w3.cell? ⟨mb, 7, none⟩ = some (.slice t'.na xs.length t'.nc) := hM3.out.row.cell (i := 7) (by omega); have hB3 : B ≤ w3.heap.size := Nat.le_trans hBd hg3.out.size; have lt3 := hM3.out.row.lt)
          | (refine step_gen rfl (.tmp 175) (.tmp 179) 24 rfl B 22 i0 _ 1 8 Try.underlying24 hi hz0 hz1 hz2 rfl (by decide) (.slice t'.na xs.length t'.nc) xs.length _ (by rfl) (hM3.out.ns.alloc _) (some ⟨_, 0, none⟩) 1 1 [.int .u64 (vl 0 (on s (rn v 8)) : Nat)] (by rfl) rfl (stand_new _ _ _ _) (by intro u hu; rw [List.mem_singleton.1 hu]; rfl) (by unfold maxLen; omega) (by omega) (Nat.le_trans hB3 (by simp)) ?_; intro A9 c9 w9 hr9 hg9 hat9; have z9 := rowAfter hM3.out hmb hg9; have q7 := z9.cell (i := 7) (by omega); have f7 := z9.frozen 7; clear z9))
        all_goals
          have hM9 := Lib.hid (addVec hM3.out hmb hr9 hg9)
          have hlt3 := World.ownsRow.lt hM3.out.ns
          have hS9 := Lib.hid ((SAt.grown (hs3.out.alloc _) hg9 (fun q e => by have := (hlt3 q e).1; omega)).put (p := ⟨mb, 7, none⟩) hu (.slice A9 (xs.length + 1) c9))
          have hW9 := Lib.hid (((((hWd.out.trans (hg3.out.below hWd.out.size hWu)).alloc (by have := hWd.out.size; have := hg3.out.size; omega) _).grown hg9 (by have := hWd.out.size; have := hg3.out.size; simp; omega) (fun q e => by have := (hlt3 q e).1; omega))).setCell (p := ⟨mb, 7, none⟩) (by show W.heap.size ≤ mb; omega) (.slice A9 (xs.length + 1) c9))
          have hB9 : B ≤ (w9.setCell ⟨mb, 7, none⟩ (.slice A9 (xs.length + 1) c9)).heap.size := by rw [World.size_setCell]; exact Nat.le_trans hB3 (Nat.le_trans (by simp) hg9.size)
          have hC9 := Lib.hid (hC.out.step hlt (on_self s (rn v 8) 0))
          clear lt3 hM3 hlt3 hWd hs3 hg3 hr9 hg9 hat9 hnum hMd hC z7 y7 he
          generalize w9.setCell ⟨mb, 7, none⟩ (.slice A9 (xs.length + 1) c9) = w10 at *
          go_wp2
          go_roundw
          case rel => exact ⟨k + 1, _, _, _, by go_num, by omega, Lib.hid (by rw [List.length_append, hxl.out]; rfl), hC9, hM9, hS9, hW9, hB9⟩
          case measure => simp [intOf]; omega
      · have hne : ((er s : Int) == 0) = false := by rw [beq_eq_false_iff_ne]; omega
        replace hfin := Lib.hid (hfin.out (.inr hz))
        clear hC hM hS hW hz
        generalize er s = E at *
        go_wp2
        go_ret
        exact hfin.out
    · replace hfin := Lib.hid (hfin.out (.inl (by omega)))
      clear hC hM hS hW
      generalize er s = E at *
      go_wp2
      go_ret
      exact hfin.out
end Go.Proofs.Ytkbhmeajgmecoaa.wirRd
