/- The program's reader of versions, by version 2. -/
import Derived.Test.YtkbhmeajgmecoaaWirDf
namespace Go.Proofs.Ytkbhmeajgmecoaa.wirDg
open Go.ChangeShapes Go.WideShapes Go.ChangeAt Go.RowKit Go.Deep
open numM rowA byt numA numB numC numN numD numE wirM wirA wirL wirP wirQ wirR wirDa wirDb wirDc wirDd wirDe wirDf

theorem vcells_len (xs : List Vr) : (xs.map fun x => (cv x).toList).flatten.length = xs.length * 6 := by
  induction xs with
  | nil => rfl
  | cons x xs ih => rw [List.map_cons, List.flatten_cons, List.length_append, ih]; simp; omega
theorem cv_one (v : Vr) : ∀ u ∈ (cv v).toList, u.oneCell' = true := by
  intro u hu
  simp only [List.mem_cons, List.not_mem_nil, or_false] at hu
  rcases hu with rfl | rfl | rfl | rfl | rfl | rfl <;> rfl
theorem cell_grown {w1 w2 : World} {row : Option Nat} (hg : w1.grownBy w2 row) {b : Nat} (hb : b < w1.heap.size) (hr : some b ≠ row) (i : Nat) : w2.cell? ⟨b, i, none⟩ = w1.cell? ⟨b, i, none⟩ := World.cell?_of_block (a := ⟨b, i, none⟩) (hg.block b hb hr)
set_option maxRecDepth 100000 in
set_option maxHeartbeats 2000000 in
theorem nvers_any {u : Nat} {l : List Nat} (w : World) (h : UAt w u l) : Calls Try.prog 70 #[.pointer (some ⟨u, 0, none⟩)] w (RdL u (vRow w.heap.size) w (rList (rCN 4096) Vr.ts rVer2 l)) := by
  have hc := cn_any 4096 w h (by omega)
  have hul := h.lt
  unfold rList
  rcases hr : rCN 4096 l with k | ⟨n, t0⟩
  · rw [hr] at hc
    rw [seq_err hr]
    clear h hr
    go_enter Try.func70, Try.ntmps70
    go_wp2_with (fail)
    refine hc.mono ?_
    rintro e w' ⟨rfl, hg⟩
    exact ⟨rfl, rdl_err rfl hg⟩
  · rw [hr] at hc
    rw [seq_ok hr]
    have hn : n ≤ 4096 := ((is_cn 4096 (by decide)).bw l n t0 h.lt256 hr).1.1
    obtain ⟨i0, hi, hz0, hz1, hz2⟩ := info_parts infoV
    clear h hr
    go_enter Try.func70, Try.ntmps70
    go_wp2_with (fail)
    refine hc.mono ?_
    rintro e w1 ⟨rfl, hU1, hG1⟩
    replace hU1 := Lib.hid hU1
    replace hG1 := Lib.hid hG1
    clear hc
    unfold vN
    go_wp2
    go_loopw [3, 4, 8] (fun v av i wr => ∃ (k : Nat) (xs : List Vr) (t : List Nat) (a : Nat), k ≤ n ∧ i = .int .i64 k ∧ av = .int .u64 a ∧ xs.length = k ∧ Hid (rRow Vr.ts rVer2 0 n t0 = ((rRow Vr.ts rVer2 a (n - k)).seq fun ys => R.ret (xs ++ ys)) t) ∧ Hid (vRow w.heap.size wr v xs) ∧ Hid (UAt wr u t) ∧ Hid (Gr u w wr)) (fun _ _ i _ => n - (intOf i).toNat)
    case atStart => exact ⟨0, [], t0, 0, by omega, rfl, rfl, rfl, Lib.hid row_start, Lib.hid (World.ownsRow_nil _ _ _ 6), hU1, hG1⟩
    case round =>
      clear hU1 hG1
      obtain ⟨k, xs, t, a, hk, rfl, rfl, hxl, hI, hR, hU, hG⟩ := hrel
      obtain ⟨A, c, rfl, -, -⟩ := own_form hR.out
      have hs := nver_any a wr hU.out
      have hxb : xs.length ≤ n := by omega
      replace hxl := Lib.hid hxl
      by_cases hlt : k < n
      · obtain ⟨m, hm⟩ : ∃ m, n - k = m + 1 := ⟨n - k - 1, by omega⟩
        rw [hm] at hI
        rcases hq : rVer2 a t with kk | ⟨x, t'⟩
        · rw [hq] at hs
          have hE := Lib.hid (fun w2 (hg : Gr u wr w2) => rdl_err (Row := vRow w.heap.size) (hI.out.trans (row_stop hq)) (hG.out.trans hg))
          clear hI hR hU hG hq
          go_wp2_with (fail)
          refine hs.mono ?_
          rintro e w2 ⟨rfl, hg⟩
          exact ⟨rfl, hE.out _ hg⟩
        · rw [hq] at hs
          have hI2 := Lib.hid (hI.out.trans (row_step hq))
          clear hq hI
          go_wp2_with (fail)
          refine hs.mono ?_
          rintro e w2 ⟨rfl, hU2, hg2⟩
          unfold vV
          have hR2 := Lib.hid (own_gr hR.out hg2 hul)
          have hrl := Lib.hid hR2.out.lt
          have hR3 := Lib.hid ((hR2.out.alloc (.cells (cv x) 51)).alloc (.cells (cv x) 51))
          have hU3 := Lib.hid ((hU2.alloc (.cells (cv x) 51)).alloc (.cells (cv x) 51))
          have hG3 := Lib.hid (((hG.out.trans hg2).alloc (.cells (cv x) 51)).alloc (.cells (cv x) 51))
          have hsz := hG3.out.size
          have hst : Hid (Stand ((w2.alloc (.cells (cv x) 51)).alloc (.cells (cv x) 51)) (some ⟨w2.heap.size + 1, 0, none⟩) 1 (cv x).toList) := Lib.hid (by have := stand_new (w2.alloc (.cells (cv x) 51)) (cv x).toList 51 1; simpa using this)
          have hcell : Hid (((w2.alloc (.cells (cv x) 51)).alloc (.cells (cv x) 51)).cell? ⟨w2.heap.size, 3, none⟩ = some (.int .u64 x.ts)) := Lib.hid (by
            have := ((Box.new w2 (cv x) 51).alloc (.cells (cv x) 51)).at 3
            exact this)
          have hsz2 : Hid (w2.heap.size < ((w2.alloc (.cells (cv x) 51)).alloc (.cells (cv x) 51)).heap.size) := Lib.hid (by simp; omega)
          have hlen := Lib.hid (vcells_len xs)
          clear hs hU2 hg2 hU hG hR2
          obtain ⟨key, val, gone, ts, dc, tx⟩ := x
          simp only at hR3 hU3 hG3 hst hcell hsz hsz2
          go_wp2_with (at_builtin; refine wpList_gen rfl (.tmp 13) (.tmp 15) 23 rfl w.heap.size 51 i0 _ 6 64 Try.underlying23 hi hz0 hz1 hz2 rfl (by decide) (.slice A xs.length c) xs.length _ (by rfl) hR3.out (some ⟨w2.heap.size + 1, 0, none⟩) 1 1 (cv ⟨key, val, gone, ts, dc, tx⟩).toList (by rfl) rfl hst.out (cv_one _) (by unfold maxLen; omega) (by omega) hsz ?_; intro A9 c9 w9 hr9 hg9 hat9; have z9 := (cell_grown hg9 hsz2.out (fun e => by have := hrl.out _ e.symm; omega) 3).trans hcell.out)
          have hR9 : Hid (vRow w.heap.size w9 (.slice A9 (xs.length + 1) c9) (xs ++ [⟨key, val, gone, ts, dc, tx⟩])) := Lib.hid (by unfold vRow; rw [List.length_append, List.map_append, List.flatten_append]; simpa using hr9)
          have hU9 := Lib.hid (UAt.grown hU3.out hg9 (fun q e => by have := hrl.out q e; omega))
          have hG9 := Lib.hid (Gr.grown hG3.out hg9 (fun q e => (hrl.out q e).1))
          clear hr9 hg9 hat9 hU3 hG3 hR3 hR hst hcell
          go_wp2
          go_roundw
          case rel => exact ⟨k + 1, xs ++ [⟨key, val, gone, ts, dc, tx⟩], t', ts, by omega, by go_num, rfl, by rw [List.length_append, hxl.out]; rfl, by rw [show n - (k + 1) = m by omega]; exact hI2, hR9, hU9, hG9⟩
          case measure => simp [intOf]; omega
      · obtain rfl : k = n := by omega
        rw [Nat.sub_self] at hI
        have hE := Lib.hid (rdl_ok (Row := vRow w.heap.size) (hI.out.trans row_done) hR.out hU.out hG.out)
        clear hs hI hR hU hG
        go_wp2
        go_ret
        exact hE.out
end Go.Proofs.Ytkbhmeajgmecoaa.wirDg
