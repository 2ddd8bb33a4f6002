/- wire.Decode. -/
import Derived.Test.YtkbhmeajgmecoaaWirDk
namespace Go.Proofs.Ytkbhmeajgmecoaa.wirDl
open Go.ChangeShapes Go.WideShapes Go.ChangeAt Go.RowKit Go.Deep
open numM rowA byt numA numB numC numN numD numE wirM wirA wirL wirP wirQ wirR wirDa wirDb wirDc wirDd wirDe wirDf wirDg wirDh wirDi wirDj wirDk

theorem ver_any (v : Int) (w : World) : Calls Try.prog 28 #[.int .i64 v] w fun e w' => e = .returned (.bool (decide (v = 1 ∨ v = 2))) ∧ w = w' := by
  by_cases h1 : v = 1
  · subst h1
    go_enter Try.func28, Try.ntmps28
    go_wp2
    go_ret
    exact ⟨rfl, rfl⟩
  · by_cases h2 : v = 2
    · subst h2
      go_enter Try.func28, Try.ntmps28
      go_wp2
      go_ret
      exact ⟨rfl, rfl⟩
    · have e1 : (v == 1) = false := by rw [beq_eq_false_iff_ne]; exact h1
      have e2 : (v == 2) = false := by rw [beq_eq_false_iff_ne]; exact h2
      have e3 : decide (v = 1 ∨ v = 2) = false := decide_eq_false (by omega)
      rw [e3]
      go_enter Try.func28, Try.ntmps28
      go_wp2
      go_ret
      exact ⟨rfl, rfl⟩
theorem ver_is (v : Int) (b : Bool) (h : decide (v = 1 ∨ v = 2) = b) (w : World) : Calls Try.prog 28 #[.int .i64 v] w fun e w' => e = .returned (.bool b) ∧ w = w' := by
  subst h
  exact ver_any v w
theorem dec_whole {v : Int} (hv : v = 1 ∨ v = 2) (l : List Nat) : dec v l = whole (rBy v) l := by
  unfold dec whole
  rw [if_neg (by omega)]
  cases rBy v l with
  | error e => rfl
  | ok mt => rfl
theorem dec_no {v : Int} (hv : ¬ (v = 1 ∨ v = 2)) (l : List Nat) : dec v l = .error 15 := by
  unfold dec
  rw [if_pos (by omega)]
/-- what was answered in a later world -/
theorem rdb_low {w w1 w' : World} {x : Except Nat Ms} {m : Ms} {t : At} (h : x = .ok m) (hb : Below w.heap.size w w1) (hv : vRow w1.heap.size w' (.slice t.va m.vers.length t.vc) m.vers) (hn : nRow w1.heap.size w' (.slice t.na m.vec.length t.nc) m.vec) (hB : Below w.heap.size w w') : RdB w x (.returned (.tuple #[.agg (cm m t), .int .i64 0])) w' := by
  subst h
  exact ⟨t, rfl, own_low hv hb.size, own_low hn hb.size, hB⟩
theorem rdb_no {w w' : World} {x : Except Nat Ms} {k : Nat} (h : x = .error k) (hB : Below w.heap.size w w') : RdB w x (.returned (.tuple #[.agg mz, .int .i64 k])) w' := by subst h; exact ⟨rfl, hB⟩
set_option maxRecDepth 100000 in
set_option maxHeartbeats 4000000 in
theorem decode_no (v : Int) (hv : ¬ (v = 1 ∨ v = 2)) (A : Option Addr) (c : Nat) (l : List Nat) (w : World) : Calls Try.prog 19 #[.int .i64 v, .slice A l.length c] w (RdB w (dec v l)) := by
  have hm4 : (w.alloc (.cells mz 28)).rowIs w.heap.size 28 14 (fun i => mz.getD i undef) := row_new w mz 28
  have hfin : RdB w (dec v l) (.returned (.tuple #[.agg mz, .int .i64 (15 : Nat)])) (put14 (w.alloc (.cells mz 28)) w.heap.size mz 14) := rdb_no (dec_no hv l) (put14_below ((Below.refl _ _).alloc (Nat.le_refl _) _) (Nat.le_refl _) mz 14)
  replace hfin := Lib.hid hfin
  have hd : decide (v = 1 ∨ v = 2) = false := decide_eq_false hv
  go_enter Try.func19, Try.ntmps19
  go_wp2_with (fail)
  refine (ver_is v false hd _).mono ?_
  rintro e w1 ⟨rfl, rfl⟩
  clear hd hv
  generalize w.alloc (.cells mz 28) = w4 at *
  have y0 : w4.cell? ⟨w.heap.size, 0, none⟩ = some (.int .i64 0) := hm4.cell (i := 0) (by omega)
  have yf0 := hm4.frozen 0
  have y1 : w4.cell? ⟨w.heap.size, 1, none⟩ = some (.int .u64 0) := hm4.cell (i := 1) (by omega)
  have yf1 := hm4.frozen 1
  have y2 : w4.cell? ⟨w.heap.size, 2, none⟩ = some (.int .u64 0) := hm4.cell (i := 2) (by omega)
  have yf2 := hm4.frozen 2
  have y3 : w4.cell? ⟨w.heap.size, 3, none⟩ = some (.int .u64 0) := hm4.cell (i := 3) (by omega)
  have yf3 := hm4.frozen 3
  have y4 : w4.cell? ⟨w.heap.size, 4, none⟩ = some (.string ⟨#[]⟩) := hm4.cell (i := 4) (by omega)
  have yf4 := hm4.frozen 4
  have y5 : w4.cell? ⟨w.heap.size, 5, none⟩ = some (.string ⟨#[]⟩) := hm4.cell (i := 5) (by omega)
  have yf5 := hm4.frozen 5
  have y6 : w4.cell? ⟨w.heap.size, 6, none⟩ = some (.slice none 0 0) := hm4.cell (i := 6) (by omega)
  have yf6 := hm4.frozen 6
  have y7 : w4.cell? ⟨w.heap.size, 7, none⟩ = some (.slice none 0 0) := hm4.cell (i := 7) (by omega)
  have yf7 := hm4.frozen 7
  have y8 : w4.cell? ⟨w.heap.size, 8, none⟩ = some (.int .i64 0) := hm4.cell (i := 8) (by omega)
  have yf8 := hm4.frozen 8
  have y9 : w4.cell? ⟨w.heap.size, 9, none⟩ = some (.int .i64 0) := hm4.cell (i := 9) (by omega)
  have yf9 := hm4.frozen 9
  have y10 : w4.cell? ⟨w.heap.size, 10, none⟩ = some (.int .i64 0) := hm4.cell (i := 10) (by omega)
  have yf10 := hm4.frozen 10
  have y11 : w4.cell? ⟨w.heap.size, 11, none⟩ = some (.int .i64 0) := hm4.cell (i := 11) (by omega)
  have yf11 := hm4.frozen 11
  have y12 : w4.cell? ⟨w.heap.size, 12, none⟩ = some (.int .i64 0) := hm4.cell (i := 12) (by omega)
  have yf12 := hm4.frozen 12
  have y13 : w4.cell? ⟨w.heap.size, 13, none⟩ = some (.string ⟨#[]⟩) := hm4.cell (i := 13) (by omega)
  have yf13 := hm4.frozen 13
  have hm9 : Hid ((put14 w4 w.heap.size mz 14).rowIs w.heap.size 28 14 (fun i => (mz : Array Value).getD i undef)) := Lib.hid ((put14_row hm4 mz 14).congr (fun i hi => if_pos hi))
  clear hm4
  go_wp2
  change bodyPost _ _ _ _ _ (put14 w4 w.heap.size mz 14)
  generalize put14 w4 w.heap.size mz 14 = w9 at *
  clear y0 yf0 y1 yf1 y2 yf2 y3 yf3 y4 yf4 y5 yf5 y6 yf6 y7 yf7 y8 yf8 y9 yf9 y10 yf10 y11 yf11 y12 yf12 y13 yf13
  have y0 : w9.cell? ⟨w.heap.size, 0, none⟩ = some (.int .i64 0) := hm9.out.cell (i := 0) (by omega)
  have y1 : w9.cell? ⟨w.heap.size, 1, none⟩ = some (.int .u64 0) := hm9.out.cell (i := 1) (by omega)
  have y2 : w9.cell? ⟨w.heap.size, 2, none⟩ = some (.int .u64 0) := hm9.out.cell (i := 2) (by omega)
  have y3 : w9.cell? ⟨w.heap.size, 3, none⟩ = some (.int .u64 0) := hm9.out.cell (i := 3) (by omega)
  have y4 : w9.cell? ⟨w.heap.size, 4, none⟩ = some (.string ⟨#[]⟩) := hm9.out.cell (i := 4) (by omega)
  have y5 : w9.cell? ⟨w.heap.size, 5, none⟩ = some (.string ⟨#[]⟩) := hm9.out.cell (i := 5) (by omega)
  have y6 : w9.cell? ⟨w.heap.size, 6, none⟩ = some (.slice none 0 0) := hm9.out.cell (i := 6) (by omega)
  have y7 : w9.cell? ⟨w.heap.size, 7, none⟩ = some (.slice none 0 0) := hm9.out.cell (i := 7) (by omega)
  have y8 : w9.cell? ⟨w.heap.size, 8, none⟩ = some (.int .i64 0) := hm9.out.cell (i := 8) (by omega)
  have y9 : w9.cell? ⟨w.heap.size, 9, none⟩ = some (.int .i64 0) := hm9.out.cell (i := 9) (by omega)
  have y10 : w9.cell? ⟨w.heap.size, 10, none⟩ = some (.int .i64 0) := hm9.out.cell (i := 10) (by omega)
  have y11 : w9.cell? ⟨w.heap.size, 11, none⟩ = some (.int .i64 0) := hm9.out.cell (i := 11) (by omega)
  have y12 : w9.cell? ⟨w.heap.size, 12, none⟩ = some (.int .i64 0) := hm9.out.cell (i := 12) (by omega)
  have y13 : w9.cell? ⟨w.heap.size, 13, none⟩ = some (.string ⟨#[]⟩) := hm9.out.cell (i := 13) (by omega)
  refine bodyPost_ret (v := .tuple #[.agg mz, .int .i64 15]) ?_ rfl hfin.out
  simp [results, Try.results19, go_sem, y0, y1, y2, y3, y4, y5, y6, y7, y8, y9, y10, y11, y12, y13]
set_option maxRecDepth 100000 in
set_option maxHeartbeats 4000000 in
theorem decode_1 (A : Option Addr) (c : Nat) (l : List Nat) (w : World) (hb : BL w A l.length l) (hc : l.length ≤ c) (h9 : c ≤ 9223372036854775807) (hA : l.length = 0 ∨ A = none ∨ ∃ b off, A = some ⟨b, off, none⟩ ∧ b < w.heap.size) : Calls Try.prog 19 #[.int .i64 1, .slice A l.length c] w (RdB w (dec 1 l)) := by
  have hal : Below w.heap.size w (w.alloc (.cells mz 28)) := (Below.refl _ _).alloc (Nat.le_refl _) _
  have hwd : dec 1 l = whole rElder l := dec_whole (by omega) l
  have hby := byElder_any A c l (w.alloc (.cells mz 28)) (hb.below hal) hc h9 (hA.imp id (fun hA => hA.imp id (fun ⟨b, off, e, h⟩ => ⟨b, off, e, by simp; omega⟩)))
  have hm0 : (w.alloc (.cells mz 28)).rowIs w.heap.size 28 14 (fun i => mz.getD i undef) := row_new w mz 28
  replace hal := Lib.hid hal
  replace hm0 := Lib.hid hm0
  replace hby := Lib.hid hby
  replace hwd := Lib.hid hwd
  clear hb hA
  go_enter Try.func19, Try.ntmps19
  go_wp2_with (fail)
  refine (ver_is 1 true (by decide) _).mono ?_
  rintro e w1 ⟨rfl, rfl⟩
  generalize w.alloc (.cells mz 28) = w1 at *
  go_wp2_with (fail)
  refine hby.out.mono ?_
  rintro e w4 hh
  rcases hq : whole rElder l with k | m
  · rw [hq] at hh
    obtain ⟨rfl, hB⟩ := hh
    have hm4 := hm0.out.of_block (hB.block _ hm0.out.lt)
    have hfin := Lib.hid (rdb_no (hwd.out.trans hq) (put14_below (hal.out.trans (hB.mono hal.out.size)) (Nat.le_refl _) mz 14))
    clear hB hm0 hal hby hwd hq
    have y0 : w4.cell? ⟨w.heap.size, 0, none⟩ = some (.int .i64 0) := hm4.cell (i := 0) (by omega)
    have yf0 := hm4.frozen 0
    have y1 : w4.cell? ⟨w.heap.size, 1, none⟩ = some (.int .u64 0) := hm4.cell (i := 1) (by omega)
    have yf1 := hm4.frozen 1
    have y2 : w4.cell? ⟨w.heap.size, 2, none⟩ = some (.int .u64 0) := hm4.cell (i := 2) (by omega)
    have yf2 := hm4.frozen 2
    have y3 : w4.cell? ⟨w.heap.size, 3, none⟩ = some (.int .u64 0) := hm4.cell (i := 3) (by omega)
    have yf3 := hm4.frozen 3
    have y4 : w4.cell? ⟨w.heap.size, 4, none⟩ = some (.string ⟨#[]⟩) := hm4.cell (i := 4) (by omega)
    have yf4 := hm4.frozen 4
    have y5 : w4.cell? ⟨w.heap.size, 5, none⟩ = some (.string ⟨#[]⟩) := hm4.cell (i := 5) (by omega)
    have yf5 := hm4.frozen 5
    have y6 : w4.cell? ⟨w.heap.size, 6, none⟩ = some (.slice none 0 0) := hm4.cell (i := 6) (by omega)
    have yf6 := hm4.frozen 6
    have y7 : w4.cell? ⟨w.heap.size, 7, none⟩ = some (.slice none 0 0) := hm4.cell (i := 7) (by omega)
    have yf7 := hm4.frozen 7
    have y8 : w4.cell? ⟨w.heap.size, 8, none⟩ = some (.int .i64 0) := hm4.cell (i := 8) (by omega)
    have yf8 := hm4.frozen 8
    have y9 : w4.cell? ⟨w.heap.size, 9, none⟩ = some (.int .i64 0) := hm4.cell (i := 9) (by omega)
    have yf9 := hm4.frozen 9
    have y10 : w4.cell? ⟨w.heap.size, 10, none⟩ = some (.int .i64 0) := hm4.cell (i := 10) (by omega)
    have yf10 := hm4.frozen 10
    have y11 : w4.cell? ⟨w.heap.size, 11, none⟩ = some (.int .i64 0) := hm4.cell (i := 11) (by omega)
    have yf11 := hm4.frozen 11
    have y12 : w4.cell? ⟨w.heap.size, 12, none⟩ = some (.int .i64 0) := hm4.cell (i := 12) (by omega)
    have yf12 := hm4.frozen 12
    have y13 : w4.cell? ⟨w.heap.size, 13, none⟩ = some (.string ⟨#[]⟩) := hm4.cell (i := 13) (by omega)
    have yf13 := hm4.frozen 13
    have hm9 : Hid ((put14 w4 w.heap.size mz 14).rowIs w.heap.size 28 14 (fun i => (mz : Array Value).getD i undef)) := Lib.hid ((put14_row hm4 mz 14).congr (fun i hi => if_pos hi))
    clear hm4
    go_wp2
    change bodyPost _ _ _ _ _ (put14 w4 w.heap.size mz 14)
    generalize put14 w4 w.heap.size mz 14 = w9 at *
    clear y0 yf0 y1 yf1 y2 yf2 y3 yf3 y4 yf4 y5 yf5 y6 yf6 y7 yf7 y8 yf8 y9 yf9 y10 yf10 y11 yf11 y12 yf12 y13 yf13
    have y0 : w9.cell? ⟨w.heap.size, 0, none⟩ = some (.int .i64 0) := hm9.out.cell (i := 0) (by omega)
    have y1 : w9.cell? ⟨w.heap.size, 1, none⟩ = some (.int .u64 0) := hm9.out.cell (i := 1) (by omega)
    have y2 : w9.cell? ⟨w.heap.size, 2, none⟩ = some (.int .u64 0) := hm9.out.cell (i := 2) (by omega)
    have y3 : w9.cell? ⟨w.heap.size, 3, none⟩ = some (.int .u64 0) := hm9.out.cell (i := 3) (by omega)
    have y4 : w9.cell? ⟨w.heap.size, 4, none⟩ = some (.string ⟨#[]⟩) := hm9.out.cell (i := 4) (by omega)
    have y5 : w9.cell? ⟨w.heap.size, 5, none⟩ = some (.string ⟨#[]⟩) := hm9.out.cell (i := 5) (by omega)
    have y6 : w9.cell? ⟨w.heap.size, 6, none⟩ = some (.slice none 0 0) := hm9.out.cell (i := 6) (by omega)
    have y7 : w9.cell? ⟨w.heap.size, 7, none⟩ = some (.slice none 0 0) := hm9.out.cell (i := 7) (by omega)
    have y8 : w9.cell? ⟨w.heap.size, 8, none⟩ = some (.int .i64 0) := hm9.out.cell (i := 8) (by omega)
    have y9 : w9.cell? ⟨w.heap.size, 9, none⟩ = some (.int .i64 0) := hm9.out.cell (i := 9) (by omega)
    have y10 : w9.cell? ⟨w.heap.size, 10, none⟩ = some (.int .i64 0) := hm9.out.cell (i := 10) (by omega)
    have y11 : w9.cell? ⟨w.heap.size, 11, none⟩ = some (.int .i64 0) := hm9.out.cell (i := 11) (by omega)
    have y12 : w9.cell? ⟨w.heap.size, 12, none⟩ = some (.int .i64 0) := hm9.out.cell (i := 12) (by omega)
    have y13 : w9.cell? ⟨w.heap.size, 13, none⟩ = some (.string ⟨#[]⟩) := hm9.out.cell (i := 13) (by omega)
    refine bodyPost_ret (v := .tuple #[.agg mz, .int .i64 k]) ?_ rfl hfin.out
    simp [results, Try.results19, go_sem, y0, y1, y2, y3, y4, y5, y6, y7, y8, y9, y10, y11, y12, y13]
  · rw [hq] at hh
    obtain ⟨t', rfl, hv, hn, hB⟩ := hh
    have hm4 := hm0.out.of_block (hB.block _ hm0.out.lt)
    have hlt := hm0.out.lt
    have hv5 : vRow w1.heap.size (put14 w4 w.heap.size (cm m t') 14) (.slice t'.va m.vers.length t'.vc) m.vers := own_blk hv (fun k e => put14_other (by have := (World.ownsRow.lt hv k e).1; omega) (cm m t') 14)
    have hn5 : nRow w1.heap.size (put14 w4 w.heap.size (cm m t') 14) (.slice t'.na m.vec.length t'.nc) m.vec := own_blk hn (fun k e => put14_other (by have := (World.ownsRow.lt hn k e).1; omega) (cm m t') 14)
    have hfin := Lib.hid (rdb_low (hwd.out.trans hq) hal.out hv5 hn5 (put14_below (hal.out.trans (hB.mono hal.out.size)) (Nat.le_refl _) (cm m t') 14))
    clear hB hm0 hal hby hwd hq hv hn hv5 hn5
    have y0 : w4.cell? ⟨w.heap.size, 0, none⟩ = some (.int .i64 0) := hm4.cell (i := 0) (by omega)
    have yf0 := hm4.frozen 0
    have y1 : w4.cell? ⟨w.heap.size, 1, none⟩ = some (.int .u64 0) := hm4.cell (i := 1) (by omega)
    have yf1 := hm4.frozen 1
    have y2 : w4.cell? ⟨w.heap.size, 2, none⟩ = some (.int .u64 0) := hm4.cell (i := 2) (by omega)
    have yf2 := hm4.frozen 2
    have y3 : w4.cell? ⟨w.heap.size, 3, none⟩ = some (.int .u64 0) := hm4.cell (i := 3) (by omega)
    have yf3 := hm4.frozen 3
    have y4 : w4.cell? ⟨w.heap.size, 4, none⟩ = some (.string ⟨#[]⟩) := hm4.cell (i := 4) (by omega)
    have yf4 := hm4.frozen 4
    have y5 : w4.cell? ⟨w.heap.size, 5, none⟩ = some (.string ⟨#[]⟩) := hm4.cell (i := 5) (by omega)
    have yf5 := hm4.frozen 5
    have y6 : w4.cell? ⟨w.heap.size, 6, none⟩ = some (.slice none 0 0) := hm4.cell (i := 6) (by omega)
    have yf6 := hm4.frozen 6
    have y7 : w4.cell? ⟨w.heap.size, 7, none⟩ = some (.slice none 0 0) := hm4.cell (i := 7) (by omega)
    have yf7 := hm4.frozen 7
    have y8 : w4.cell? ⟨w.heap.size, 8, none⟩ = some (.int .i64 0) := hm4.cell (i := 8) (by omega)
    have yf8 := hm4.frozen 8
    have y9 : w4.cell? ⟨w.heap.size, 9, none⟩ = some (.int .i64 0) := hm4.cell (i := 9) (by omega)
    have yf9 := hm4.frozen 9
    have y10 : w4.cell? ⟨w.heap.size, 10, none⟩ = some (.int .i64 0) := hm4.cell (i := 10) (by omega)
    have yf10 := hm4.frozen 10
    have y11 : w4.cell? ⟨w.heap.size, 11, none⟩ = some (.int .i64 0) := hm4.cell (i := 11) (by omega)
    have yf11 := hm4.frozen 11
    have y12 : w4.cell? ⟨w.heap.size, 12, none⟩ = some (.int .i64 0) := hm4.cell (i := 12) (by omega)
    have yf12 := hm4.frozen 12
    have y13 : w4.cell? ⟨w.heap.size, 13, none⟩ = some (.string ⟨#[]⟩) := hm4.cell (i := 13) (by omega)
    have yf13 := hm4.frozen 13
    have hm9 : Hid ((put14 w4 w.heap.size (cm m t') 14).rowIs w.heap.size 28 14 (fun i => ((cm m t') : Array Value).getD i undef)) := Lib.hid ((put14_row hm4 (cm m t') 14).congr (fun i hi => if_pos hi))
    clear hm4
    go_wp2
    change bodyPost _ _ _ _ _ (put14 w4 w.heap.size (cm m t') 14)
    generalize put14 w4 w.heap.size (cm m t') 14 = w9 at *
    clear y0 yf0 y1 yf1 y2 yf2 y3 yf3 y4 yf4 y5 yf5 y6 yf6 y7 yf7 y8 yf8 y9 yf9 y10 yf10 y11 yf11 y12 yf12 y13 yf13
    have y0 : w9.cell? ⟨w.heap.size, 0, none⟩ = some (.int .i64 m.kind) := hm9.out.cell (i := 0) (by omega)
    have y1 : w9.cell? ⟨w.heap.size, 1, none⟩ = some (.int .u64 m.id) := hm9.out.cell (i := 1) (by omega)
    have y2 : w9.cell? ⟨w.heap.size, 2, none⟩ = some (.int .u64 m.n) := hm9.out.cell (i := 2) (by omega)
    have y3 : w9.cell? ⟨w.heap.size, 3, none⟩ = some (.int .u64 m.ts) := hm9.out.cell (i := 3) (by omega)
    have y4 : w9.cell? ⟨w.heap.size, 4, none⟩ = some (.string m.lo) := hm9.out.cell (i := 4) (by omega)
    have y5 : w9.cell? ⟨w.heap.size, 5, none⟩ = some (.string m.hi) := hm9.out.cell (i := 5) (by omega)
    have y6 : w9.cell? ⟨w.heap.size, 6, none⟩ = some (.slice t'.va m.vers.length t'.vc) := hm9.out.cell (i := 6) (by omega)
    have y7 : w9.cell? ⟨w.heap.size, 7, none⟩ = some (.slice t'.na m.vec.length t'.nc) := hm9.out.cell (i := 7) (by omega)
    have y8 : w9.cell? ⟨w.heap.size, 8, none⟩ = some (.int .i64 m.cmd.kind) := hm9.out.cell (i := 8) (by omega)
    have y9 : w9.cell? ⟨w.heap.size, 9, none⟩ = some (.int .i64 m.cmd.dc) := hm9.out.cell (i := 9) (by omega)
    have y10 : w9.cell? ⟨w.heap.size, 10, none⟩ = some (.int .i64 m.cmd.shard) := hm9.out.cell (i := 10) (by omega)
    have y11 : w9.cell? ⟨w.heap.size, 11, none⟩ = some (.int .i64 m.cmd.node) := hm9.out.cell (i := 11) (by omega)
    have y12 : w9.cell? ⟨w.heap.size, 12, none⟩ = some (.int .i64 m.cmd.mode) := hm9.out.cell (i := 12) (by omega)
    have y13 : w9.cell? ⟨w.heap.size, 13, none⟩ = some (.string m.cmd.key) := hm9.out.cell (i := 13) (by omega)
    refine bodyPost_ret (v := .tuple #[.agg (cm m t'), .int .i64 0]) ?_ rfl hfin.out
    simp [results, Try.results19, go_sem, y0, y1, y2, y3, y4, y5, y6, y7, y8, y9, y10, y11, y12, y13]
set_option maxRecDepth 100000 in
set_option maxHeartbeats 4000000 in
theorem decode_2 (A : Option Addr) (c : Nat) (l : List Nat) (w : World) (hb : BL w A l.length l) (hc : l.length ≤ c) (h9 : c ≤ 9223372036854775807) (hA : l.length = 0 ∨ A = none ∨ ∃ b off, A = some ⟨b, off, none⟩ ∧ b < w.heap.size) : Calls Try.prog 19 #[.int .i64 2, .slice A l.length c] w (RdB w (dec 2 l)) := by
  have hal : Below w.heap.size w (w.alloc (.cells mz 28)) := (Below.refl _ _).alloc (Nat.le_refl _) _
  have hwd : dec 2 l = whole rNewer l := dec_whole (by omega) l
  have hby := byNewer_any A c l (w.alloc (.cells mz 28)) (hb.below hal) hc h9 (hA.imp id (fun hA => hA.imp id (fun ⟨b, off, e, h⟩ => ⟨b, off, e, by simp; omega⟩)))
  have hm0 : (w.alloc (.cells mz 28)).rowIs w.heap.size 28 14 (fun i => mz.getD i undef) := row_new w mz 28
  replace hal := Lib.hid hal
  replace hm0 := Lib.hid hm0
  replace hby := Lib.hid hby
  replace hwd := Lib.hid hwd
  clear hb hA
  go_enter Try.func19, Try.ntmps19
  go_wp2_with (fail)
  refine (ver_is 2 true (by decide) _).mono ?_
  rintro e w1 ⟨rfl, rfl⟩
  generalize w.alloc (.cells mz 28) = w1 at *
  go_wp2_with (fail)
  refine hby.out.mono ?_
  rintro e w4 hh
  rcases hq : whole rNewer l with k | m
  · rw [hq] at hh
    obtain ⟨rfl, hB⟩ := hh
    have hm4 := hm0.out.of_block (hB.block _ hm0.out.lt)
    have hfin := Lib.hid (rdb_no (hwd.out.trans hq) (put14_below (hal.out.trans (hB.mono hal.out.size)) (Nat.le_refl _) mz 14))
    clear hB hm0 hal hby hwd hq
    have y0 : w4.cell? ⟨w.heap.size, 0, none⟩ = some (.int .i64 0) := hm4.cell (i := 0) (by omega)
    have yf0 := hm4.frozen 0
    have y1 : w4.cell? ⟨w.heap.size, 1, none⟩ = some (.int .u64 0) := hm4.cell (i := 1) (by omega)
    have yf1 := hm4.frozen 1
    have y2 : w4.cell? ⟨w.heap.size, 2, none⟩ = some (.int .u64 0) := hm4.cell (i := 2) (by omega)
    have yf2 := hm4.frozen 2
    have y3 : w4.cell? ⟨w.heap.size, 3, none⟩ = some (.int .u64 0) := hm4.cell (i := 3) (by omega)
    have yf3 := hm4.frozen 3
    have y4 : w4.cell? ⟨w.heap.size, 4, none⟩ = some (.string ⟨#[]⟩) := hm4.cell (i := 4) (by omega)
    have yf4 := hm4.frozen 4
    have y5 : w4.cell? ⟨w.heap.size, 5, none⟩ = some (.string ⟨#[]⟩) := hm4.cell (i := 5) (by omega)
    have yf5 := hm4.frozen 5
    have y6 : w4.cell? ⟨w.heap.size, 6, none⟩ = some (.slice none 0 0) := hm4.cell (i := 6) (by omega)
    have yf6 := hm4.frozen 6
    have y7 : w4.cell? ⟨w.heap.size, 7, none⟩ = some (.slice none 0 0) := hm4.cell (i := 7) (by omega)
    have yf7 := hm4.frozen 7
    have y8 : w4.cell? ⟨w.heap.size, 8, none⟩ = some (.int .i64 0) := hm4.cell (i := 8) (by omega)
    have yf8 := hm4.frozen 8
    have y9 : w4.cell? ⟨w.heap.size, 9, none⟩ = some (.int .i64 0) := hm4.cell (i := 9) (by omega)
    have yf9 := hm4.frozen 9
    have y10 : w4.cell? ⟨w.heap.size, 10, none⟩ = some (.int .i64 0) := hm4.cell (i := 10) (by omega)
    have yf10 := hm4.frozen 10
    have y11 : w4.cell? ⟨w.heap.size, 11, none⟩ = some (.int .i64 0) := hm4.cell (i := 11) (by omega)
    have yf11 := hm4.frozen 11
    have y12 : w4.cell? ⟨w.heap.size, 12, none⟩ = some (.int .i64 0) := hm4.cell (i := 12) (by omega)
    have yf12 := hm4.frozen 12
    have y13 : w4.cell? ⟨w.heap.size, 13, none⟩ = some (.string ⟨#[]⟩) := hm4.cell (i := 13) (by omega)
    have yf13 := hm4.frozen 13
    have hm9 : Hid ((put14 w4 w.heap.size mz 14).rowIs w.heap.size 28 14 (fun i => (mz : Array Value).getD i undef)) := Lib.hid ((put14_row hm4 mz 14).congr (fun i hi => if_pos hi))
    clear hm4
    go_wp2
    change bodyPost _ _ _ _ _ (put14 w4 w.heap.size mz 14)
    generalize put14 w4 w.heap.size mz 14 = w9 at *
    clear y0 yf0 y1 yf1 y2 yf2 y3 yf3 y4 yf4 y5 yf5 y6 yf6 y7 yf7 y8 yf8 y9 yf9 y10 yf10 y11 yf11 y12 yf12 y13 yf13
    have y0 : w9.cell? ⟨w.heap.size, 0, none⟩ = some (.int .i64 0) := hm9.out.cell (i := 0) (by omega)
    have y1 : w9.cell? ⟨w.heap.size, 1, none⟩ = some (.int .u64 0) := hm9.out.cell (i := 1) (by omega)
    have y2 : w9.cell? ⟨w.heap.size, 2, none⟩ = some (.int .u64 0) := hm9.out.cell (i := 2) (by omega)
    have y3 : w9.cell? ⟨w.heap.size, 3, none⟩ = some (.int .u64 0) := hm9.out.cell (i := 3) (by omega)
    have y4 : w9.cell? ⟨w.heap.size, 4, none⟩ = some (.string ⟨#[]⟩) := hm9.out.cell (i := 4) (by omega)
    have y5 : w9.cell? ⟨w.heap.size, 5, none⟩ = some (.string ⟨#[]⟩) := hm9.out.cell (i := 5) (by omega)
    have y6 : w9.cell? ⟨w.heap.size, 6, none⟩ = some (.slice none 0 0) := hm9.out.cell (i := 6) (by omega)
    have y7 : w9.cell? ⟨w.heap.size, 7, none⟩ = some (.slice none 0 0) := hm9.out.cell (i := 7) (by omega)
    have y8 : w9.cell? ⟨w.heap.size, 8, none⟩ = some (.int .i64 0) := hm9.out.cell (i := 8) (by omega)
    have y9 : w9.cell? ⟨w.heap.size, 9, none⟩ = some (.int .i64 0) := hm9.out.cell (i := 9) (by omega)
    have y10 : w9.cell? ⟨w.heap.size, 10, none⟩ = some (.int .i64 0) := hm9.out.cell (i := 10) (by omega)
    have y11 : w9.cell? ⟨w.heap.size, 11, none⟩ = some (.int .i64 0) := hm9.out.cell (i := 11) (by omega)
    have y12 : w9.cell? ⟨w.heap.size, 12, none⟩ = some (.int .i64 0) := hm9.out.cell (i := 12) (by omega)
    have y13 : w9.cell? ⟨w.heap.size, 13, none⟩ = some (.string ⟨#[]⟩) := hm9.out.cell (i := 13) (by omega)
    refine bodyPost_ret (v := .tuple #[.agg mz, .int .i64 k]) ?_ rfl hfin.out
    simp [results, Try.results19, go_sem, y0, y1, y2, y3, y4, y5, y6, y7, y8, y9, y10, y11, y12, y13]
  · rw [hq] at hh
    obtain ⟨t', rfl, hv, hn, hB⟩ := hh
    have hm4 := hm0.out.of_block (hB.block _ hm0.out.lt)
    have hlt := hm0.out.lt
    have hv5 : vRow w1.heap.size (put14 w4 w.heap.size (cm m t') 14) (.slice t'.va m.vers.length t'.vc) m.vers := own_blk hv (fun k e => put14_other (by have := (World.ownsRow.lt hv k e).1; omega) (cm m t') 14)
    have hn5 : nRow w1.heap.size (put14 w4 w.heap.size (cm m t') 14) (.slice t'.na m.vec.length t'.nc) m.vec := own_blk hn (fun k e => put14_other (by have := (World.ownsRow.lt hn k e).1; omega) (cm m t') 14)
    have hfin := Lib.hid (rdb_low (hwd.out.trans hq) hal.out hv5 hn5 (put14_below (hal.out.trans (hB.mono hal.out.size)) (Nat.le_refl _) (cm m t') 14))
    clear hB hm0 hal hby hwd hq hv hn hv5 hn5
    have y0 : w4.cell? ⟨w.heap.size, 0, none⟩ = some (.int .i64 0) := hm4.cell (i := 0) (by omega)
    have yf0 := hm4.frozen 0
    have y1 : w4.cell? ⟨w.heap.size, 1, none⟩ = some (.int .u64 0) := hm4.cell (i := 1) (by omega)
    have yf1 := hm4.frozen 1
    have y2 : w4.cell? ⟨w.heap.size, 2, none⟩ = some (.int .u64 0) := hm4.cell (i := 2) (by omega)
    have yf2 := hm4.frozen 2
    have y3 : w4.cell? ⟨w.heap.size, 3, none⟩ = some (.int .u64 0) := hm4.cell (i := 3) (by omega)
    have yf3 := hm4.frozen 3
    have y4 : w4.cell? ⟨w.heap.size, 4, none⟩ = some (.string ⟨#[]⟩) := hm4.cell (i := 4) (by omega)
    have yf4 := hm4.frozen 4
    have y5 : w4.cell? ⟨w.heap.size, 5, none⟩ = some (.string ⟨#[]⟩) := hm4.cell (i := 5) (by omega)
    have yf5 := hm4.frozen 5
    have y6 : w4.cell? ⟨w.heap.size, 6, none⟩ = some (.slice none 0 0) := hm4.cell (i := 6) (by omega)
    have yf6 := hm4.frozen 6
    have y7 : w4.cell? ⟨w.heap.size, 7, none⟩ = some (.slice none 0 0) := hm4.cell (i := 7) (by omega)
    have yf7 := hm4.frozen 7
    have y8 : w4.cell? ⟨w.heap.size, 8, none⟩ = some (.int .i64 0) := hm4.cell (i := 8) (by omega)
    have yf8 := hm4.frozen 8
    have y9 : w4.cell? ⟨w.heap.size, 9, none⟩ = some (.int .i64 0) := hm4.cell (i := 9) (by omega)
    have yf9 := hm4.frozen 9
    have y10 : w4.cell? ⟨w.heap.size, 10, none⟩ = some (.int .i64 0) := hm4.cell (i := 10) (by omega)
    have yf10 := hm4.frozen 10
    have y11 : w4.cell? ⟨w.heap.size, 11, none⟩ = some (.int .i64 0) := hm4.cell (i := 11) (by omega)
    have yf11 := hm4.frozen 11
    have y12 : w4.cell? ⟨w.heap.size, 12, none⟩ = some (.int .i64 0) := hm4.cell (i := 12) (by omega)
    have yf12 := hm4.frozen 12
    have y13 : w4.cell? ⟨w.heap.size, 13, none⟩ = some (.string ⟨#[]⟩) := hm4.cell (i := 13) (by omega)
    have yf13 := hm4.frozen 13
    have hm9 : Hid ((put14 w4 w.heap.size (cm m t') 14).rowIs w.heap.size 28 14 (fun i => ((cm m t') : Array Value).getD i undef)) := Lib.hid ((put14_row hm4 (cm m t') 14).congr (fun i hi => if_pos hi))
    clear hm4
    go_wp2
    change bodyPost _ _ _ _ _ (put14 w4 w.heap.size (cm m t') 14)
    generalize put14 w4 w.heap.size (cm m t') 14 = w9 at *
    clear y0 yf0 y1 yf1 y2 yf2 y3 yf3 y4 yf4 y5 yf5 y6 yf6 y7 yf7 y8 yf8 y9 yf9 y10 yf10 y11 yf11 y12 yf12 y13 yf13
    have y0 : w9.cell? ⟨w.heap.size, 0, none⟩ = some (.int .i64 m.kind) := hm9.out.cell (i := 0) (by omega)
    have y1 : w9.cell? ⟨w.heap.size, 1, none⟩ = some (.int .u64 m.id) := hm9.out.cell (i := 1) (by omega)
    have y2 : w9.cell? ⟨w.heap.size, 2, none⟩ = some (.int .u64 m.n) := hm9.out.cell (i := 2) (by omega)
    have y3 : w9.cell? ⟨w.heap.size, 3, none⟩ = some (.int .u64 m.ts) := hm9.out.cell (i := 3) (by omega)
    have y4 : w9.cell? ⟨w.heap.size, 4, none⟩ = some (.string m.lo) := hm9.out.cell (i := 4) (by omega)
    have y5 : w9.cell? ⟨w.heap.size, 5, none⟩ = some (.string m.hi) := hm9.out.cell (i := 5) (by omega)
    have y6 : w9.cell? ⟨w.heap.size, 6, none⟩ = some (.slice t'.va m.vers.length t'.vc) := hm9.out.cell (i := 6) (by omega)
    have y7 : w9.cell? ⟨w.heap.size, 7, none⟩ = some (.slice t'.na m.vec.length t'.nc) := hm9.out.cell (i := 7) (by omega)
    have y8 : w9.cell? ⟨w.heap.size, 8, none⟩ = some (.int .i64 m.cmd.kind) := hm9.out.cell (i := 8) (by omega)
    have y9 : w9.cell? ⟨w.heap.size, 9, none⟩ = some (.int .i64 m.cmd.dc) := hm9.out.cell (i := 9) (by omega)
    have y10 : w9.cell? ⟨w.heap.size, 10, none⟩ = some (.int .i64 m.cmd.shard) := hm9.out.cell (i := 10) (by omega)
    have y11 : w9.cell? ⟨w.heap.size, 11, none⟩ = some (.int .i64 m.cmd.node) := hm9.out.cell (i := 11) (by omega)
    have y12 : w9.cell? ⟨w.heap.size, 12, none⟩ = some (.int .i64 m.cmd.mode) := hm9.out.cell (i := 12) (by omega)
    have y13 : w9.cell? ⟨w.heap.size, 13, none⟩ = some (.string m.cmd.key) := hm9.out.cell (i := 13) (by omega)
    refine bodyPost_ret (v := .tuple #[.agg (cm m t'), .int .i64 0]) ?_ rfl hfin.out
    simp [results, Try.results19, go_sem, y0, y1, y2, y3, y4, y5, y6, y7, y8, y9, y10, y11, y12, y13]
/-- Decode, of any version and any bytes. -/
theorem decode_any (v : Int) (A : Option Addr) (c : Nat) (l : List Nat) (w : World) (hb : BL w A l.length l) (hc : l.length ≤ c) (h9 : c ≤ 9223372036854775807) (hA : l.length = 0 ∨ A = none ∨ ∃ b off, A = some ⟨b, off, none⟩ ∧ b < w.heap.size) : Calls Try.prog 19 #[.int .i64 v, .slice A l.length c] w (RdB w (dec v l)) := by
  by_cases hv : v = 1 ∨ v = 2
  · rcases hv with rfl | rfl
    · exact decode_1 A c l w hb hc h9 hA
    · exact decode_2 A c l w hb hc h9 hA
  · exact decode_no v hv A c l w
end Go.Proofs.Ytkbhmeajgmecoaa.wirDl
