/- readBy. -/
import Derived.Test.YtkbhmeajgmecoaaWirDj
namespace Go.Proofs.Ytkbhmeajgmecoaa.wirDk
open Go.ChangeShapes Go.WideShapes Go.ChangeAt Go.RowKit Go.Deep
open numM rowA byt numA numB numC numN numD numE wirM wirA wirL wirP wirQ wirR wirDa wirDb wirDc wirDd wirDe wirDf wirDg wirDh wirDi wirDj

/-- a whole body, read -/
def whole (r : R Ms) (l : List Nat) : Except Nat Ms := match r l with
  | .error e => .error e
  | .ok (m, t) => if t.length = 0 then .ok m else .error 3
/-- What is answered of it. -/
def RdB (w : World) (x : Except Nat Ms) (e : Ending) (w' : World) : Prop :=
  match x with
  | .ok m => ∃ t, e = .returned (.tuple #[.agg (cm m t), .int .i64 0]) ∧ vRow w.heap.size w' (.slice t.va m.vers.length t.vc) m.vers ∧ nRow w.heap.size w' (.slice t.na m.vec.length t.nc) m.vec ∧ Below w.heap.size w w'
  | .error k => e = .returned (.tuple #[.agg mz, .int .i64 k]) ∧ Below w.heap.size w w'
theorem UAt.new {w : World} {A : Option Addr} {c : Nat} {l : List Nat} (hb : BL w A l.length l) (hc : l.length ≤ c) (h9 : c ≤ 9223372036854775807) (hA : l.length = 0 ∨ A = none ∨ ∃ b off, A = some ⟨b, off, none⟩ ∧ b < w.heap.size) : UAt (w.alloc (.cells #[.slice A l.length c] 84)) w.heap.size l := by
  refine ⟨A, c, ?_, hb.below ((Below.refl _ _).alloc (Nat.le_refl _) _), hc, h9, hA⟩
  exact (row_new w #[.slice A l.length c] 84).congr (fun i hi => by
    have : i = 0 := by simp at hi; omega
    subst this; rfl)
set_option maxRecDepth 100000 in
set_option maxHeartbeats 4000000 in
theorem byNewer_any (A : Option Addr) (c : Nat) (l : List Nat) (w : World) (hb : BL w A l.length l) (hc : l.length ≤ c) (h9 : c ≤ 9223372036854775807) (hA : l.length = 0 ∨ A = none ∨ ∃ b off, A = some ⟨b, off, none⟩ ∧ b < w.heap.size) :
    Calls Try.prog 36 #[.func (.func 38) #[] #[], .slice A l.length c] w (RdB w (whole rNewer l)) := by
  have hmf : ∀ (fn : Fn) (first cap : Array Value) (w : World), (Instr.makeFunc fn first cap).run Try.prog w = .ok (.func fn first cap) w := fun _ _ _ _ => rfl
  have hs2 : ((w.alloc (.cells mz 28)).alloc (.cells #[.int .i64 0] 32)).heap.size = w.heap.size + 1 + 1 := by simp
  have hbel : Below w.heap.size w ((w.alloc (.cells mz 28)).alloc (.cells #[.int .i64 0] 32)) := (((Below.refl _ _).alloc (Nat.le_refl _) _).alloc (by simp) _)
  have hU := UAt.new (w := (w.alloc (.cells mz 28)).alloc (.cells #[.int .i64 0] 32)) (A := A) (c := c) (l := l) (hb.below hbel) hc h9 (hA.imp id (fun hA => hA.imp id (fun ⟨b, off, e, h⟩ => ⟨b, off, e, by rw [hs2]; omega⟩)))
  rw [hs2] at hU
  have hm0 : (((w.alloc (.cells mz 28)).alloc (.cells #[.int .i64 0] 32)).alloc (.cells #[.slice A l.length c] 84)).rowIs w.heap.size 28 14 (fun i => mz.getD i undef) := ((row_new w mz 28).of_block (Below.heap_alloc _ _ _ (by simp))).of_block (Below.heap_alloc _ _ _ (by simp; omega))
  have he0 : (((w.alloc (.cells mz 28)).alloc (.cells #[.int .i64 0] 32)).alloc (.cells #[.slice A l.length c] 84)).rowIs (w.heap.size + 1) 32 1 (fun i => (#[.int .i64 0] : Array Value).getD i undef) := by
    have h := row_new (w.alloc (.cells mz 28)) #[.int .i64 0] 32
    simp only [World.size_alloc] at h
    exact h.of_block (Below.heap_alloc _ _ _ (by simp))
  have hbl3 : Below w.heap.size w (((w.alloc (.cells mz 28)).alloc (.cells #[.int .i64 0] 32)).alloc (.cells #[.slice A l.length c] 84)) := hbel.alloc (by rw [hs2]; omega) _
  have hr := rnewer_any _ hU
  replace hU := Lib.hid hU
  replace hm0 := Lib.hid hm0
  replace he0 := Lib.hid he0
  replace hbl3 := Lib.hid hbl3
  clear hbel hs2 hb hA
  go_enter_defers Try.func36, Try.ntmps36
  go_wp2_with (fail)
  refine hr.mono ?_
  clear hr
  generalize (((w.alloc (.cells mz 28)).alloc (.cells #[.int .i64 0] 32)).alloc (.cells #[.slice A l.length c] 84)) = W3 at *
  rintro e w4 hh
  rcases hq : rNewer l with k | ⟨m, t⟩
  · have hwh : whole rNewer l = .error k := by unfold whole; rw [hq]
    replace hwh := Lib.hid hwh
    rw [hq] at hh
    obtain ⟨rfl, hg⟩ := hh
    have hm4 := row_gr hm0.out hg (show w.heap.size ≠ w.heap.size + 1 + 1 by omega)
    have he4 := row_gr he0.out hg (show w.heap.size + 1 ≠ w.heap.size + 1 + 1 by omega)
    have hbl4 := Lib.hid (hbl3.out.trans (hg.below (B := w.heap.size) hbl3.out.size (by omega)))
    clear hg hU hm0 he0 hbl3 hq
    refine leaves_cons (f := 60) (args := #[.pointer (some ⟨w.heap.size, 0, none⟩), .pointer (some ⟨w.heap.size + 1, 0, none⟩)]) (by simp) (by simp [go_sem]) ?_
    refine (catch_pan w.heap.size (w.heap.size + 1) k _ _ w4 hm4 he4 (by omega)).mono ?_
    rintro e u' w'' ⟨rfl, rfl, hcau⟩
    have y0 : w''.cell? ⟨w.heap.size, 0, none⟩ = some (.int .i64 0) := hcau.m.cell (i := 0) (by omega)
    have y1 : w''.cell? ⟨w.heap.size, 1, none⟩ = some (.int .u64 0) := hcau.m.cell (i := 1) (by omega)
    have y2 : w''.cell? ⟨w.heap.size, 2, none⟩ = some (.int .u64 0) := hcau.m.cell (i := 2) (by omega)
    have y3 : w''.cell? ⟨w.heap.size, 3, none⟩ = some (.int .u64 0) := hcau.m.cell (i := 3) (by omega)
    have y4 : w''.cell? ⟨w.heap.size, 4, none⟩ = some (.string ⟨#[]⟩) := hcau.m.cell (i := 4) (by omega)
    have y5 : w''.cell? ⟨w.heap.size, 5, none⟩ = some (.string ⟨#[]⟩) := hcau.m.cell (i := 5) (by omega)
    have y6 : w''.cell? ⟨w.heap.size, 6, none⟩ = some (.slice none 0 0) := hcau.m.cell (i := 6) (by omega)
    have y7 : w''.cell? ⟨w.heap.size, 7, none⟩ = some (.slice none 0 0) := hcau.m.cell (i := 7) (by omega)
    have y8 : w''.cell? ⟨w.heap.size, 8, none⟩ = some (.int .i64 0) := hcau.m.cell (i := 8) (by omega)
    have y9 : w''.cell? ⟨w.heap.size, 9, none⟩ = some (.int .i64 0) := hcau.m.cell (i := 9) (by omega)
    have y10 : w''.cell? ⟨w.heap.size, 10, none⟩ = some (.int .i64 0) := hcau.m.cell (i := 10) (by omega)
    have y11 : w''.cell? ⟨w.heap.size, 11, none⟩ = some (.int .i64 0) := hcau.m.cell (i := 11) (by omega)
    have y12 : w''.cell? ⟨w.heap.size, 12, none⟩ = some (.int .i64 0) := hcau.m.cell (i := 12) (by omega)
    have y13 : w''.cell? ⟨w.heap.size, 13, none⟩ = some (.string ⟨#[]⟩) := hcau.m.cell (i := 13) (by omega)
    have ye : w''.cell? ⟨w.heap.size + 1, 0, none⟩ = some (.int .i64 k) := hcau.e.cell (i := 0) (by omega)
    have hB9 := Lib.hid (hbl4.out.trans (hcau.bel w.heap.size (Nat.le_refl _) (by omega) hbl4.out.size))
    clear hcau
    simp [Leaves, settle, results, Try.results36, go_sem, ye, y0, y1, y2, y3, y4, y5, y6, y7, y8, y9, y10, y11, y12, y13]
    rw [hwh.out]
    exact ⟨rfl, hB9.out⟩
  · have hwh : whole rNewer l = if t.length = 0 then .ok m else .error 3 := by unfold whole; rw [hq]
    replace hwh := Lib.hid hwh
    rw [hq] at hh
    obtain ⟨t', rfl, hv, hn, hUt, hg⟩ := hh
    have hm4 := row_gr hm0.out hg (show w.heap.size ≠ w.heap.size + 1 + 1 by omega)
    have he4 := row_gr he0.out hg (show w.heap.size + 1 ≠ w.heap.size + 1 + 1 by omega)
    have hbl4 := Lib.hid (hbl3.out.trans (hg.below (B := w.heap.size) hbl3.out.size (by omega)))
    obtain ⟨Au, cu, hcu, -, -, -⟩ := UAt.open_ hUt
    have hW3 : w.heap.size + 1 + 1 < W3.heap.size := hU.out.lt
    clear hg hU hm0 he0 hbl3 hq
    have y0 : w4.cell? ⟨w.heap.size, 0, none⟩ = some (.int .i64 0) := hm4.cell (i := 0) (by omega)
    have yf0 := hm4.frozen 0
    have y1 : w4.cell? ⟨w.heap.size, 1, none⟩ = some (.int .u64 0) := hm4.cell (i := 1) (by omega)
    have yf1 := hm4.frozen 1
    have y2 : w4.cell? ⟨w.heap.size, 2, none⟩ = some (.int .u64 0) := hm4.cell (i := 2) (by omega)
    have yf2 := hm4.frozen 2
    have y3 : w4.cell? ⟨w.heap.size, 3, none⟩ = some (.int .u64 0) := hm4.cell (i := 3) (by omega)
    have yf3 := hm4.frozen 3
    have y4 : w4.cell? ⟨w.heap.size, 4, none⟩ = some (.string ⟨#[]⟩) := hm4.cell (i := 4) (by omega)
    have yf4 := hm4.frozen 4
    have y5 : w4.cell? ⟨w.heap.size, 5, none⟩ = some (.string ⟨#[]⟩) := hm4.cell (i := 5) (by omega)
    have yf5 := hm4.frozen 5
    have y6 : w4.cell? ⟨w.heap.size, 6, none⟩ = some (.slice none 0 0) := hm4.cell (i := 6) (by omega)
    have yf6 := hm4.frozen 6
    have y7 : w4.cell? ⟨w.heap.size, 7, none⟩ = some (.slice none 0 0) := hm4.cell (i := 7) (by omega)
    have yf7 := hm4.frozen 7
    have y8 : w4.cell? ⟨w.heap.size, 8, none⟩ = some (.int .i64 0) := hm4.cell (i := 8) (by omega)
    have yf8 := hm4.frozen 8
    have y9 : w4.cell? ⟨w.heap.size, 9, none⟩ = some (.int .i64 0) := hm4.cell (i := 9) (by omega)
    have yf9 := hm4.frozen 9
    have y10 : w4.cell? ⟨w.heap.size, 10, none⟩ = some (.int .i64 0) := hm4.cell (i := 10) (by omega)
    have yf10 := hm4.frozen 10
    have y11 : w4.cell? ⟨w.heap.size, 11, none⟩ = some (.int .i64 0) := hm4.cell (i := 11) (by omega)
    have yf11 := hm4.frozen 11
    have y12 : w4.cell? ⟨w.heap.size, 12, none⟩ = some (.int .i64 0) := hm4.cell (i := 12) (by omega)
    have yf12 := hm4.frozen 12
    have y13 : w4.cell? ⟨w.heap.size, 13, none⟩ = some (.string ⟨#[]⟩) := hm4.cell (i := 13) (by omega)
    have yf13 := hm4.frozen 13
    have ye : w4.cell? ⟨w.heap.size + 1, 0, none⟩ = some (.int .i64 0) := he4.cell (i := 0) (by omega)
    have yef := he4.frozen 0
    have hm5 : (put14 w4 w.heap.size (cm m t') 14).rowIs w.heap.size 28 14 (fun i => (cm m t').getD i undef) := (put14_row hm4 (cm m t') 14).congr (fun i hi => if_pos hi)
    have he5 : (put14 w4 w.heap.size (cm m t') 14).rowIs (w.heap.size + 1) 32 1 (fun i => (#[.int .i64 0] : Array Value).getD i undef) := he4.of_block (put14_other (by omega) (cm m t') 14)
    have hv5 : vRow W3.heap.size (put14 w4 w.heap.size (cm m t') 14) (.slice t'.va m.vers.length t'.vc) m.vers := own_blk hv (fun k e => put14_other (by have := (World.ownsRow.lt hv k e).1; omega) (cm m t') 14)
    have hn5 : nRow W3.heap.size (put14 w4 w.heap.size (cm m t') 14) (.slice t'.na m.vec.length t'.nc) m.vec := own_blk hn (fun k e => put14_other (by have := (World.ownsRow.lt hn k e).1; omega) (cm m t') 14)
    have hbl5 := Lib.hid (put14_below hbl4.out (Nat.le_refl _) (cm m t') 14)
    replace hm5 := Lib.hid hm5
    replace he5 := Lib.hid he5
    replace hv5 := Lib.hid hv5
    replace hn5 := Lib.hid hn5
    clear hv hn hm4 he4 hbl4
    go_wp2_with (fail)
    change Calls _ _ _ (put14 w4 w.heap.size (cm m t') 14) _
    generalize put14 w4 w.heap.size (cm m t') 14 = w5 at *
    clear y0 yf0 y1 yf1 y2 yf2 y3 yf3 y4 yf4 y5 yf5 y6 yf6 y7 yf7 y8 yf8 y9 yf9 y10 yf10 y11 yf11 y12 yf12 y13 yf13 ye yef hcu hUt
    by_cases ht : 0 < t.length
    · refine (refuse_yes (by first | rfl | exact decide_eq_true ht) 3 rfl w5).mono ?_
      rintro e w6 ⟨rfl, rfl⟩
      replace hwh := Lib.hid (hwh.out.trans (if_neg (show ¬ t.length = 0 by omega)))
      refine leaves_cons (f := 60) (args := #[.pointer (some ⟨w.heap.size, 0, none⟩), .pointer (some ⟨w.heap.size + 1, 0, none⟩)]) (by simp) (by simp [go_sem]) ?_
      refine (catch_pan w.heap.size (w.heap.size + 1) 3 _ _ w5 hm5.out he5.out (by omega)).mono ?_
      rintro e u' w'' ⟨rfl, rfl, hcau⟩
      have y0 : w''.cell? ⟨w.heap.size, 0, none⟩ = some (.int .i64 0) := hcau.m.cell (i := 0) (by omega)
      have y1 : w''.cell? ⟨w.heap.size, 1, none⟩ = some (.int .u64 0) := hcau.m.cell (i := 1) (by omega)
      have y2 : w''.cell? ⟨w.heap.size, 2, none⟩ = some (.int .u64 0) := hcau.m.cell (i := 2) (by omega)
      have y3 : w''.cell? ⟨w.heap.size, 3, none⟩ = some (.int .u64 0) := hcau.m.cell (i := 3) (by omega)
      have y4 : w''.cell? ⟨w.heap.size, 4, none⟩ = some (.string ⟨#[]⟩) := hcau.m.cell (i := 4) (by omega)
      have y5 : w''.cell? ⟨w.heap.size, 5, none⟩ = some (.string ⟨#[]⟩) := hcau.m.cell (i := 5) (by omega)
      have y6 : w''.cell? ⟨w.heap.size, 6, none⟩ = some (.slice none 0 0) := hcau.m.cell (i := 6) (by omega)
      have y7 : w''.cell? ⟨w.heap.size, 7, none⟩ = some (.slice none 0 0) := hcau.m.cell (i := 7) (by omega)
      have y8 : w''.cell? ⟨w.heap.size, 8, none⟩ = some (.int .i64 0) := hcau.m.cell (i := 8) (by omega)
      have y9 : w''.cell? ⟨w.heap.size, 9, none⟩ = some (.int .i64 0) := hcau.m.cell (i := 9) (by omega)
      have y10 : w''.cell? ⟨w.heap.size, 10, none⟩ = some (.int .i64 0) := hcau.m.cell (i := 10) (by omega)
      have y11 : w''.cell? ⟨w.heap.size, 11, none⟩ = some (.int .i64 0) := hcau.m.cell (i := 11) (by omega)
      have y12 : w''.cell? ⟨w.heap.size, 12, none⟩ = some (.int .i64 0) := hcau.m.cell (i := 12) (by omega)
      have y13 : w''.cell? ⟨w.heap.size, 13, none⟩ = some (.string ⟨#[]⟩) := hcau.m.cell (i := 13) (by omega)
      have ye : w''.cell? ⟨w.heap.size + 1, 0, none⟩ = some (.int .i64 (3 : Nat)) := hcau.e.cell (i := 0) (by omega)
      have hB9 := Lib.hid (hbl5.out.trans (hcau.bel w.heap.size (Nat.le_refl _) (by omega) hbl5.out.size))
      clear hcau
      simp [Leaves, settle, results, Try.results36, go_sem, ye, y0, y1, y2, y3, y4, y5, y6, y7, y8, y9, y10, y11, y12, y13]
      rw [hwh.out]
      exact ⟨rfl, hB9.out⟩
    · refine (refuse_no (by first | rfl | exact decide_eq_false ht) 3 w5).mono ?_
      rintro e w6 ⟨rfl, rfl⟩
      replace hwh := Lib.hid (hwh.out.trans (if_pos (show t.length = 0 by omega)))
      have hfinal : RdB w (whole rNewer l) (.returned (.tuple #[.agg (cm m t'), .int .i64 0])) ((put14 w5 w.heap.size (cm m t') 14).setCell ⟨w.heap.size + 1, 0, none⟩ (.int .i64 0)) := by
        rw [hwh.out]
        have ho : ∀ k, W3.heap.size ≤ k → ((put14 w5 w.heap.size (cm m t') 14).setCell ⟨w.heap.size + 1, 0, none⟩ (.int .i64 0)).heap[k]? = w5.heap[k]? := fun k hk => (Below.heap_setCell _ _ _ k (by show k ≠ w.heap.size + 1; omega)).trans (put14_other (by omega) (cm m t') 14)
        exact ⟨t', rfl, own_low (own_blk hv5.out (fun k e => ho k (World.ownsRow.lt hv5.out k e).1)) (by omega), own_low (own_blk hn5.out (fun k e => ho k (World.ownsRow.lt hn5.out k e).1)) (by omega), (put14_below hbl5.out (Nat.le_refl _) (cm m t') 14).setCell (p := ⟨w.heap.size + 1, 0, none⟩) (by show w.heap.size ≤ w.heap.size + 1; omega) _⟩
      replace hfinal := Lib.hid hfinal
      have y0 : w5.cell? ⟨w.heap.size, 0, none⟩ = some (.int .i64 m.kind) := hm5.out.cell (i := 0) (by omega)
      have yf0 := hm5.out.frozen 0
      have y1 : w5.cell? ⟨w.heap.size, 1, none⟩ = some (.int .u64 m.id) := hm5.out.cell (i := 1) (by omega)
      have yf1 := hm5.out.frozen 1
      have y2 : w5.cell? ⟨w.heap.size, 2, none⟩ = some (.int .u64 m.n) := hm5.out.cell (i := 2) (by omega)
      have yf2 := hm5.out.frozen 2
      have y3 : w5.cell? ⟨w.heap.size, 3, none⟩ = some (.int .u64 m.ts) := hm5.out.cell (i := 3) (by omega)
      have yf3 := hm5.out.frozen 3
      have y4 : w5.cell? ⟨w.heap.size, 4, none⟩ = some (.string m.lo) := hm5.out.cell (i := 4) (by omega)
      have yf4 := hm5.out.frozen 4
      have y5 : w5.cell? ⟨w.heap.size, 5, none⟩ = some (.string m.hi) := hm5.out.cell (i := 5) (by omega)
      have yf5 := hm5.out.frozen 5
      have y6 : w5.cell? ⟨w.heap.size, 6, none⟩ = some (.slice t'.va m.vers.length t'.vc) := hm5.out.cell (i := 6) (by omega)
      have yf6 := hm5.out.frozen 6
      have y7 : w5.cell? ⟨w.heap.size, 7, none⟩ = some (.slice t'.na m.vec.length t'.nc) := hm5.out.cell (i := 7) (by omega)
      have yf7 := hm5.out.frozen 7
      have y8 : w5.cell? ⟨w.heap.size, 8, none⟩ = some (.int .i64 m.cmd.kind) := hm5.out.cell (i := 8) (by omega)
      have yf8 := hm5.out.frozen 8
      have y9 : w5.cell? ⟨w.heap.size, 9, none⟩ = some (.int .i64 m.cmd.dc) := hm5.out.cell (i := 9) (by omega)
      have yf9 := hm5.out.frozen 9
      have y10 : w5.cell? ⟨w.heap.size, 10, none⟩ = some (.int .i64 m.cmd.shard) := hm5.out.cell (i := 10) (by omega)
      have yf10 := hm5.out.frozen 10
      have y11 : w5.cell? ⟨w.heap.size, 11, none⟩ = some (.int .i64 m.cmd.node) := hm5.out.cell (i := 11) (by omega)
      have yf11 := hm5.out.frozen 11
      have y12 : w5.cell? ⟨w.heap.size, 12, none⟩ = some (.int .i64 m.cmd.mode) := hm5.out.cell (i := 12) (by omega)
      have yf12 := hm5.out.frozen 12
      have y13 : w5.cell? ⟨w.heap.size, 13, none⟩ = some (.string m.cmd.key) := hm5.out.cell (i := 13) (by omega)
      have yf13 := hm5.out.frozen 13
      have ye : w5.cell? ⟨w.heap.size + 1, 0, none⟩ = some (.int .i64 0) := he5.out.cell (i := 0) (by omega)
      have yef := he5.out.frozen 0
      have hm9 : ((put14 w5 w.heap.size (cm m t') 14).setCell ⟨w.heap.size + 1, 0, none⟩ (.int .i64 0)).rowIs w.heap.size 28 14 (fun i => (cm m t').getD i undef) := row_put (p := ⟨w.heap.size + 1, 0, none⟩) ((put14_row hm5.out (cm m t') 14).congr (fun i hi => if_pos hi)) (by show w.heap.size ≠ w.heap.size + 1; omega) _
      have he9 : ((put14 w5 w.heap.size (cm m t') 14).setCell ⟨w.heap.size + 1, 0, none⟩ (.int .i64 0)).rowIs (w.heap.size + 1) 32 1 (fun _ => .int .i64 0) := ((he5.out.of_block (put14_other (by omega) (cm m t') 14)).set 0 (.int .i64 0)).congr (fun i hi => if_pos (by omega))
      replace hm9 := Lib.hid hm9
      replace he9 := Lib.hid he9
      go_wp2
      change bodyPostD _ _ _ _ _ ((put14 w5 w.heap.size (cm m t') 14).setCell ⟨w.heap.size + 1, 0, none⟩ (.int .i64 0))
      generalize (put14 w5 w.heap.size (cm m t') 14).setCell ⟨w.heap.size + 1, 0, none⟩ (.int .i64 0) = w9 at *
      clear y0 yf0 y1 yf1 y2 yf2 y3 yf3 y4 yf4 y5 yf5 y6 yf6 y7 yf7 y8 yf8 y9 yf9 y10 yf10 y11 yf11 y12 yf12 y13 yf13 ye yef
      have y0 : w9.cell? ⟨w.heap.size, 0, none⟩ = some (.int .i64 m.kind) := hm9.out.cell (i := 0) (by omega)
      have y1 : w9.cell? ⟨w.heap.size, 1, none⟩ = some (.int .u64 m.id) := hm9.out.cell (i := 1) (by omega)
      have y2 : w9.cell? ⟨w.heap.size, 2, none⟩ = some (.int .u64 m.n) := hm9.out.cell (i := 2) (by omega)
      have y3 : w9.cell? ⟨w.heap.size, 3, none⟩ = some (.int .u64 m.ts) := hm9.out.cell (i := 3) (by omega)
      have y4 : w9.cell? ⟨w.heap.size, 4, none⟩ = some (.string m.lo) := hm9.out.cell (i := 4) (by omega)
      have y5 : w9.cell? ⟨w.heap.size, 5, none⟩ = some (.string m.hi) := hm9.out.cell (i := 5) (by omega)
      have y6 : w9.cell? ⟨w.heap.size, 6, none⟩ = some (.slice t'.va m.vers.length t'.vc) := hm9.out.cell (i := 6) (by omega)
      have y7 : w9.cell? ⟨w.heap.size, 7, none⟩ = some (.slice t'.na m.vec.length t'.nc) := hm9.out.cell (i := 7) (by omega)
      have y8 : w9.cell? ⟨w.heap.size, 8, none⟩ = some (.int .i64 m.cmd.kind) := hm9.out.cell (i := 8) (by omega)
      have y9 : w9.cell? ⟨w.heap.size, 9, none⟩ = some (.int .i64 m.cmd.dc) := hm9.out.cell (i := 9) (by omega)
      have y10 : w9.cell? ⟨w.heap.size, 10, none⟩ = some (.int .i64 m.cmd.shard) := hm9.out.cell (i := 10) (by omega)
      have y11 : w9.cell? ⟨w.heap.size, 11, none⟩ = some (.int .i64 m.cmd.node) := hm9.out.cell (i := 11) (by omega)
      have y12 : w9.cell? ⟨w.heap.size, 12, none⟩ = some (.int .i64 m.cmd.mode) := hm9.out.cell (i := 12) (by omega)
      have y13 : w9.cell? ⟨w.heap.size, 13, none⟩ = some (.string m.cmd.key) := hm9.out.cell (i := 13) (by omega)
      have ye : w9.cell? ⟨w.heap.size + 1, 0, none⟩ = some (.int .i64 0) := he9.out.cell (i := 0) (by omega)
      refine leaves_cons (f := 60) (args := #[.pointer (some ⟨w.heap.size, 0, none⟩), .pointer (some ⟨w.heap.size + 1, 0, none⟩)]) (by simp) (by simp [go_sem]) ?_
      refine (catch_idle w.heap.size (w.heap.size + 1) _).mono ?_
      rintro e u' w'' ⟨rfl, rfl, rfl⟩
      simp [Leaves, settle, results, Try.results36, go_sem, ye, y0, y1, y2, y3, y4, y5, y6, y7, y8, y9, y10, y11, y12, y13]
      exact hfinal.out
set_option maxRecDepth 100000 in
set_option maxHeartbeats 4000000 in
theorem byElder_any (A : Option Addr) (c : Nat) (l : List Nat) (w : World) (hb : BL w A l.length l) (hc : l.length ≤ c) (h9 : c ≤ 9223372036854775807) (hA : l.length = 0 ∨ A = none ∨ ∃ b off, A = some ⟨b, off, none⟩ ∧ b < w.heap.size) :
    Calls Try.prog 36 #[.func (.func 37) #[] #[], .slice A l.length c] w (RdB w (whole rElder l)) := by
  have hmf : ∀ (fn : Fn) (first cap : Array Value) (w : World), (Instr.makeFunc fn first cap).run Try.prog w = .ok (.func fn first cap) w := fun _ _ _ _ => rfl
  have hs2 : ((w.alloc (.cells mz 28)).alloc (.cells #[.int .i64 0] 32)).heap.size = w.heap.size + 1 + 1 := by simp
  have hbel : Below w.heap.size w ((w.alloc (.cells mz 28)).alloc (.cells #[.int .i64 0] 32)) := (((Below.refl _ _).alloc (Nat.le_refl _) _).alloc (by simp) _)
  have hU := UAt.new (w := (w.alloc (.cells mz 28)).alloc (.cells #[.int .i64 0] 32)) (A := A) (c := c) (l := l) (hb.below hbel) hc h9 (hA.imp id (fun hA => hA.imp id (fun ⟨b, off, e, h⟩ => ⟨b, off, e, by rw [hs2]; omega⟩)))
  rw [hs2] at hU
  have hm0 : (((w.alloc (.cells mz 28)).alloc (.cells #[.int .i64 0] 32)).alloc (.cells #[.slice A l.length c] 84)).rowIs w.heap.size 28 14 (fun i => mz.getD i undef) := ((row_new w mz 28).of_block (Below.heap_alloc _ _ _ (by simp))).of_block (Below.heap_alloc _ _ _ (by simp; omega))
  have he0 : (((w.alloc (.cells mz 28)).alloc (.cells #[.int .i64 0] 32)).alloc (.cells #[.slice A l.length c] 84)).rowIs (w.heap.size + 1) 32 1 (fun i => (#[.int .i64 0] : Array Value).getD i undef) := by
    have h := row_new (w.alloc (.cells mz 28)) #[.int .i64 0] 32
    simp only [World.size_alloc] at h
    exact h.of_block (Below.heap_alloc _ _ _ (by simp))
  have hbl3 : Below w.heap.size w (((w.alloc (.cells mz 28)).alloc (.cells #[.int .i64 0] 32)).alloc (.cells #[.slice A l.length c] 84)) := hbel.alloc (by rw [hs2]; omega) _
  have hr := relder_any _ hU
  replace hU := Lib.hid hU
  replace hm0 := Lib.hid hm0
  replace he0 := Lib.hid he0
  replace hbl3 := Lib.hid hbl3
  clear hbel hs2 hb hA
  go_enter_defers Try.func36, Try.ntmps36
  go_wp2_with (fail)
  refine hr.mono ?_
  clear hr
  generalize (((w.alloc (.cells mz 28)).alloc (.cells #[.int .i64 0] 32)).alloc (.cells #[.slice A l.length c] 84)) = W3 at *
  rintro e w4 hh
  rcases hq : rElder l with k | ⟨m, t⟩
  · have hwh : whole rElder l = .error k := by unfold whole; rw [hq]
    replace hwh := Lib.hid hwh
    rw [hq] at hh
    obtain ⟨rfl, hg⟩ := hh
    have hm4 := row_gr hm0.out hg (show w.heap.size ≠ w.heap.size + 1 + 1 by omega)
    have he4 := row_gr he0.out hg (show w.heap.size + 1 ≠ w.heap.size + 1 + 1 by omega)
    have hbl4 := Lib.hid (hbl3.out.trans (hg.below (B := w.heap.size) hbl3.out.size (by omega)))
    clear hg hU hm0 he0 hbl3 hq
    refine leaves_cons (f := 60) (args := #[.pointer (some ⟨w.heap.size, 0, none⟩), .pointer (some ⟨w.heap.size + 1, 0, none⟩)]) (by simp) (by simp [go_sem]) ?_
    refine (catch_pan w.heap.size (w.heap.size + 1) k _ _ w4 hm4 he4 (by omega)).mono ?_
    rintro e u' w'' ⟨rfl, rfl, hcau⟩
    have y0 : w''.cell? ⟨w.heap.size, 0, none⟩ = some (.int .i64 0) := hcau.m.cell (i := 0) (by omega)
    have y1 : w''.cell? ⟨w.heap.size, 1, none⟩ = some (.int .u64 0) := hcau.m.cell (i := 1) (by omega)
    have y2 : w''.cell? ⟨w.heap.size, 2, none⟩ = some (.int .u64 0) := hcau.m.cell (i := 2) (by omega)
    have y3 : w''.cell? ⟨w.heap.size, 3, none⟩ = some (.int .u64 0) := hcau.m.cell (i := 3) (by omega)
    have y4 : w''.cell? ⟨w.heap.size, 4, none⟩ = some (.string ⟨#[]⟩) := hcau.m.cell (i := 4) (by omega)
    have y5 : w''.cell? ⟨w.heap.size, 5, none⟩ = some (.string ⟨#[]⟩) := hcau.m.cell (i := 5) (by omega)
    have y6 : w''.cell? ⟨w.heap.size, 6, none⟩ = some (.slice none 0 0) := hcau.m.cell (i := 6) (by omega)
    have y7 : w''.cell? ⟨w.heap.size, 7, none⟩ = some (.slice none 0 0) := hcau.m.cell (i := 7) (by omega)
    have y8 : w''.cell? ⟨w.heap.size, 8, none⟩ = some (.int .i64 0) := hcau.m.cell (i := 8) (by omega)
    have y9 : w''.cell? ⟨w.heap.size, 9, none⟩ = some (.int .i64 0) := hcau.m.cell (i := 9) (by omega)
    have y10 : w''.cell? ⟨w.heap.size, 10, none⟩ = some (.int .i64 0) := hcau.m.cell (i := 10) (by omega)
    have y11 : w''.cell? ⟨w.heap.size, 11, none⟩ = some (.int .i64 0) := hcau.m.cell (i := 11) (by omega)
    have y12 : w''.cell? ⟨w.heap.size, 12, none⟩ = some (.int .i64 0) := hcau.m.cell (i := 12) (by omega)
    have y13 : w''.cell? ⟨w.heap.size, 13, none⟩ = some (.string ⟨#[]⟩) := hcau.m.cell (i := 13) (by omega)
    have ye : w''.cell? ⟨w.heap.size + 1, 0, none⟩ = some (.int .i64 k) := hcau.e.cell (i := 0) (by omega)
    have hB9 := Lib.hid (hbl4.out.trans (hcau.bel w.heap.size (Nat.le_refl _) (by omega) hbl4.out.size))
    clear hcau
    simp [Leaves, settle, results, Try.results36, go_sem, ye, y0, y1, y2, y3, y4, y5, y6, y7, y8, y9, y10, y11, y12, y13]
    rw [hwh.out]
    exact ⟨rfl, hB9.out⟩
  · have hwh : whole rElder l = if t.length = 0 then .ok m else .error 3 := by unfold whole; rw [hq]
    replace hwh := Lib.hid hwh
    rw [hq] at hh
    obtain ⟨t', rfl, hv, hn, hUt, hg⟩ := hh
    have hm4 := row_gr hm0.out hg (show w.heap.size ≠ w.heap.size + 1 + 1 by omega)
    have he4 := row_gr he0.out hg (show w.heap.size + 1 ≠ w.heap.size + 1 + 1 by omega)
    have hbl4 := Lib.hid (hbl3.out.trans (hg.below (B := w.heap.size) hbl3.out.size (by omega)))
    obtain ⟨Au, cu, hcu, -, -, -⟩ := UAt.open_ hUt
    have hW3 : w.heap.size + 1 + 1 < W3.heap.size := hU.out.lt
    clear hg hU hm0 he0 hbl3 hq
    have y0 : w4.cell? ⟨w.heap.size, 0, none⟩ = some (.int .i64 0) := hm4.cell (i := 0) (by omega)
    have yf0 := hm4.frozen 0
    have y1 : w4.cell? ⟨w.heap.size, 1, none⟩ = some (.int .u64 0) := hm4.cell (i := 1) (by omega)
    have yf1 := hm4.frozen 1
    have y2 : w4.cell? ⟨w.heap.size, 2, none⟩ = some (.int .u64 0) := hm4.cell (i := 2) (by omega)
    have yf2 := hm4.frozen 2
    have y3 : w4.cell? ⟨w.heap.size, 3, none⟩ = some (.int .u64 0) := hm4.cell (i := 3) (by omega)
    have yf3 := hm4.frozen 3
    have y4 : w4.cell? ⟨w.heap.size, 4, none⟩ = some (.string ⟨#[]⟩) := hm4.cell (i := 4) (by omega)
    have yf4 := hm4.frozen 4
    have y5 : w4.cell? ⟨w.heap.size, 5, none⟩ = some (.string ⟨#[]⟩) := hm4.cell (i := 5) (by omega)
    have yf5 := hm4.frozen 5
    have y6 : w4.cell? ⟨w.heap.size, 6, none⟩ = some (.slice none 0 0) := hm4.cell (i := 6) (by omega)
    have yf6 := hm4.frozen 6
    have y7 : w4.cell? ⟨w.heap.size, 7, none⟩ = some (.slice none 0 0) := hm4.cell (i := 7) (by omega)
    have yf7 := hm4.frozen 7
    have y8 : w4.cell? ⟨w.heap.size, 8, none⟩ = some (.int .i64 0) := hm4.cell (i := 8) (by omega)
    have yf8 := hm4.frozen 8
    have y9 : w4.cell? ⟨w.heap.size, 9, none⟩ = some (.int .i64 0) := hm4.cell (i := 9) (by omega)
    have yf9 := hm4.frozen 9
    have y10 : w4.cell? ⟨w.heap.size, 10, none⟩ = some (.int .i64 0) := hm4.cell (i := 10) (by omega)
    have yf10 := hm4.frozen 10
    have y11 : w4.cell? ⟨w.heap.size, 11, none⟩ = some (.int .i64 0) := hm4.cell (i := 11) (by omega)
    have yf11 := hm4.frozen 11
    have y12 : w4.cell? ⟨w.heap.size, 12, none⟩ = some (.int .i64 0) := hm4.cell (i := 12) (by omega)
    have yf12 := hm4.frozen 12
    have y13 : w4.cell? ⟨w.heap.size, 13, none⟩ = some (.string ⟨#[]⟩) := hm4.cell (i := 13) (by omega)
    have yf13 := hm4.frozen 13
    have ye : w4.cell? ⟨w.heap.size + 1, 0, none⟩ = some (.int .i64 0) := he4.cell (i := 0) (by omega)
    have yef := he4.frozen 0
    have hm5 : (put14 w4 w.heap.size (cm m t') 14).rowIs w.heap.size 28 14 (fun i => (cm m t').getD i undef) := (put14_row hm4 (cm m t') 14).congr (fun i hi => if_pos hi)
    have he5 : (put14 w4 w.heap.size (cm m t') 14).rowIs (w.heap.size + 1) 32 1 (fun i => (#[.int .i64 0] : Array Value).getD i undef) := he4.of_block (put14_other (by omega) (cm m t') 14)
    have hv5 : vRow W3.heap.size (put14 w4 w.heap.size (cm m t') 14) (.slice t'.va m.vers.length t'.vc) m.vers := own_blk hv (fun k e => put14_other (by have := (World.ownsRow.lt hv k e).1; omega) (cm m t') 14)
    have hn5 : nRow W3.heap.size (put14 w4 w.heap.size (cm m t') 14) (.slice t'.na m.vec.length t'.nc) m.vec := own_blk hn (fun k e => put14_other (by have := (World.ownsRow.lt hn k e).1; omega) (cm m t') 14)
    have hbl5 := Lib.hid (put14_below hbl4.out (Nat.le_refl _) (cm m t') 14)
    replace hm5 := Lib.hid hm5
    replace he5 := Lib.hid he5
    replace hv5 := Lib.hid hv5
    replace hn5 := Lib.hid hn5
    clear hv hn hm4 he4 hbl4
    go_wp2_with (fail)
    change Calls _ _ _ (put14 w4 w.heap.size (cm m t') 14) _
    generalize put14 w4 w.heap.size (cm m t') 14 = w5 at *
    clear y0 yf0 y1 yf1 y2 yf2 y3 yf3 y4 yf4 y5 yf5 y6 yf6 y7 yf7 y8 yf8 y9 yf9 y10 yf10 y11 yf11 y12 yf12 y13 yf13 ye yef hcu hUt
    by_cases ht : 0 < t.length
    · refine (refuse_yes (by first | rfl | exact decide_eq_true ht) 3 rfl w5).mono ?_
      rintro e w6 ⟨rfl, rfl⟩
      replace hwh := Lib.hid (hwh.out.trans (if_neg (show ¬ t.length = 0 by omega)))
      refine leaves_cons (f := 60) (args := #[.pointer (some ⟨w.heap.size, 0, none⟩), .pointer (some ⟨w.heap.size + 1, 0, none⟩)]) (by simp) (by simp [go_sem]) ?_
      refine (catch_pan w.heap.size (w.heap.size + 1) 3 _ _ w5 hm5.out he5.out (by omega)).mono ?_
      rintro e u' w'' ⟨rfl, rfl, hcau⟩
      have y0 : w''.cell? ⟨w.heap.size, 0, none⟩ = some (.int .i64 0) := hcau.m.cell (i := 0) (by omega)
      have y1 : w''.cell? ⟨w.heap.size, 1, none⟩ = some (.int .u64 0) := hcau.m.cell (i := 1) (by omega)
      have y2 : w''.cell? ⟨w.heap.size, 2, none⟩ = some (.int .u64 0) := hcau.m.cell (i := 2) (by omega)
      have y3 : w''.cell? ⟨w.heap.size, 3, none⟩ = some (.int .u64 0) := hcau.m.cell (i := 3) (by omega)
      have y4 : w''.cell? ⟨w.heap.size, 4, none⟩ = some (.string ⟨#[]⟩) := hcau.m.cell (i := 4) (by omega)
      have y5 : w''.cell? ⟨w.heap.size, 5, none⟩ = some (.string ⟨#[]⟩) := hcau.m.cell (i := 5) (by omega)
      have y6 : w''.cell? ⟨w.heap.size, 6, none⟩ = some (.slice none 0 0) := hcau.m.cell (i := 6) (by omega)
      have y7 : w''.cell? ⟨w.heap.size, 7, none⟩ = some (.slice none 0 0) := hcau.m.cell (i := 7) (by omega)
      have y8 : w''.cell? ⟨w.heap.size, 8, none⟩ = some (.int .i64 0) := hcau.m.cell (i := 8) (by omega)
      have y9 : w''.cell? ⟨w.heap.size, 9, none⟩ = some (.int .i64 0) := hcau.m.cell (i := 9) (by omega)
      have y10 : w''.cell? ⟨w.heap.size, 10, none⟩ = some (.int .i64 0) := hcau.m.cell (i := 10) (by omega)
      have y11 : w''.cell? ⟨w.heap.size, 11, none⟩ = some (.int .i64 0) := hcau.m.cell (i := 11) (by omega)
      have y12 : w''.cell? ⟨w.heap.size, 12, none⟩ = some (.int .i64 0) := hcau.m.cell (i := 12) (by omega)
      have y13 : w''.cell? ⟨w.heap.size, 13, none⟩ = some (.string ⟨#[]⟩) := hcau.m.cell (i := 13) (by omega)
      have ye : w''.cell? ⟨w.heap.size + 1, 0, none⟩ = some (.int .i64 (3 : Nat)) := hcau.e.cell (i := 0) (by omega)
      have hB9 := Lib.hid (hbl5.out.trans (hcau.bel w.heap.size (Nat.le_refl _) (by omega) hbl5.out.size))
      clear hcau
      simp [Leaves, settle, results, Try.results36, go_sem, ye, y0, y1, y2, y3, y4, y5, y6, y7, y8, y9, y10, y11, y12, y13]
      rw [hwh.out]
      exact ⟨rfl, hB9.out⟩
    · refine (refuse_no (by first | rfl | exact decide_eq_false ht) 3 w5).mono ?_
      rintro e w6 ⟨rfl, rfl⟩
      replace hwh := Lib.hid (hwh.out.trans (if_pos (show t.length = 0 by omega)))
      have hfinal : RdB w (whole rElder l) (.returned (.tuple #[.agg (cm m t'), .int .i64 0])) ((put14 w5 w.heap.size (cm m t') 14).setCell ⟨w.heap.size + 1, 0, none⟩ (.int .i64 0)) := by
        rw [hwh.out]
        have ho : ∀ k, W3.heap.size ≤ k → ((put14 w5 w.heap.size (cm m t') 14).setCell ⟨w.heap.size + 1, 0, none⟩ (.int .i64 0)).heap[k]? = w5.heap[k]? := fun k hk => (Below.heap_setCell _ _ _ k (by show k ≠ w.heap.size + 1; omega)).trans (put14_other (by omega) (cm m t') 14)
        exact ⟨t', rfl, own_low (own_blk hv5.out (fun k e => ho k (World.ownsRow.lt hv5.out k e).1)) (by omega), own_low (own_blk hn5.out (fun k e => ho k (World.ownsRow.lt hn5.out k e).1)) (by omega), (put14_below hbl5.out (Nat.le_refl _) (cm m t') 14).setCell (p := ⟨w.heap.size + 1, 0, none⟩) (by show w.heap.size ≤ w.heap.size + 1; omega) _⟩
      replace hfinal := Lib.hid hfinal
      have y0 : w5.cell? ⟨w.heap.size, 0, none⟩ = some (.int .i64 m.kind) := hm5.out.cell (i := 0) (by omega)
      have yf0 := hm5.out.frozen 0
      have y1 : w5.cell? ⟨w.heap.size, 1, none⟩ = some (.int .u64 m.id) := hm5.out.cell (i := 1) (by omega)
      have yf1 := hm5.out.frozen 1
      have y2 : w5.cell? ⟨w.heap.size, 2, none⟩ = some (.int .u64 m.n) := hm5.out.cell (i := 2) (by omega)
      have yf2 := hm5.out.frozen 2
      have y3 : w5.cell? ⟨w.heap.size, 3, none⟩ = some (.int .u64 m.ts) := hm5.out.cell (i := 3) (by omega)
      have yf3 := hm5.out.frozen 3
      have y4 : w5.cell? ⟨w.heap.size, 4, none⟩ = some (.string m.lo) := hm5.out.cell (i := 4) (by omega)
      have yf4 := hm5.out.frozen 4
      have y5 : w5.cell? ⟨w.heap.size, 5, none⟩ = some (.string m.hi) := hm5.out.cell (i := 5) (by omega)
      have yf5 := hm5.out.frozen 5
      have y6 : w5.cell? ⟨w.heap.size, 6, none⟩ = some (.slice t'.va m.vers.length t'.vc) := hm5.out.cell (i := 6) (by omega)
      have yf6 := hm5.out.frozen 6
      have y7 : w5.cell? ⟨w.heap.size, 7, none⟩ = some (.slice t'.na m.vec.length t'.nc) := hm5.out.cell (i := 7) (by omega)
      have yf7 := hm5.out.frozen 7
      have y8 : w5.cell? ⟨w.heap.size, 8, none⟩ = some (.int .i64 m.cmd.kind) := hm5.out.cell (i := 8) (by omega)
      have yf8 := hm5.out.frozen 8
      have y9 : w5.cell? ⟨w.heap.size, 9, none⟩ = some (.int .i64 m.cmd.dc) := hm5.out.cell (i := 9) (by omega)
      have yf9 := hm5.out.frozen 9
      have y10 : w5.cell? ⟨w.heap.size, 10, none⟩ = some (.int .i64 m.cmd.shard) := hm5.out.cell (i := 10) (by omega)
      have yf10 := hm5.out.frozen 10
      have y11 : w5.cell? ⟨w.heap.size, 11, none⟩ = some (.int .i64 m.cmd.node) := hm5.out.cell (i := 11) (by omega)
      have yf11 := hm5.out.frozen 11
      have y12 : w5.cell? ⟨w.heap.size, 12, none⟩ = some (.int .i64 m.cmd.mode) := hm5.out.cell (i := 12) (by omega)
      have yf12 := hm5.out.frozen 12
      have y13 : w5.cell? ⟨w.heap.size, 13, none⟩ = some (.string m.cmd.key) := hm5.out.cell (i := 13) (by omega)
      have yf13 := hm5.out.frozen 13
      have ye : w5.cell? ⟨w.heap.size + 1, 0, none⟩ = some (.int .i64 0) := he5.out.cell (i := 0) (by omega)
      have yef := he5.out.frozen 0
      have hm9 : ((put14 w5 w.heap.size (cm m t') 14).setCell ⟨w.heap.size + 1, 0, none⟩ (.int .i64 0)).rowIs w.heap.size 28 14 (fun i => (cm m t').getD i undef) := row_put (p := ⟨w.heap.size + 1, 0, none⟩) ((put14_row hm5.out (cm m t') 14).congr (fun i hi => if_pos hi)) (by show w.heap.size ≠ w.heap.size + 1; omega) _
      have he9 : ((put14 w5 w.heap.size (cm m t') 14).setCell ⟨w.heap.size + 1, 0, none⟩ (.int .i64 0)).rowIs (w.heap.size + 1) 32 1 (fun _ => .int .i64 0) := ((he5.out.of_block (put14_other (by omega) (cm m t') 14)).set 0 (.int .i64 0)).congr (fun i hi => if_pos (by omega))
      replace hm9 := Lib.hid hm9
      replace he9 := Lib.hid he9
      go_wp2
      change bodyPostD _ _ _ _ _ ((put14 w5 w.heap.size (cm m t') 14).setCell ⟨w.heap.size + 1, 0, none⟩ (.int .i64 0))
      generalize (put14 w5 w.heap.size (cm m t') 14).setCell ⟨w.heap.size + 1, 0, none⟩ (.int .i64 0) = w9 at *
      clear y0 yf0 y1 yf1 y2 yf2 y3 yf3 y4 yf4 y5 yf5 y6 yf6 y7 yf7 y8 yf8 y9 yf9 y10 yf10 y11 yf11 y12 yf12 y13 yf13 ye yef
      have y0 : w9.cell? ⟨w.heap.size, 0, none⟩ = some (.int .i64 m.kind) := hm9.out.cell (i := 0) (by omega)
      have y1 : w9.cell? ⟨w.heap.size, 1, none⟩ = some (.int .u64 m.id) := hm9.out.cell (i := 1) (by omega)
      have y2 : w9.cell? ⟨w.heap.size, 2, none⟩ = some (.int .u64 m.n) := hm9.out.cell (i := 2) (by omega)
      have y3 : w9.cell? ⟨w.heap.size, 3, none⟩ = some (.int .u64 m.ts) := hm9.out.cell (i := 3) (by omega)
      have y4 : w9.cell? ⟨w.heap.size, 4, none⟩ = some (.string m.lo) := hm9.out.cell (i := 4) (by omega)
      have y5 : w9.cell? ⟨w.heap.size, 5, none⟩ = some (.string m.hi) := hm9.out.cell (i := 5) (by omega)
      have y6 : w9.cell? ⟨w.heap.size, 6, none⟩ = some (.slice t'.va m.vers.length t'.vc) := hm9.out.cell (i := 6) (by omega)
      have y7 : w9.cell? ⟨w.heap.size, 7, none⟩ = some (.slice t'.na m.vec.length t'.nc) := hm9.out.cell (i := 7) (by omega)
      have y8 : w9.cell? ⟨w.heap.size, 8, none⟩ = some (.int .i64 m.cmd.kind) := hm9.out.cell (i := 8) (by omega)
      have y9 : w9.cell? ⟨w.heap.size, 9, none⟩ = some (.int .i64 m.cmd.dc) := hm9.out.cell (i := 9) (by omega)
      have y10 : w9.cell? ⟨w.heap.size, 10, none⟩ = some (.int .i64 m.cmd.shard) := hm9.out.cell (i := 10) (by omega)
      have y11 : w9.cell? ⟨w.heap.size, 11, none⟩ = some (.int .i64 m.cmd.node) := hm9.out.cell (i := 11) (by omega)
      have y12 : w9.cell? ⟨w.heap.size, 12, none⟩ = some (.int .i64 m.cmd.mode) := hm9.out.cell (i := 12) (by omega)
      have y13 : w9.cell? ⟨w.heap.size, 13, none⟩ = some (.string m.cmd.key) := hm9.out.cell (i := 13) (by omega)
      have ye : w9.cell? ⟨w.heap.size + 1, 0, none⟩ = some (.int .i64 0) := he9.out.cell (i := 0) (by omega)
      refine leaves_cons (f := 60) (args := #[.pointer (some ⟨w.heap.size, 0, none⟩), .pointer (some ⟨w.heap.size + 1, 0, none⟩)]) (by simp) (by simp [go_sem]) ?_
      refine (catch_idle w.heap.size (w.heap.size + 1) _).mono ?_
      rintro e u' w'' ⟨rfl, rfl, rfl⟩
      simp [Leaves, settle, results, Try.results36, go_sem, ye, y0, y1, y2, y3, y4, y5, y6, y7, y8, y9, y10, y11, y12, y13]
      exact hfinal.out
end Go.Proofs.Ytkbhmeajgmecoaa.wirDk
