/- The program's New, See, Open, Clock, Prepare, Commit. -/
import Derived.Test.YteelndiiennhkaaPtL
import Derived.Deep.RegionLaw
import Derived.Deep.DeepCutAuto
import Derived.Deep.CutBlock
import Derived.Deep.CutRange
import Derived.Carry
set_option linter.unusedVariables false
set_option linter.unusedSimpArgs false
set_option maxRecDepth 100000
namespace Go.Proofs.Yteelndiiennhkaa.ptN
open Go.ChangeShapes Go.WideShapes Go.ChangeAt Go.RowKit Go.Deep
open opG opO hlcA gen ptM ptL

def SideAt (col : Nat → Nat) (c : Nat) (w : World) (p : Nat) (S : Pt) : Prop := ∃ mb D, SideM col c w p S.ck S.os mb D
/-- What a call leaves: blocks of the side's color alone have changed. -/
def Lv (col : Nat → Nat) (c : Nat) (p : Nat) (S : Pt) (w w' : World) : Prop := ∃ col', Cn c col w col' w' ∧ SideAt col' c w' p S
section
variable {col col' : Nat → Nat} {c d p : Nat} {S : Pt} {w w1 : World}
theorem SideAt.other (h : SideAt col c w p S) (hg : Chg col d w w1) (hcd : c ≠ d) (he : Ext w col col') : SideAt col' c w1 p S := by
  obtain ⟨mb, D, h⟩ := h
  exact ⟨_, _, h.other hg hcd he⟩
theorem SideAt.below (h : SideAt col c w p S) (hB : Below w.heap.size w w1) : SideAt col c w1 p S := h.other (Chg.of_below col (c + 1) hB) (by omega) (Ext.refl _ _)
theorem SideAt.lt (h : SideAt col c w p S) : p < w.heap.size := by
  obtain ⟨mb, D, h⟩ := h
  exact h.row.lt
theorem lv_stay (h : SideAt col c w p S) (hf : Fresh col w) (hB : Below w.heap.size w w1) : Lv col c p S w w1 := ⟨col, Cn.below hf hB, h.below hB⟩
theorem lv_of {mb : Nat} {D : DM} (hf : Fresh col w) (hg : Chg col c w w1) (h : SideM col c w1 p S.ck S.os mb D) : Lv col c p S w w1 := ⟨col, ⟨Ext.refl _ _, hf.up hg.size, hg⟩, _, _, h⟩
end
/-! ### New -/
def colP (col : Nat → Nat) (b c k : Nat) : Nat := if k = b ∨ k = b + 1 then c else col k
abbrev newS (w : World) : World := (w.alloc (.map #[] 0)).alloc (.cells #[.int .u64 0, .map (some w.heap.size)] TP)
theorem new_any (w : World) : Calls Try.prog 7 #[] w fun e w' => e = .returned (.pointer (some ⟨w.heap.size + 1, 0, none⟩)) ∧ w' = newS w := by
  have hmm := @run_makeMap Try.prog
  have hsz : (w.alloc (.map #[] 0)).heap.size = w.heap.size + 1 := by simp
  go_enter Try.func7, Try.ntmps7
  go_wp2
  go_ret
  exact ⟨rfl, rfl⟩
theorem at_new {col : Nat → Nat} {c : Nat} (w : World) (hf : Fresh col w) : SideAt (colP col w.heap.size c) c (newS w) (w.heap.size + 1) P0 ∧ Cn c col w (colP col w.heap.size c) (newS w) := by
  have hsz : (w.alloc (.map #[] 0)).heap.size = w.heap.size + 1 := by simp
  have hB : Below w.heap.size w (newS w) := trans0 (al0 w _) (al0 _ _)
  have hm0 : MapIs (w.alloc (.map #[] 0)) w.heap.size 0 (.map []) := World.ownsMap_made w _ _ _
  have hr := World.rowIs_alloc (w.alloc (.map #[] 0)) #[.int .u64 0, .map (some w.heap.size)] TP (cP 0 (.map (some w.heap.size))) (fun i hi => by
    rcases two (i := i) (by simpa using hi) with rfl | rfl <;> simp [cP])
  rw [hsz] at hr
  refine ⟨⟨w.heap.size, .map [], ?_⟩, fun k hk => if_neg (by omega), fun k hk => ?_, Chg.of_below _ _ hB⟩
  · exact { row := hr, mp := map_block hm0 ((al0 (w.alloc (.map #[] 0)) _).block _ (by rw [hsz]; omega)), cr := cr_nil, cp := if_pos (.inr rfl), km := if_pos (.inl rfl) }
  · have : (newS w).heap.size = w.heap.size + 1 + 1 := by simp [newS]
    rw [this] at hk
    unfold colP
    rw [if_neg (by omega)]
    exact hf k (by omega)
section
variable {col : Nat → Nat} {c p : Nat} {S : Pt}
theorem clock_at (w : World) (h : SideAt col c w p S) : Calls Try.prog 17 #[.pointer (some ⟨p, 0, none⟩)] w fun e w' => e = .returned (.int .u64 S.ck) ∧ w = w' := by
  obtain ⟨mb, D, h⟩ := h
  obtain ⟨k0, k1, f0⟩ := h.cells
  clear h
  go_enter Try.func17, Try.ntmps17
  go_wp2
  go_ret
  exact ⟨rfl, rfl⟩
theorem open_at (w : World) (h : SideAt col c w p S) : Calls Try.prog 16 #[.pointer (some ⟨p, 0, none⟩)] w fun e w' => e = .returned (.int .i64 (S.os.length : Int)) ∧ w = w' := by
  obtain ⟨mb, D, h⟩ := h
  obtain ⟨k0, k1, f0⟩ := h.cells
  have hl := fun ty => cr_len h.cr h.mp ty
  clear h
  generalize (S.os.length : Int) = n at *
  go_enter Try.func16, Try.ntmps16
  go_wp2
  go_ret
  exact ⟨rfl, rfl⟩
theorem see_at (w : World) (h : SideAt col c w p S) (hf : Fresh col w) (t : Int) : Calls Try.prog 14 #[.pointer (some ⟨p, 0, none⟩), .int .u64 t] w fun e w' => e = .returned (.tuple #[]) ∧ Lv col c p (seS S t) w w' := by
  obtain ⟨mb, D, h⟩ := h
  obtain ⟨k0, k1, f0⟩ := h.cells
  have hL := Lib.hid (fun m (hm : m = max S.ck t) => (by
    obtain ⟨g1, h1⟩ := h.setC m
    rw [hm, mx_max] at h1 g1 ⊢
    exact lv_of hf g1 h1 : Lv col c p (seS S t) w (w.setCell ⟨p, 0, none⟩ (.int .u64 m))))
  clear h
  generalize S.ck = ck at *
  go_enter Try.func14, Try.ntmps14
  go_wp2
  all_goals
    go_end0
    exact ⟨rfl, hL.out _ (by omega)⟩
set_option maxHeartbeats 1000000 in
theorem prepare_at (w : World) (h : SideAt col c w p S) (hf : Fresh col w) (hok : S.ok) (hn : S.os.length ≤ 1000) {tx t ms : Int} (x0 : 0 ≤ tx) (x1 : tx < 18446744073709551616) (t0 : 0 ≤ t) (t1 : t ≤ 18446744073709551615) : Calls Try.prog 8 #[.pointer (some ⟨p, 0, none⟩), .int .u64 tx, .int .u64 t, .int .i64 ms] w fun e w' =>
    e = .returned (.tuple #[.int .u64 (prT S tx t ms), .int .i64 (prE S tx t ms)]) ∧ Lv col c p (prS S tx t ms) w w' := by
  have hst := Lib.hid (lv_stay h hf (Below.refl _ _))
  obtain ⟨mb, D, h⟩ := h
  obtain ⟨k0, k1, f0⟩ := h.cells
  have hlk := cr_look h.cr h.mp x0 x1
  have hrc := Lib.hid (recv_any S.ck t ms w hok.c0 hok.c1 t0 t1)
  cases hfn : fnd S.os tx with
  | some s =>
    have e1 : prE S tx t ms = 8 := by unfold prE; rw [hfn]; rfl
    have e2 : prT S tx t ms = 0 := by unfold prT; rw [hfn]; rfl
    have e3 : prS S tx t ms = S := by unfold prS; rw [e1]; rfl
    rw [e1, e2, e3]
    rw [hfn] at hlk
    simp only [Option.getD_some, Option.isSome_some] at hlk
    clear h hrc hok hfn e1 e2 e3
    go_enter Try.func8, Try.ntmps8
    go_wp2
    go_ret2
    exact ⟨rfl, hst.out⟩
  | none =>
    have e1 : prE S tx t ms = sdE (mx S.ck t) ms := by unfold prE; rw [hfn]; rfl
    have e2 : prT S tx t ms = sdN (mx S.ck t) ms := by unfold prT; rw [hfn]; rfl
    rw [hfn] at hlk
    simp only [Option.getD_none, Option.isSome_none] at hlk
    by_cases he : prE S tx t ms = 0
    · obtain ⟨u1, _, u2⟩ := pr_up he
      have u2 := u2 hok t1
      have u0 := hok.c0
      have e3 : prS S tx t ms = ⟨prT S tx t ms, S.os ++ [(tx, prT S tx t ms)]⟩ := if_pos he
      obtain ⟨T, hT⟩ : ∃ T, prT S tx t ms = T := ⟨_, rfl⟩
      rw [hT] at u1 u2 e3 e2 ⊢
      rw [← e1, ← e2, he] at hrc
      rw [he, e3]
      obtain ⟨g1, h1⟩ := h.setC T
      obtain ⟨W1, hW1⟩ : ∃ W1, w.setCell ⟨p, 0, none⟩ (.int .u64 T) = W1 := ⟨_, rfl⟩
      rw [hW1] at g1 h1
      replace hW1 := Lib.hid hW1
      obtain ⟨j0, j1, _⟩ := h1.cells
      obtain ⟨w2, D2, hup, hm2, hc2, ht2⟩ := cr_store h1.cr h1.mp (by unfold maxLen; omega) x0 x1 (by omega : 0 ≤ T) (by omega) hfn
      obtain ⟨g2, h2⟩ := h1.turned ht2.grown hm2 hc2
      have hL : Hid (Lv col c p ⟨T, S.os ++ [(tx, T)]⟩ w w2) := Lib.hid (lv_of hf (g1.tran g2) h2)
      clear h hst hok hfn e1 e2 e3 he hT g1 g2 h1 h2 hm2 hc2 ht2 hf
      generalize S.ck = ck at *
      go_enter Try.func8, Try.ntmps8
      go_wp2_with (go_at_call 19; with_reducible refine hrc.out.mono ?_; rintro e w' ⟨rfl, rfl⟩; go_upto_region 10 with (fail))
      rw [hW1.out]
      clear k0 k1 f0
      go_wp2
      rw [hup]
      go_wp2
      go_ret2
      exact ⟨rfl, hL.out⟩
    · have e3 : prS S tx t ms = S := if_neg he
      rw [e3]
      have e2' : prT S tx t ms = 0 := by
        rw [e2]
        by_cases hr : rdB ms = true
        · by_cases h1 : mx S.ck t < ms * 65536
          · rw [e1, (sd_one _ _ hr h1).2] at he; exact absurd rfl he
          · by_cases h2 : mx S.ck t = 18446744073709551615
            · exact (sd_two _ _ hr h1 h2).1
            · rw [e1, (sd_three _ _ hr h1 h2).2] at he; exact absurd rfl he
        · exact (sd_zero _ _ (by simpa using hr)).1
      rw [e2'] at e2 ⊢
      rw [← e1, ← e2] at hrc
      generalize prE S tx t ms = E at *
      have hE : (E != 0) = true := by simpa using he
      clear h hok hfn e1 e2 e3 e2' hf he
      generalize S.ck = ck at *
      go_enter Try.func8, Try.ntmps8
      go_wp2_with (go_at_call 19; with_reducible refine hrc.out.mono ?_; rintro e w' ⟨rfl, rfl⟩)
      go_ret2
      exact ⟨rfl, hst.out⟩
set_option maxHeartbeats 1000000 in
theorem commit_at (w : World) (h : SideAt col c w p S) (hf : Fresh col w) (hok : S.ok) {tx t ms : Int} (x0 : 0 ≤ tx) (x1 : tx < 18446744073709551616) (t0 : 0 ≤ t) (t1 : t ≤ 18446744073709551615) : Calls Try.prog 10 #[.pointer (some ⟨p, 0, none⟩), .int .u64 tx, .int .u64 t, .int .i64 ms] w fun e w' =>
    e = .returned (.int .i64 (coE S tx t ms)) ∧ Lv col c p (coS S tx t ms) w w' := by
  have hst := Lib.hid (lv_stay h hf (Below.refl _ _))
  obtain ⟨mb, D, h⟩ := h
  obtain ⟨k0, k1, f0⟩ := h.cells
  have hlk := cr_look h.cr h.mp x0 x1
  have hra := Lib.hid (fun m (hm : m = max S.ck t) => (by rw [hm]; exact raise_any (max S.ck t) ms w : Calls Try.prog 22 #[.int .u64 m, .int .i64 ms] w fun e w' => e = .returned (.tuple #[.int .u64 (rsN (max S.ck t) ms), .int .i64 (rsE ms)]) ∧ w = w'))
  cases hr : rdB ms with
  | false =>
    have e1 : coE S tx t ms = 1 := if_pos hr
    have e3 : coS S tx t ms = S := by unfold coS; rw [e1]; rfl
    have e4 : rsN (max S.ck t) ms = 0 := by unfold rsN; rw [if_neg (by rw [hr]; simp)]
    have e5 : rsE ms = 1 := by unfold rsE; rw [if_neg (by rw [hr]; simp)]
    rw [e4, e5] at hra
    rw [e1, e3]
    clear h hok e1 e3 e4 e5 hlk hr hf
    generalize S.ck = ck at *
    go_enter Try.func10, Try.ntmps10
    go_wp2_with (go_at_call 22; with_reducible refine (hra.out _ (by omega)).mono ?_; rintro e w' ⟨rfl, rfl⟩)
    all_goals
      go_ret
      exact ⟨rfl, hst.out⟩
  | true =>
    have e5 : rsE ms = 0 := by unfold rsE; rw [if_pos hr]
    rw [e5] at hra
    cases hfn : fnd S.os tx with
    | none =>
      have e1 : coE S tx t ms = 7 := by unfold coE; rw [if_neg (by rw [hr]; simp), hfn]
      have e3 : coS S tx t ms = S := by unfold coS; rw [e1]; rfl
      rw [e1, e3]
      rw [hfn] at hlk
      simp only [Option.getD_none, Option.isSome_none] at hlk
      clear h hok e1 e3 e5 hr hf hfn
      generalize rsN (max S.ck t) ms = R at *
      generalize S.ck = ck at *
      go_enter Try.func10, Try.ntmps10
      go_wp2_with (go_at_call 22; with_reducible refine (hra.out _ (by omega)).mono ?_; rintro e w' ⟨rfl, rfl⟩)
      all_goals
        go_ret
        exact ⟨rfl, hst.out⟩
    | some s =>
      rw [hfn] at hlk
      simp only [Option.getD_some, Option.isSome_some] at hlk
      by_cases hts : t < s
      · have e1 : coE S tx t ms = 11 := by unfold coE; rw [if_neg (by rw [hr]; simp), hfn]; exact if_pos hts
        have e3 : coS S tx t ms = S := by unfold coS; rw [e1]; rfl
        rw [e1, e3]
        clear h hok e1 e3 e5 hr hf hfn
        generalize rsN (max S.ck t) ms = R at *
        generalize S.ck = ck at *
        go_enter Try.func10, Try.ntmps10
        go_wp2_with (go_at_call 22; with_reducible refine (hra.out _ (by omega)).mono ?_; rintro e w' ⟨rfl, rfl⟩)
        all_goals
          go_ret
          exact ⟨rfl, hst.out⟩
      · have e1 : coE S tx t ms = 0 := by unfold coE; rw [if_neg (by rw [hr]; simp), hfn]; exact if_neg hts
        have e3 : coS S tx t ms = ⟨rsN (max S.ck t) ms, rm S.os tx⟩ := by unfold coS; rw [if_pos e1, mx_max]
        rw [e1, e3]
        obtain ⟨w2, D2, hup, hm2, hc2, ht2⟩ := cr_drop h.cr h.mp hok.df x0 x1 hfn 0
        obtain ⟨g2, h2⟩ := h.turned ht2.grown hm2 hc2
        obtain ⟨j0, j1, j2⟩ := h2.cells
        obtain ⟨g3, h3⟩ := h2.setC (rsN (max S.ck t) ms)
        have hL : Hid (Lv col c p ⟨rsN (max S.ck t) ms, rm S.os tx⟩ w (w2.setCell ⟨p, 0, none⟩ (.int .u64 (rsN (max S.ck t) ms)))) := Lib.hid (lv_of hf (g2.tran g3) h3)
        clear h hok e1 e3 e5 hr hf hfn hst g2 h2 g3 h3 hm2 hc2 ht2
        generalize rsN (max S.ck t) ms = R at *
        generalize S.ck = ck at *
        go_enter Try.func10, Try.ntmps10
        go_wp2_with (go_at_call 22; with_reducible refine (hra.out _ (by omega)).mono ?_; rintro e w' ⟨rfl, rfl⟩)
        all_goals
          go_ret
          exact ⟨rfl, hL.out⟩
end
end Go.Proofs.Yteelndiiennhkaa.ptN
