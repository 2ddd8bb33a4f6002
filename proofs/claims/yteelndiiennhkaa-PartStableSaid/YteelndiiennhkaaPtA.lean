/- Of a nil side; awake; PartNone. -/
import Derived.Test.YteelndiiennhkaaPtG
set_option linter.unusedVariables false
set_option linter.unusedSimpArgs false
set_option maxRecDepth 100000
namespace Go.Proofs.Yteelndiiennhkaa.ptA
open Go.ChangeShapes Go.WideShapes Go.ChangeAt Go.RowKit Go.Deep
open opG opO hlcA gen ptM ptL ptN ptG

theorem prepare_nil (a b c : Int) (w : World) : Calls Try.prog 8 #[.pointer none, .int .u64 a, .int .u64 b, .int .i64 c] w fun e w' => e = .returned (.tuple #[.int .u64 0, .int .i64 1]) ∧ w = w' := by
  go_enter Try.func8, Try.ntmps8
  go_wp2
  go_ret2
  exact ⟨rfl, rfl⟩
theorem commit_nil (a b c : Int) (w : World) : Calls Try.prog 10 #[.pointer none, .int .u64 a, .int .u64 b, .int .i64 c] w fun e w' => e = .returned (.int .i64 1) ∧ w = w' := by
  go_enter Try.func10, Try.ntmps10
  go_wp2
  go_ret
  exact ⟨rfl, rfl⟩
theorem stable_nil (c : Int) (w : World) : Calls Try.prog 12 #[.pointer none, .int .i64 c] w fun e w' => e = .returned (.tuple #[.int .u64 0, .int .i64 1]) ∧ w = w' := by
  go_enter Try.func12, Try.ntmps12
  go_wp2
  go_ret2
  exact ⟨rfl, rfl⟩
theorem see_nil (t : Int) (w : World) : Calls Try.prog 14 #[.pointer none, .int .u64 t] w fun e w' => e = .returned (.tuple #[]) ∧ w = w' := by
  go_enter Try.func14, Try.ntmps14
  go_wp2
  go_end0
  exact ⟨rfl, rfl⟩
theorem open_nil (w : World) : Calls Try.prog 16 #[.pointer none] w fun e w' => e = .returned (.int .i64 0) ∧ w = w' := by
  go_enter Try.func16, Try.ntmps16
  go_wp2
  go_ret
  exact ⟨rfl, rfl⟩
theorem clock_nil (w : World) : Calls Try.prog 17 #[.pointer none] w fun e w' => e = .returned (.int .u64 0) ∧ w = w' := by
  go_enter Try.func17, Try.ntmps17
  go_wp2
  go_ret
  exact ⟨rfl, rfl⟩
/-- what a call of the law leaves of memory that was there -/
theorem lv_below {col : Nat → Nat} {c p : Nat} {S : Pt} {B : Nat} {w w' : World} (h : Lv col c p S w w') (hB : B ≤ w.heap.size) (hc : ∀ k, k < B → col k ≠ c) : Below B w w' := by
  obtain ⟨c2, hC, _⟩ := h
  exact hC.2.2.below hB hc
theorem awake_any (w : World) : Calls Try.prog 18 #[] w fun e w' => e = .returned (.bool true) ∧ Below w.heap.size w w' := by
  have hnew := Lib.hid (new_any w)
  obtain ⟨hA, hC⟩ := at_new (col := fun _ => 0) (c := 1) w (fun _ _ => rfl)
  obtain ⟨W, hW⟩ : ∃ W, newS w = W := ⟨_, rfl⟩
  rw [hW] at hA hC hnew
  have hB1 : Below w.heap.size w W := hC.2.2.below (Nat.le_refl _) (fun k _ => (by decide : (0 : Nat) ≠ 1))
  have hcl : ∀ k, k < w.heap.size → colP (fun _ => 0) w.heap.size 1 k ≠ 1 := fun k hk => by unfold colP; rw [if_neg (by omega)]; exact (by decide : (0 : Nat) ≠ 1)
  have hpr := Lib.hid (prepare_at W hA hC.2.1 ok_P0 (Nat.zero_le _) (tx := 1) (t := 5) (ms := 0) (by decide) (by decide) (by decide) (by decide))
  rw [show prT P0 1 5 0 = 6 by decide, show prE P0 1 5 0 = 0 by decide] at hpr
  have hop := Lib.hid (fun w2 (h : Lv (colP (fun _ => 0) w.heap.size 1) 1 (w.heap.size + 1) (prS P0 1 5 0) W w2) => (by
    have h2 := hB1.trans (lv_below h hB1.size hcl)
    obtain ⟨c2, hC2, hA2⟩ := h
    have := open_at w2 hA2
    rw [show (prS P0 1 5 0).os.length = 1 by decide] at this
    refine this.mono ?_
    rintro e w3 ⟨h3, rfl⟩
    exact ⟨h3, h2⟩ : Calls Try.prog 16 #[.pointer (some ⟨w.heap.size + 1, 0, none⟩)] w2 fun e w' => e = .returned (.int .i64 1) ∧ Below w.heap.size w w'))
  clear hA hC hB1 hcl hW
  go_enter Try.func18, Try.ntmps18
  go_wp2_with (fail)
  with_reducible refine hnew.out.mono ?_
  rintro e w1 ⟨rfl, rfl⟩
  go_wp2_with (fail)
  with_reducible refine hpr.out.mono ?_
  rintro e w2 ⟨rfl, hL⟩
  have hw2 := Lib.hid (hop.out _ hL)
  clear hL hop
  go_wp2_with (fail)
  with_reducible refine hw2.out.mono ?_
  rintro e w3 ⟨rfl, hB⟩
  go_wp2
  go_ret
  exact ⟨rfl, hB⟩
set_option maxHeartbeats 1000000 in
theorem none_any (o : Oq) (w : World) : Calls Try.prog 6 #[.agg (cO o)] w fun e w' => e = .returned (.bool true) ∧ Below w.heap.size w w' := by
  obtain ⟨W, hW⟩ : ∃ W, w.alloc (.cells (cO o) 31) = W := ⟨_, rfl⟩
  have hO : O4 w.heap.size 0 o W := by
    rw [← hW]
    have h := fun (j : Nat) (u : Value) (hu : (cO o)[j]? = some u) => (cell_of_row _ _ j (cO o) 31 (0, 0) (heap_alloc_new w (.cells (cO o) 31))).trans hu
    exact ⟨h 0 _ rfl, h 1 _ rfl, h 2 _ rfl, h 3 _ rfl⟩
  have hBW : Hid (Below w.heap.size w W) := Lib.hid (by rw [← hW]; exact al0 _ _)
  have hOK := Lib.hid (fun w' (hB : Below W.heap.size W w') => (by
    have e := hB.block w.heap.size (World.block_lt_of_cell? _ _ hO.1)
    obtain ⟨h0, h1, h2, h3⟩ := hO
    exact ⟨(World.cell?_of_block (a := ⟨w.heap.size, 0, none⟩) e).trans h0, (World.cell?_of_block (a := ⟨w.heap.size, 1, none⟩) e).trans h1, (World.cell?_of_block (a := ⟨w.heap.size, 2, none⟩) e).trans h2, (World.cell?_of_block (a := ⟨w.heap.size, 3, none⟩) e).trans h3⟩ : O4 w.heap.size 0 o w'))
  have hpr := Lib.hid prepare_nil
  have hcm := Lib.hid commit_nil
  have hsb := Lib.hid stable_nil
  have hse := Lib.hid see_nil
  have hop := Lib.hid open_nil
  have hck := Lib.hid clock_nil
  have haw := Lib.hid awake_any
  obtain ⟨o0, o1, o2, o3⟩ := hO
  replace hW := Lib.hid hW
  go_enter Try.func6, Try.ntmps6
  go_upto_region 1 with (fail)
  rw [hW.out]
  go_wp2_with (fail)
  with_reducible refine (hse.out _ _).mono ?_
  rintro e w1 ⟨rfl, rfl⟩
  go_wp2_with (fail)
  with_reducible refine (hpr.out _ _ _ _).mono ?_
  rintro e w1 ⟨rfl, rfl⟩
  go_wp2_with (fail)
  with_reducible refine (hsb.out _ _).mono ?_
  rintro e w1 ⟨rfl, rfl⟩
  go_wp2_with (fail)
  with_reducible refine (haw.out _).mono ?_
  rintro e w4 ⟨rfl, hB4⟩
  clear o0 o1 o2 o3
  obtain ⟨o0, o1, o2, o3⟩ := hOK.out _ hB4
  have hfin := Lib.hid (trans0 hBW.out hB4)
  clear hB4 hBW hOK
  go_wp2_with (fail)
  with_reducible refine (hcm.out _ _ _ _).mono ?_
  rintro e w7 ⟨rfl, rfl⟩
  go_wp2_with (fail)
  with_reducible refine (hop.out _).mono ?_
  rintro e w7 ⟨rfl, rfl⟩
  go_wp2_with (fail)
  with_reducible refine (hck.out _).mono ?_
  rintro e w7 ⟨rfl, rfl⟩
  go_wp2
  go_ret
  exact ⟨rfl, hfin.out⟩
end Go.Proofs.Yteelndiiennhkaa.ptA
