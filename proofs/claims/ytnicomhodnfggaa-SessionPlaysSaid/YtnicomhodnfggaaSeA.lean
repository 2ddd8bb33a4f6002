/- Of a nil session; awake; SessionNone. -/
import Derived.Test.YtnicomhodnfggaaSeC
import Derived.Test.YtnicomhodnfggaaOpO
set_option linter.unusedVariables false
set_option linter.unusedSimpArgs false
set_option maxRecDepth 100000
namespace Go.Proofs.Ytnicomhodnfggaa.seA
open Go.ChangeShapes Go.WideShapes Go.ChangeAt Go.RowKit Go.Deep
open opV opO chnM gen chnA chnR chnE seM seI ordC seL seN seB seK seV seW seG seC

theorem begin_nil (t : Int) (w : World) : Calls Try.prog 9 #[.pointer none, .int .u64 t] w fun e w' => e = .returned (.tuple #[.int .u64 0, .int .i64 1]) ∧ w = w' := by
  go_enter Try.func9, Try.ntmps9
  go_wp2
  go_ret2
  exact ⟨rfl, rfl⟩
theorem write_nil (k v : ByteArray) (g : Bool) (w : World) : Calls Try.prog 11 #[.pointer none, .string k, .string v, .bool g] w fun e w' => e = .returned (.int .i64 1) ∧ w = w' := by
  go_enter Try.func11, Try.ntmps11
  go_wp2
  go_ret
  exact ⟨rfl, rfl⟩
theorem commit_nil (ts dc tx : Int) (w : World) : Calls Try.prog 13 #[.pointer none, mk (ts, dc, tx)] w fun e w' => e = .returned (.int .i64 1) ∧ Below w.heap.size w w' := by
  have hB := Lib.hid (fun o => al0 w o)
  go_enter Try.func13, Try.ntmps13
  go_wp2
  go_ret
  exact ⟨rfl, hB.out _⟩
theorem close_nil (w : World) : Calls Try.prog 15 #[.pointer none] w fun e w' => e = .returned (.int .i64 1) ∧ w = w' := by
  go_enter Try.func15, Try.ntmps15
  go_wp2
  go_ret
  exact ⟨rfl, rfl⟩
theorem open_nil (w : World) : Calls Try.prog 19 #[.pointer none] w fun e w' => e = .returned (.bool false) ∧ w = w' := by
  go_enter Try.func19, Try.ntmps19
  go_wp2
  go_ret
  exact ⟨rfl, rfl⟩
theorem snap_nil (w : World) : Calls Try.prog 20 #[.pointer none] w fun e w' => e = .returned (.int .u64 0) ∧ w = w' := by
  go_enter Try.func20, Try.ntmps20
  go_wp2
  go_ret
  exact ⟨rfl, rfl⟩
theorem low_nil (w : World) : Calls Try.prog 21 #[.pointer none] w fun e w' => e = .returned (.int .u64 0) ∧ w = w' := by
  go_enter Try.func21, Try.ntmps21
  go_wp2
  go_ret
  exact ⟨rfl, rfl⟩
theorem writes_nil (w : World) : Calls Try.prog 24 #[.pointer none] w fun e w' => e = .returned (.slice none 0 0) ∧ w = w' := by
  go_enter Try.func24, Try.ntmps24
  go_wp2
  go_ret
  exact ⟨rfl, rfl⟩
theorem look_nil (k : ByteArray) (w : World) : Calls Try.prog 17 #[.pointer none, .string k] w fun e w' => e = .returned (.tuple #[vv v0, .int .i64 0]) ∧ Below w.heap.size w w' := by
  obtain ⟨W, hW⟩ : ∃ W, w.alloc (.cells #[.string { data := #[] }, .string { data := #[] }, .bool false, .int .u64 0, .int .i64 0, .int .i64 0] 41) = W := ⟨_, rfl⟩
  have hP : R6 w.heap.size v0 W := by rw [← hW]; exact R6.new w v0
  have hB : Below w.heap.size w W := by rw [← hW]; exact al0 _ _
  have hfin := Lib.hid (put6_below (b := w.heap.size) hB (Nat.le_refl _) v0)
  obtain ⟨f0, f1, f2, f3, f4, f5⟩ := hP.fz
  obtain ⟨b0, b1, b2, b3, b4, b5⟩ := hP.v6
  have hlt := hP.lt
  have ho := Lib.hid open_nil
  replace hW := Lib.hid hW
  clear hB
  go_enter Try.func17, Try.ntmps17
  go_wp2_with (fail)
  rw [hW.out]
  with_reducible refine (ho.out _).mono ?_
  rintro e w1 ⟨rfl, rfl⟩
  go_wp2
  exact bodyPost_ret (v := .tuple #[vv v0, .int .i64 0]) (by simp [results, Try.results17, go_sem, b0, b1, b2, b3, b4, b5, hlt]) rfl ⟨rfl, hfin.out⟩

/-- what a call of the law leaves of memory that was there -/
theorem lv_below {col : Nat → Nat} {c p : Nat} {S : Ss} {B : Nat} {w w' : World} (h : Lv col c p S w w') (hB : B ≤ w.heap.size) (hc : ∀ k, k < B → col k ≠ c) : Below B w w' := by
  obtain ⟨c2, hC, _⟩ := h
  exact hC.2.2.below hB hc
abbrev kA : ByteArray := { data := #[97] }
abbrev kX : ByteArray := { data := #[120] }
theorem wrA : wrE (beS S0 5) kA kX false = 0 := by
  have h1 : seq kA emp = false := seq_ne (by decide)
  unfold wrE
  rw [if_neg (by simp [beS, S0]), if_neg (by unfold isLong; decide), if_neg (by unfold isArg; rw [h1]; decide), if_neg (by simp [beS, S0])]
theorem awake_any (w : World) : Calls Try.prog 25 #[] w fun e w' => e = .returned (.bool true) ∧ Below w.heap.size w w' := by
  have hnew := Lib.hid (new_any w)
  obtain ⟨hA, hC⟩ := at_new (col := fun _ => 0) (c := 1) w (fun _ _ => rfl)
  obtain ⟨W, hW⟩ : ∃ W, newS w = W := ⟨_, rfl⟩
  rw [hW] at hA hC hnew
  have hB1 : Below w.heap.size w W := hC.2.2.below (Nat.le_refl _) (fun k _ => (by decide : (0 : Nat) ≠ 1))
  have hcl : ∀ k, k < w.heap.size → colP (fun _ => 0) w.heap.size 1 k ≠ 1 := fun k hk => by unfold colP; rw [if_neg (by omega)]; exact (by decide : (0 : Nat) ≠ 1)
  have hbe := Lib.hid (begin_at W hA (by decide) hC.2.1 ok_S0 5)
  rw [show beT S0 5 = 5 from rfl, show beE S0 = 0 from rfl] at hbe
  have hwr := Lib.hid (fun w2 (h : Lv (colP (fun _ => 0) w.heap.size 1) 1 (w.heap.size + 1) (beS S0 5) W w2) => (by
    obtain ⟨c2, hC2, hA2⟩ := h
    have := write_at w2 hA2 (ok_be ok_S0) (by decide) hC2.2.1 kA kX false
    rw [wrA] at this
    refine this.mono ?_
    rintro e w3 ⟨h1, c3, hC3, hA3⟩
    exact ⟨h1, c3, hC2.trans hC3, hA3⟩ : Calls Try.prog 11 #[.pointer (some ⟨w.heap.size + 1, 0, none⟩), .string kA, .string kX, .bool false] w2 fun e w' => e = .returned (.int .i64 0) ∧ Lv (colP (fun _ => 0) w.heap.size 1) 1 (w.heap.size + 1) (wrS (beS S0 5) kA kX false) W w'))
  have hws := Lib.hid (fun w3 (h : Lv (colP (fun _ => 0) w.heap.size 1) 1 (w.heap.size + 1) (wrS (beS S0 5) kA kX false) W w3) => (by
    have h2 := lv_below h hB1.size hcl
    obtain ⟨c2, hC2, hA2⟩ := h
    refine ((writes_at w3 hA2 (ok_wr (ok_be ok_S0))).mono ?_)
    rintro e w4 ⟨A, c, h1, h3, h4⟩
    have e1 : (wrS (beS S0 5) kA kX false).ws.length = 1 := by unfold wrS; rw [if_pos wrA]; rfl
    rw [e1] at h1
    exact ⟨A, c, h1, (hB1.trans h2).trans (h4.mono (by have := h2.size; have := hB1.size; omega))⟩ : Calls Try.prog 24 #[.pointer (some ⟨w.heap.size + 1, 0, none⟩)] w3 fun e w' => ∃ A c, e = .returned (.slice A 1 c) ∧ Below w.heap.size w w'))
  clear hA hC hB1 hcl hW
  go_enter Try.func25, Try.ntmps25
  go_wp2_with (fail)
  with_reducible refine hnew.out.mono ?_
  rintro e w1 ⟨rfl, rfl⟩
  go_wp2_with (fail)
  with_reducible refine hbe.out.mono ?_
  rintro e w2 ⟨rfl, hL⟩
  have hw2 := Lib.hid (hwr.out _ hL)
  clear hL
  go_wp2_with (fail)
  with_reducible refine hw2.out.mono ?_
  rintro e w3 ⟨rfl, hL⟩
  have hw3 := Lib.hid (hws.out _ hL)
  clear hL hw2
  go_wp2_with (fail)
  with_reducible refine hw3.out.mono ?_
  rintro e w4 ⟨A, c, rfl, hB⟩
  go_wp2
  go_ret
  exact ⟨rfl, hB⟩
set_option maxHeartbeats 2000000 in
theorem none_any (o : Oq) (w : World) : Calls Try.prog 7 #[.agg (cO o)] w fun e w' => e = .returned (.bool true) ∧ Below w.heap.size w w' := by
  obtain ⟨W, hW⟩ : ∃ W, w.alloc (.cells (cO o) 33) = W := ⟨_, rfl⟩
  have hO : O8 w.heap.size 0 o W := by
    rw [← hW]
    have h := fun (j : Nat) (u : Value) (hu : (cO o)[j]? = some u) => (cell_of_row _ _ j (cO o) 33 (0, 0) (heap_alloc_new w (.cells (cO o) 33))).trans hu
    exact ⟨h 0 _ rfl, h 1 _ rfl, h 2 _ rfl, h 3 _ rfl, h 4 _ rfl, h 5 _ rfl, h 6 _ rfl, h 7 _ rfl⟩
  have hBW : Hid (Below w.heap.size w W) := Lib.hid (by rw [← hW]; exact al0 _ _)
  have hOK := Lib.hid (fun w' (hB : Below W.heap.size W w') => (by
    have e := hB.block w.heap.size (World.block_lt_of_cell? _ _ hO.1)
    obtain ⟨h0, h1, h2, h3, h4, h5, h6, h7⟩ := hO
    exact ⟨(World.cell?_of_block (a := ⟨w.heap.size, 0, none⟩) e).trans h0, (World.cell?_of_block (a := ⟨w.heap.size, 1, none⟩) e).trans h1, (World.cell?_of_block (a := ⟨w.heap.size, 2, none⟩) e).trans h2, (World.cell?_of_block (a := ⟨w.heap.size, 3, none⟩) e).trans h3, (World.cell?_of_block (a := ⟨w.heap.size, 4, none⟩) e).trans h4, (World.cell?_of_block (a := ⟨w.heap.size, 5, none⟩) e).trans h5, (World.cell?_of_block (a := ⟨w.heap.size, 6, none⟩) e).trans h6, (World.cell?_of_block (a := ⟨w.heap.size, 7, none⟩) e).trans h7⟩ : O8 w.heap.size 0 o w'))
  have hlk := Lib.hid look_nil
  have hcm := Lib.hid commit_nil
  have hbe := Lib.hid begin_nil
  have hwr := Lib.hid write_nil
  have hcl := Lib.hid close_nil
  have hop := Lib.hid open_nil
  have hsn := Lib.hid snap_nil
  have hlo := Lib.hid low_nil
  have hws := Lib.hid writes_nil
  have haw := Lib.hid awake_any
  have heq := eql_ver v0 v0
  rw [decide_eq_true rfl] at heq
  obtain ⟨o0, o1, o2, o3, o4, o5, o6, o7⟩ := hO
  replace hW := Lib.hid hW
  go_enter Try.func7, Try.ntmps7
  go_upto_region 1 with (fail)
  rw [hW.out]
  go_wp2_with (fail)
  with_reducible refine (hbe.out _ _).mono ?_
  rintro e w1 ⟨rfl, rfl⟩
  go_wp2_with (fail)
  with_reducible refine (hlk.out _ _).mono ?_
  rintro e w2 ⟨rfl, hB2⟩
  clear o0 o1 o2 o3 o4 o5 o6 o7
  obtain ⟨W3, hW3⟩ : ∃ W3, w2.alloc (.cells #[.string { data := #[] }, .string { data := #[] }, .bool false, .int .u64 0, .int .i64 0, .int .i64 0] 41) = W3 := ⟨_, rfl⟩
  have hB3 : Below w2.heap.size w2 W3 := by rw [← hW3]; exact al0 w2 _
  have hZ3 : V6 w2.heap.size 0 v0 W3 := by rw [← hW3]; exact V6.new w2 v0 _
  have hB23 := trans0 hB2 hB3
  replace hW3 := Lib.hid hW3
  clear hB2 hB3
  go_upto_region 4 with (fail)
  rw [hW3.out]
  generalize w2.heap.size = zb at *
  clear hW3
  go_wp2_with (fail)
  with_reducible refine (haw.out _).mono ?_
  rintro e w4 ⟨rfl, hB4⟩
  have hB24 := trans0 hB23 hB4
  have hZ4 := V6.below hZ3 hB4
  obtain ⟨o0, o1, o2, o3, o4, o5, o6, o7⟩ := hOK.out _ hB24
  clear hB23 hB4 hZ3
  go_wp2_with (fail)
  with_reducible refine (hwr.out _ _ _ _).mono ?_
  rintro e w5 ⟨rfl, rfl⟩
  go_wp2_with (fail)
  with_reducible refine (hcm.out _ _ _ _).mono ?_
  rintro e w6 ⟨rfl, hB6⟩
  have hB26 := trans0 hB24 hB6
  obtain ⟨z0, z1, z2, z3, z4, z5⟩ := V6.below hZ4 hB6
  have hfin := Lib.hid (trans0 hBW.out hB26)
  clear hB24 hB6 hB26 hZ4 o0 o1 o2 o3 o4 o5 o6 o7 hBW hOK
  go_wp2_with (fail)
  with_reducible refine (hcl.out _).mono ?_
  rintro e w7 ⟨rfl, rfl⟩
  go_wp2_with (fail)
  with_reducible refine (hop.out _).mono ?_
  rintro e w7 ⟨rfl, rfl⟩
  go_wp2_with (fail)
  with_reducible refine (hsn.out _).mono ?_
  rintro e w7 ⟨rfl, rfl⟩
  go_wp2_with (fail)
  with_reducible refine (hlo.out _).mono ?_
  rintro e w7 ⟨rfl, rfl⟩
  go_wp2_with (fail)
  with_reducible refine (hws.out _).mono ?_
  rintro e w7 ⟨rfl, rfl⟩
  go_wp2
  go_ret
  exact ⟨rfl, hfin.out⟩
end Go.Proofs.Ytnicomhodnfggaa.seA
