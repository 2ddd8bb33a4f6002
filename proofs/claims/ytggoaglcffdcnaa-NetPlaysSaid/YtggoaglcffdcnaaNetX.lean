/- NetNone. -/
import Derived.Test.YtggoaglcffdcnaaNetW
import Derived.Test.YtggoaglcffdcnaaNetL
import Derived.Test.YtggoaglcffdcnaaNetO
namespace Go.Proofs.Ytggoaglcffdcnaa.netX
open Go.ChangeShapes Go.WideShapes Go.ChangeAt Go.RowKit Go.Shelf
open numM rowA byt numA numB numC netA netB netC netD netE netK netW
attribute [local go_sem] Oper.semAt_some

theorem keep_cell {W W' : World} (hB : Below W.heap.size W W') {b o : Nat} {v : Value} (h : W.cell? ⟨b, o, none⟩ = some v) : W'.cell? ⟨b, o, none⟩ = some v :=
  (hB.cell (p := ⟨b, o, none⟩) (World.block_lt_of_cell? _ _ h)).trans h
theorem keep_frozen {W W' : World} (hB : Below W.heap.size W W') {b o : Nat} {v : Value} (h : W.cell? ⟨b, o, none⟩ = some v) (hf : W.frozen? ⟨b, o, none⟩ = false) : W'.frozen? ⟨b, o, none⟩ = false :=
  (hB.frozen (p := ⟨b, o, none⟩) (World.block_lt_of_cell? _ _ h)).trans hf
theorem cell_box (w : World) (v : Value) (t : TypeId) : (w.alloc (.cells #[v] t)).cell? ⟨w.heap.size, 0, none⟩ = some v := cell_of_row _ _ 0 #[v] t (0, 0) (heap_alloc_new w _)
theorem frozen_box (w : World) (v : Value) (t : TypeId) : (w.alloc (.cells #[v] t)).frozen? ⟨w.heap.size, 0, none⟩ = false := by simp
/-- an operation's cells -/
def OB (W : World) (o : Nat) (m : netO.Op) (A : Option Addr) (c : Nat) : Prop :=
  W.cell? ⟨o, 0, none⟩ = some (.int .i64 m.kind) ∧ W.cell? ⟨o, 1, none⟩ = some (.int .i64 m.from_) ∧ W.cell? ⟨o, 2, none⟩ = some (.int .i64 m.to_) ∧ W.cell? ⟨o, 3, none⟩ = some (.int .i64 m.i) ∧
  W.cell? ⟨o, 4, none⟩ = some (.int .i64 m.at_) ∧ W.cell? ⟨o, 5, none⟩ = some (.int .u8 m.mask) ∧ W.cell? ⟨o, 6, none⟩ = some (.slice A m.body.length c)
theorem OB.below {W W' : World} {o : Nat} {m : netO.Op} {A : Option Addr} {c : Nat} (h : OB W o m A c) (hB : Below W.heap.size W W') : OB W' o m A c := by
  obtain ⟨h0, h1, h2, h3, h4, h5, h6⟩ := h
  exact ⟨keep_cell hB h0, keep_cell hB h1, keep_cell hB h2, keep_cell hB h3, keep_cell hB h4, keep_cell hB h5, keep_cell hB h6⟩
theorem OB.new (w : World) (m : netO.Op) (A : Option Addr) (c : Nat) : OB (w.alloc (.cells #[.int .i64 m.kind, .int .i64 m.from_, .int .i64 m.to_, .int .i64 m.i, .int .i64 m.at_, .int .u8 m.mask, .slice A m.body.length c] 32)) w.heap.size m A c := by
  have h := fun (j : Nat) (v : Value) (hv : (#[.int .i64 m.kind, .int .i64 m.from_, .int .i64 m.to_, .int .i64 m.i, .int .i64 m.at_, .int .u8 m.mask, .slice A m.body.length c] : Array Value)[j]? = some v) =>
    (cell_of_row _ _ j _ 32 (0, 0) (heap_alloc_new w (.cells #[.int .i64 m.kind, .int .i64 m.from_, .int .i64 m.to_, .int .i64 m.i, .int .i64 m.at_, .int .u8 m.mask, .slice A m.body.length c] 32))).trans hv
  exact ⟨h 0 _ rfl, h 1 _ rfl, h 2 _ rfl, h 3 _ rfl, h 4 _ rfl, h 5 _ rfl, h 6 _ rfl⟩
/-- between the rounds: there are none -/
def NI (w : World) (o r pb qb : Nat) (m : netO.Op) (A : Option Addr) (c : Nat) (pre : List (Nat × Nat)) (W : World) : Prop :=
  (pre = [] ∧ OB W o m A c ∧ W.cell? ⟨r, 0, none⟩ = some (.bool false) ∧ W.frozen? ⟨r, 0, none⟩ = false ∧ W.cell? ⟨pb, 0, none⟩ = some (.slice none 0 0) ∧ W.cell? ⟨qb, 0, none⟩ = some (.slice none 0 0)) ∧ Below w.heap.size w W
theorem NI.from_ {w : World} {o r pb qb C : Nat} {m : netO.Op} {A : Option Addr} {c : Nat} (hC : w.heap.size ≤ C) : OwnFrom C (NI w o r pb qb m A c) := by
  rintro pre W W' row ⟨⟨rfl, ⟨h0, h1, h2, h3, h4, h5, h6⟩, hr, hf, hp, hq⟩, hB⟩ hg hrow
  have kr := fun r e => (hrow r e).2
  exact ⟨⟨rfl, ⟨cell_kept h0 hg kr, cell_kept h1 hg kr, cell_kept h2 hg kr, cell_kept h3 hg kr, cell_kept h4 hg kr, cell_kept h5 hg kr, cell_kept h6 hg kr⟩, cell_kept hr hg kr, (frozen_kept hr hg kr).trans hf, cell_kept hp hg kr, cell_kept hq hg kr⟩,
    hB.grown hg hB.size (fun k e => Nat.le_trans hC (hrow k e).1)⟩
def NX (w : World) (_ : Code) (_ : List (Nat × Nat)) (W : World) : Prop := False ∧ Below w.heap.size w W
theorem NX.from_ {w : World} {C : Nat} (c : Code) : OwnFrom C (NX w c) := fun _ _ _ _ hs _ _ => hs.1.elim
set_option maxRecDepth 100000 in
set_option maxHeartbeats 4000000 in
theorem none_any (m : netO.Op) (A : Option Addr) (c : Nat) (w : World) :
    Calls Try.prog 7 #[.agg (netO.cOp m A c)] w fun e w' => e = .returned (.bool true) ∧ Below w.heap.size w w' := by
  have hbad : ∀ f t, Bad (.pointer none) f t := fun f t => .inl rfl
  have hwe := Lib.hid (fun f t i w => werr_way (.pointer none) f t i w (hbad f t))
  replace hbad := Lib.hid hbad
  obtain ⟨w3, hw3⟩ : ∃ w3, (w.alloc (.cells #[.int .i64 m.kind, .int .i64 m.from_, .int .i64 m.to_, .int .i64 m.i, .int .i64 m.at_, .int .u8 m.mask, .slice A m.body.length c] 32)).alloc (.cells #[.bool false] 4) = w3 := ⟨_, rfl⟩
  have ho3 : OB w3 w.heap.size m A c := by rw [← hw3]; exact (OB.new w m A c).below (al0 _ _)
  have hB3 : Below w.heap.size w w3 := by rw [← hw3]; exact trans0 (al0 _ _) (al0 _ _)
  have c3 : w3.cell? ⟨w.heap.size + 1, 0, none⟩ = some (.bool false) := by
    have h := cell_box (w.alloc (.cells #[.int .i64 m.kind, .int .i64 m.from_, .int .i64 m.to_, .int .i64 m.i, .int .i64 m.at_, .int .u8 m.mask, .slice A m.body.length c] 32)) (.bool false) 4
    rw [hw3, World.size_alloc] at h; exact h
  have f3 : w3.frozen? ⟨w.heap.size + 1, 0, none⟩ = false := by
    have h := frozen_box (w.alloc (.cells #[.int .i64 m.kind, .int .i64 m.from_, .int .i64 m.to_, .int .i64 m.i, .int .i64 m.at_, .int .u8 m.mask, .slice A m.body.length c] 32)) (.bool false) 4
    rw [hw3, World.size_alloc] at h; exact h
  have s3 : w3.heap.size = w.heap.size + 1 + 1 := by rw [← hw3]; simp
  replace hw3 := Lib.hid hw3
  replace hB3 := Lib.hid hB3
  replace ho3 := Lib.hid ho3
  replace s3 := Lib.hid s3
  unfold netO.cOp
  refine (callsIn_wide (n := 6)).1 ?_
  refine callsIn_of_wp_marks Try.func7 rfl trivial ?_ rfl
  simp only [Try.ntmps7, List.size_toArray, List.length_cons, List.length_nil, Nat.reduceAdd, Nat.reduceSub, Array.replicate_succ, Array.replicate_zero, List.push_toArray, List.append_toArray, List.nil_append, List.cons_append]
  refine wpIn_wide.2 ?_
  go_wp2_with (fail)
  rw [hw3.out]
  refine (awake_any w3).mono ?_
  rintro e w4 ⟨rfl, hB⟩
  have ho4 := ho3.out.below hB
  have c4 := keep_cell hB c3
  have f4 := keep_frozen hB c3 f3
  have hB4 := Lib.hid (trans0 hB3.out hB)
  clear hB c3 f3 hw3 ho3
  obtain ⟨q0, q1, q2, q3, q4, q5, q6⟩ := id ho4
  replace ho4 := Lib.hid ho4
  go_wp2_with (fail)
  refine (look_err w4 (hwe.out _ _ _ w4) (by decide)).mono ?_
  rintro e w5 ⟨rfl, hB⟩
  obtain ⟨w6, hw6⟩ : ∃ w6, w5.alloc (.cells #[.slice none 0 0, .bool false] 45) = w6 := ⟨_, rfl⟩
  have hB6 : Below w4.heap.size w4 w6 := by rw [← hw6]; exact trans0 hB (al0 _ _)
  have p6 : w6.cell? ⟨w5.heap.size, 0, none⟩ = some (.slice none 0 0) := by rw [← hw6]; exact (Z2.new w5).cells.1
  have ho6 := ho4.out.below hB6
  have c6 := keep_cell hB6 c4
  have f6 := keep_frozen hB6 c4 f4
  have hB7 := Lib.hid (trans0 hB4.out hB6)
  replace hw6 := Lib.hid hw6
  have ho5 := ho4.out.below hB
  clear hB c4 f4 ho4 hB6 q0 q1 q2 q3 q4 q5 q6
  obtain ⟨q0, q1, q2, q3, q4, q5, q6⟩ := ho5
  have l5 := World.block_lt_of_cell? _ _ q0
  replace ho6 := Lib.hid ho6
  go_wp2_with (fail)
  rw [hw6.out]
  clear l5
  refine (take_err w6 (hwe.out _ _ _ w6) (by decide)).mono ?_
  rintro e w7 ⟨rfl, hB⟩
  obtain ⟨w8, hw8⟩ : ∃ w8, w7.alloc (.cells #[.slice none 0 0, .bool false] 45) = w8 := ⟨_, rfl⟩
  have hB8 : Below w6.heap.size w6 w8 := by rw [← hw8]; exact trans0 hB (al0 _ _)
  have q8 : w8.cell? ⟨w7.heap.size, 0, none⟩ = some (.slice none 0 0) := by rw [← hw8]; exact (Z2.new w7).cells.1
  have p8 := keep_cell hB8 p6
  have ho8 := ho6.out.below hB8
  have c8 := keep_cell hB8 c6
  have f8 := keep_frozen hB8 c6 f6
  have hB9 := Lib.hid (trans0 hB7.out hB8)
  replace hw8 := Lib.hid hw8
  clear hB c6 f6 p6 ho6 hB8 q0 q1 q2 q3 q4 q5 q6 hB4 hB7 hw6
  replace ho8 := Lib.hid ho8
  go_wp2_with (fail)
  rw [hw8.out]
  refine (ways_any none w8).mono ?_
  rintro e w9 ⟨rfl, hw9⟩
  have hBa : Below w8.heap.size w8 w9 := by rw [hw9]; exact al0 _ _
  have b9 : w9.cell? ⟨w8.heap.size, 0, none⟩ = some (.pointer none) := by rw [hw9]; exact cell_box w8 _ _
  have q9 := keep_cell hBa q8
  have p9 := keep_cell hBa p8
  have ho9 := ho8.out.below hBa
  have c9 := keep_cell hBa c8
  have f9 := keep_frozen hBa c8 f8
  have hBb := Lib.hid (trans0 hB9.out hBa)
  replace ho9 := Lib.hid ho9
  clear hw9 hBa q8 p8 ho8 c8 f8 hB9 hw8
  go_wp2
  have hlt9 := World.block_lt_of_cell? _ _ b9
  refine (wpIn_wide (n := 6)).1 ?_
  refine' wpIn_rangeFunc_ownF rfl (by omega) (gf := 34) (lb := #[.pointer (some ⟨w8.heap.size, 0, none⟩)]) rfl trivial (enters_of Try.func34 (by kernel_rfl) rfl)
    (nil_stops 5 w8.heap.size w9 b9) KW.trans (KW.book hlt9 hlt9) (Below.refl _ _) (fun _ => rfl)
    (NI w w.heap.size (w.heap.size + 1) w5.heap.size w7.heap.size m A c) (NX w) (NI.from_ hBb.out.size) NX.from_
    ⟨⟨rfl, ho9.out, c9, f9, p9, q9⟩, hBb.out⟩ _ ?assign ?body ?done ?stop
  case assign =>
    intro l x W K hK
    simp only [encs]
    gi_wp2
    exact hK
  case body =>
    intro l pre x W _ hl
    omega
  case stop =>
    rintro D c pre W hD hpre ⟨hF, _⟩ _
    exact hF.elim
  case done =>
    rintro D ys W hD rfl ⟨⟨-, hoW, cW, fW, pW, qW⟩, hBW⟩ hK
    clear b9 q9 p9 ho9 c9 f9
    replace hoW := Lib.hid hoW
    replace hBW := Lib.hid hBW
    go_wp2_with (fail)
    refine (awake_any W).mono ?_
    rintro e W1 ⟨rfl, hB⟩
    obtain ⟨q0, q1, q2, q3, q4, q5, q6⟩ := hoW.out.below hB
    have c1 := keep_cell hB cW
    have f1 := keep_frozen hB cW fW
    have p1 := keep_cell hB pW
    have z1 := keep_cell hB qW
    have hKb : W1.heap[D]? = some (.deferred (some [])) := (hB.block D (Array.getElem?_eq_some_iff.1 hK).1).trans hK
    have hB1 := Lib.hid (trans0 hBW.out hB)
    replace hKb := Lib.hid hKb
    clear hB cW fW pW qW hoW hBW hK
    have hfin := Lib.hid (World.cell?_setCell_same' W1 ⟨w.heap.size + 1, 0, none⟩ (.bool true) (by rw [c1]; rfl))
    go_wp2_with (first
      | (go_at_call 20; ((with_reducible refine (send_bad _ _ _ _ _ (hbad.out _ _)).mono ?_); rintro e w' ⟨rfl, rfl⟩))
      | (go_at_call 25; ((with_reducible refine (lose_err _ (hwe.out _ _ _ _) (by decide)).mono ?_); rintro e w' ⟨rfl, rfl⟩))
      | (go_at_call 21; ((with_reducible refine (twice_err _ (hwe.out _ _ _ _) (by decide)).mono ?_); rintro e w' ⟨rfl, rfl⟩))
      | (go_at_call 22; ((with_reducible refine (back_err _ (hwe.out _ _ _ _) (by decide)).mono ?_); rintro e w' ⟨rfl, rfl⟩))
      | (go_at_call 23; ((with_reducible refine (spoil_err _ _ _ (hwe.out _ _ _ _) (by decide)).mono ?_); rintro e w' ⟨rfl, rfl⟩))
      | (go_at_call 12; ((with_reducible refine (len_bad _ _ _ _ (hbad.out _ _)).mono ?_); rintro e w' ⟨rfl, rfl⟩))
      | (go_at_call 11; ((with_reducible refine (lost_nil _).mono ?_); rintro e w' ⟨rfl, rfl⟩)))
    have hK' := (KeepsOthers.setCell W1 ⟨w.heap.size + 1, 0, none⟩ (.bool true)).same D _ hKb.out rfl
    refine ⟨by simp, .inl ⟨_, _, rfl, run_takeDeferred hK', ?_⟩⟩
    have hc5 := cell_kept hfin.out (grownBy_putObj' _ D (.deferred none)) (fun r e => by cases e; exact ⟨_, hK', rfl⟩)
    refine ⟨.bool true, ?_, rfl, (hB1.out.setCell (p := ⟨w.heap.size + 1, 0, none⟩) (show w.heap.size ≤ w.heap.size + 1 by omega) _).trans (belowK_b (w := w) (Nat.le_refl _) _ D _ _ (by have := hBb.out.size; omega) hK' rfl rfl)⟩
    simp [results, Try.f7, go_sem, hc5]
end Go.Proofs.Ytggoaglcffdcnaa.netX
