/- A session in the laws' loops, with whatever else is of another color. -/
import Derived.Test.YtnicomhodnfggaaSeA
import Derived.Test.YtnicomhodnfggaaSeS
set_option linter.unusedVariables false
set_option linter.unusedSimpArgs false
set_option maxRecDepth 100000
namespace Go.Proofs.Ytnicomhodnfggaa.seJ
open Go.ChangeShapes Go.WideShapes Go.ChangeAt Go.RowKit Go.Deep
open opV opO chnM gen chnA chnR chnE seM seI ordC seL seN seB seK seV seW seG seC seA seS

abbrev Wh : Type := (Nat → Nat) → World → Prop
/-- what else there is stays while blocks of another color change -/
def St (d : Nat) (X : Wh) : Prop := ∀ col col' V V', Chg col d V V' → Ext V col col' → X col V → X col' V'
def X2 (X Y : Wh) : Wh := fun col V => X col V ∧ Y col V
def XS (p : Nat) (S : Ss) : Wh := fun col V => SesAt col 1 V p S
def XB (B : Nat) (o : Oq) : Wh := fun col V => O8 B 0 o V ∧ col B = 0
def XT : Wh := fun _ _ => True
theorem st_XT (d : Nat) : St d XT := fun _ _ _ _ _ _ _ => trivial
theorem st_X2 {d : Nat} {X Y : Wh} (h : St d X) (k : St d Y) : St d (X2 X Y) := fun _ _ _ _ hg he ⟨a, b⟩ => ⟨h _ _ _ _ hg he a, k _ _ _ _ hg he b⟩
theorem st_XS {d p : Nat} {S : Ss} (hd : d ≠ 0) (h1 : 1 ≠ d) : St d (XS p S) := fun _ _ _ _ hg he h => SesAt.other h hg hd h1 he
theorem o8_of {b o : Nat} {q : Oq} {w w1 : World} (h : O8 b o q w) (e : w1.heap[b]? = w.heap[b]?) : O8 b o q w1 :=
  ⟨(World.cell?_of_block (a := ⟨b, o, none⟩) e).trans h.1, (World.cell?_of_block (a := ⟨b, o + 1, none⟩) e).trans h.2.1, (World.cell?_of_block (a := ⟨b, o + 2, none⟩) e).trans h.2.2.1, (World.cell?_of_block (a := ⟨b, o + 3, none⟩) e).trans h.2.2.2.1, (World.cell?_of_block (a := ⟨b, o + 4, none⟩) e).trans h.2.2.2.2.1, (World.cell?_of_block (a := ⟨b, o + 5, none⟩) e).trans h.2.2.2.2.2.1, (World.cell?_of_block (a := ⟨b, o + 6, none⟩) e).trans h.2.2.2.2.2.2.1, (World.cell?_of_block (a := ⟨b, o + 7, none⟩) e).trans h.2.2.2.2.2.2.2⟩
theorem o8_lt {b o : Nat} {q : Oq} {w : World} (h : O8 b o q w) : b < w.heap.size := World.block_lt_of_cell? _ _ h.1
theorem o8_new (w : World) (o : Oq) : O8 w.heap.size 0 o (w.alloc (.cells (cO o) 33)) := by
  have h := fun (j : Nat) (u : Value) (hu : (cO o)[j]? = some u) => (cell_of_row _ _ j (cO o) 33 (0, 0) (heap_alloc_new w (.cells (cO o) 33))).trans hu
  exact ⟨h 0 _ rfl, h 1 _ rfl, h 2 _ rfl, h 3 _ rfl, h 4 _ rfl, h 5 _ rfl, h 6 _ rfl, h 7 _ rfl⟩
theorem st_XB {d B : Nat} {o : Oq} (hd : d ≠ 0) : St d (XB B o) := fun _ _ _ _ hg he ⟨h, hc⟩ =>
  ⟨o8_of h (hg.block B (o8_lt h) (by rw [hc]; exact fun e => hd e.symm)), (he B (o8_lt h)).trans hc⟩
/-- memory that the law has made -/
structure LW (w : World) (col : Nat → Nat) (V : World) : Prop where
  fr : Fresh col V
  co : ∀ k, k < w.heap.size → col k = 0
  bel : Below w.heap.size w V
def J (w : World) (X : Wh) (V : World) : Prop := ∃ col, LW w col V ∧ X col V
section
variable {w V V' : World} {p B d : Nat} {S S' : Ss} {o : Oq} {X X' Y : Wh} {col col' : Nat → Nat}
theorem LW.go (h : LW w col V) (hC : Cn d col V col' V') (hd : d ≠ 0) : LW w col' V' :=
  ⟨hC.2.1, fun k hk => (hC.1 k (by have := h.bel.size; omega)).trans (h.co k hk), h.bel.trans (hC.2.2.below h.bel.size fun k hk => by rw [h.co k hk]; exact fun e => hd e.symm)⟩
theorem J.bel (h : J w X V) : Below w.heap.size w V := by obtain ⟨col, h1, h2⟩ := h; exact h1.bel
theorem J.below (h : J w X V) (hX : St 9 X) (hB : Below V.heap.size V V') : J w X V' := by
  obtain ⟨col, h1, h2⟩ := h
  exact ⟨col, h1.go (Cn.below (c := 9) h1.fr hB) (by decide), hX _ _ _ _ (Chg.of_below col 9 hB) (Ext.refl _ _) h2⟩
theorem J.step (h : J w (X2 X Y) V) (hY : St d Y) (hd : d ≠ 0) (hl : ∀ col, Fresh col V → X col V → ∃ col', Cn d col V col' V' ∧ X' col' V') : J w (X2 X' Y) V' := by
  obtain ⟨col, h1, h2, h3⟩ := h
  obtain ⟨col', hC, h4⟩ := hl col h1.fr h2
  exact ⟨col', h1.go hC hd, h4, hY _ _ _ _ hC.2.2 hC.1 h3⟩
theorem J.swap (h : J w (X2 X Y) V) : J w (X2 Y X) V := by
  obtain ⟨col, h1, h2, h3⟩ := h
  exact ⟨col, h1, h3, h2⟩
/-- a box of a call -/
theorem j_box (h : J w X V) (hX : St 9 X) (o : Oq) : J w (X2 (XB V.heap.size o) X) (V.alloc (.cells (cO o) 33)) := by
  obtain ⟨col, h1, h2⟩ := h
  have hB := al0 V (.cells (cO o) 33)
  exact ⟨col, h1.go (Cn.below (c := 9) h1.fr hB) (by decide), ⟨o8_new V o, h1.fr _ (Nat.le_refl _)⟩, hX _ _ _ _ (Chg.of_below col 9 hB) (Ext.refl _ _) h2⟩
theorem j_o8 (h : J w (X2 X (X2 (XB B o) Y)) V) : O8 B 0 o V := by
  obtain ⟨col, h1, h2, h3, h4⟩ := h
  exact h3.1
theorem j_new (w : World) : J w (X2 (XS (w.heap.size + 1) S0) XT) (newS w) := by
  obtain ⟨hA, hC⟩ := at_new (col := fun _ => 0) (c := 1) w (fun _ _ => rfl)
  exact ⟨_, ⟨hC.2.1, fun k hk => if_neg (by omega), hC.2.2.below (Nat.le_refl _) (fun k _ => (by decide : (0 : Nat) ≠ 1))⟩, hA, trivial⟩
theorem j_begin (h : J w (X2 (XS p S) Y) V) (hY : St 1 Y) (hok : S.ok) (t : Int) : Calls Try.prog 9 #[.pointer (some ⟨p, 0, none⟩), .int .u64 t] V fun e w' =>
    e = .returned (.tuple #[.int .u64 (beT S t), .int .i64 (beE S)]) ∧ J w (X2 (XS p (beS S t)) Y) w' := by
  obtain ⟨col, hl, hS, hy⟩ := h
  refine (begin_at V hS (by decide) hl.fr hok t).mono ?_
  rintro e w' ⟨he, col', hC, hS'⟩
  exact ⟨he, col', hl.go hC (by decide), hS', hY _ _ _ _ hC.2.2 hC.1 hy⟩
theorem j_write (h : J w (X2 (XS p S) Y) V) (hY : St 1 Y) (hok : S.ok) (key val : ByteArray) (gone : Bool) : Calls Try.prog 11 #[.pointer (some ⟨p, 0, none⟩), .string key, .string val, .bool gone] V fun e w' =>
    e = .returned (.int .i64 (wrE S key val gone)) ∧ J w (X2 (XS p (wrS S key val gone)) Y) w' := by
  obtain ⟨col, hl, hS, hy⟩ := h
  refine (write_at V hS hok (by decide) hl.fr key val gone).mono ?_
  rintro e w' ⟨he, col', hC, hS'⟩
  exact ⟨he, col', hl.go hC (by decide), hS', hY _ _ _ _ hC.2.2 hC.1 hy⟩
theorem j_commit (h : J w (X2 (XS p S) Y) V) (hY : St 1 Y) (hok : S.ok) (ts dc tx : Int) (hcn : S.cnt ≤ 100000) : Calls Try.prog 13 #[.pointer (some ⟨p, 0, none⟩), mk (ts, dc, tx)] V fun e w' =>
    e = .returned (.int .i64 (coE S ts)) ∧ J w (X2 (XS p (coS S ts dc tx)) Y) w' := by
  obtain ⟨col, hl, hS, hy⟩ := h
  refine (commit_at V hS hok (by decide) hl.fr ts dc tx hcn).mono ?_
  rintro e w' ⟨he, col', hC, hS'⟩
  exact ⟨he, col', hl.go hC (by decide), hS', hY _ _ _ _ hC.2.2 hC.1 hy⟩
theorem j_close (h : J w (X2 (XS p S) Y) V) (hY : St 1 Y) (hok : S.ok) : Calls Try.prog 15 #[.pointer (some ⟨p, 0, none⟩)] V fun e w' =>
    e = .returned (.int .i64 (clE S)) ∧ J w (X2 (XS p (clS S)) Y) w' := by
  obtain ⟨col, hl, hS, hy⟩ := h
  refine (close_at V hS (by decide) hl.fr hok).mono ?_
  rintro e w' ⟨he, col', hC, hS'⟩
  exact ⟨he, col', hl.go hC (by decide), hS', hY _ _ _ _ hC.2.2 hC.1 hy⟩
theorem st9 (hY : St 9 Y) : St 9 (X2 (XS p S) Y) := st_X2 (st_XS (by decide) (by decide)) hY
theorem j_look (h : J w (X2 (XS p S) Y) V) (hY : St 9 Y) (hok : S.ok) (k : ByteArray) (hk : k.size ≤ 281474976710656) : Calls Try.prog 17 #[.pointer (some ⟨p, 0, none⟩), .string k] V fun e w' =>
    e = .returned (.tuple #[vv (lkV S k), .int .i64 (lkN S k)]) ∧ J w (X2 (XS p S) Y) w' := by
  have hb := fun V' hB => J.below (V' := V') h (st9 hY) hB
  obtain ⟨col, hl, hS, hy⟩ := h
  refine (look_at V hS hok k hk).mono ?_
  rintro e w' ⟨he, hB⟩
  exact ⟨he, hb _ hB⟩
theorem j_snap (h : J w (X2 (XS p S) Y) V) : Calls Try.prog 20 #[.pointer (some ⟨p, 0, none⟩)] V fun e w' => e = .returned (.int .u64 S.snap) ∧ V = w' := by
  obtain ⟨col, hl, hS, hy⟩ := h
  exact snap_at V hS
theorem j_open (h : J w (X2 (XS p S) Y) V) : Calls Try.prog 19 #[.pointer (some ⟨p, 0, none⟩)] V fun e w' => e = .returned (.bool S.op) ∧ V = w' := by
  obtain ⟨col, hl, hS, hy⟩ := h
  exact open_at V hS
theorem j_low (h : J w (X2 (XS p S) Y) V) (hY : St 9 Y) : Calls Try.prog 21 #[.pointer (some ⟨p, 0, none⟩)] V fun e w' => e = .returned (.int .u64 (low S)) ∧ J w (X2 (XS p S) Y) w' := by
  have hb := fun V' hB => J.below (V' := V') h (st9 hY) hB
  obtain ⟨col, hl, hS, hy⟩ := h
  refine (low_below V hS).mono ?_
  rintro e w' ⟨he, hB⟩
  exact ⟨he, hb _ hB⟩
theorem j_lowq (h : J w (X2 (XS p S) Y) V) (n : Nat) : Calls Try.prog 21 #[.pointer (some ⟨p, 0, none⟩)] (V.drewN n) fun e w' => e = .returned (.int .u64 (low S)) ∧ ∃ m, w' = V.drewN m := by
  obtain ⟨col, hl, hS, hy⟩ := h
  exact low_quiet V hS n
theorem j_writes (h : J w (X2 (XS p S) Y) V) (hY : St 9 Y) (hok : S.ok) : Calls Try.prog 24 #[.pointer (some ⟨p, 0, none⟩)] V fun e w' =>
    ∃ A c, e = .returned (.slice A S.ws.length c) ∧ GV w' V.heap.size A c S.ws ∧ Below V.heap.size V w' ∧ J w (X2 (XS p S) Y) w' := by
  have hb := fun V' hB => J.below (V' := V') h (st9 hY) hB
  obtain ⟨col, hl, hS, hy⟩ := h
  refine (writes_at V hS hok).mono ?_
  rintro e w' ⟨A, c, he, hG, hB⟩
  exact ⟨A, c, he, hG, hB, hb _ hB⟩
set_option maxHeartbeats 1000000 in
theorem j_do (h : J w (X2 (XS p S) Y) V) (hY1 : St 1 Y) (hY9 : St 9 Y) (hok : S.ok) (hcn : S.cnt ≤ 100000) (o : Oq) : Calls Try.prog 26 #[.pointer (some ⟨p, 0, none⟩), .agg (cO o)] V fun e w' =>
    e = .returned (.int .i64 (stE S o)) ∧ J w (X2 (XS p (stS S o)) Y) w' := by
  obtain ⟨W, hW⟩ : ∃ W, V.alloc (.cells (cO o) 33) = W := ⟨_, rfl⟩
  have hJ : J w (X2 (XS p S) Y) W := by rw [← hW]; exact h.below (st9 hY9) (al0 _ _)
  have hO : O8 V.heap.size 0 o W := by rw [← hW]; exact o8_new V o
  obtain ⟨o0, o1, o2, o3, o4, o5, o6, o7⟩ := hO
  replace hW := Lib.hid hW
  clear h
  rcases five_ways o.kind with e | e | e | e | ⟨e0, e1, e2, e3⟩
  · have hc := Lib.hid (j_begin hJ hY1 hok o.t)
    rw [(st0 e).1, (st0 e).2]
    rw [e] at o0
    clear hJ hY1 hY9 hok
    go_enter Try.func26, Try.ntmps26
    go_upto_region 1 with (fail)
    rw [hW.out]
    clear e
    go_wp2_with (fail)
    with_reducible refine (hc.out).mono ?_
    rintro e w1 ⟨rfl, hJ⟩
    replace hJ := Lib.hid hJ
    go_wp2
    go_ret
    exact ⟨rfl, hJ.out⟩
  · have hc := Lib.hid (j_write hJ hY1 hok o.key o.val o.gone)
    rw [(st1 e).1, (st1 e).2]
    rw [e] at o0
    clear hJ hY1 hY9 hok
    go_enter Try.func26, Try.ntmps26
    go_upto_region 1 with (fail)
    rw [hW.out]
    clear e
    go_wp2_with (fail)
    with_reducible refine (hc.out).mono ?_
    rintro e w1 ⟨rfl, hJ⟩
    replace hJ := Lib.hid hJ
    go_wp2
    go_ret
    exact ⟨rfl, hJ.out⟩
  · have hc := Lib.hid (j_commit hJ hY1 hok o.ts o.dc o.tx hcn)
    rw [(st2 e).1, (st2 e).2]
    rw [e] at o0
    clear hJ hY1 hY9 hok
    go_enter Try.func26, Try.ntmps26
    go_upto_region 1 with (fail)
    rw [hW.out]
    clear e
    go_wp2_with (fail)
    with_reducible refine (hc.out).mono ?_
    rintro e w1 ⟨rfl, hJ⟩
    replace hJ := Lib.hid hJ
    go_wp2
    go_ret
    exact ⟨rfl, hJ.out⟩
  · have hc := Lib.hid (j_close hJ hY1 hok)
    rw [(st3 e).1, (st3 e).2]
    rw [e] at o0
    clear hJ hY1 hY9 hok
    go_enter Try.func26, Try.ntmps26
    go_upto_region 1 with (fail)
    rw [hW.out]
    clear e
    go_wp2_with (fail)
    with_reducible refine (hc.out).mono ?_
    rintro e w1 ⟨rfl, hJ⟩
    replace hJ := Lib.hid hJ
    go_wp2
    go_ret
    exact ⟨rfl, hJ.out⟩
  · rw [(st4 e0 e1 e2 e3).1, (st4 e0 e1 e2 e3).2]
    replace hJ := Lib.hid hJ
    clear hY1 hY9 hok
    go_enter Try.func26, Try.ntmps26
    go_upto_region 1 with (fail)
    rw [hW.out]
    go_wp2
    go_ret
    exact ⟨rfl, hJ.out⟩
end
end Go.Proofs.Ytnicomhodnfggaa.seJ
