/- A table in the laws' loops, with whatever else is of another color; awake. -/
import Derived.Test.YtafocefbpkcoaaaCoF
import Derived.Test.YtafocefbpkcoaaaCoT
set_option linter.unusedVariables false
set_option linter.unusedSimpArgs false
set_option maxRecDepth 100000
namespace Go.Proofs.Ytafocefbpkcoaaa.coJ
open Go.ChangeShapes Go.WideShapes Go.ChangeAt Go.RowKit Go.Deep
open opG opV chnM gen chnA chnR chnE ordA ordC coG coO coM coP coL coN coB coK coV coE coF coW coT

abbrev Wh : Type := (Nat → Nat) → World → Prop
/-- what else there is stays while blocks of another color change -/
def St (d : Nat) (X : Wh) : Prop := ∀ col col' V V', Chg col d V V' → Ext V col col' → X col V → X col' V'
def X2 (X Y : Wh) : Wh := fun col V => X col V ∧ Y col V
def XS (t : Nat) (os : Ens) : Wh := fun col V => TabAt col 1 V t os
def XB (B : Nat) (o : Oq) : Wh := fun col V => O7 B 0 o V ∧ col B = 0
def XT : Wh := fun _ _ => True
/-- a row of shares that nobody changes -/
def XR (A : Option Addr) (c : Nat) (rs : List SR) : Wh := fun col V => Rd shS V A c rs ∧ (rs = [] ∨ ∀ y, A = some y → col y.block = 0)
theorem st_XT (d : Nat) : St d XT := fun _ _ _ _ _ _ _ => trivial
theorem st_X2 {d : Nat} {X Y : Wh} (h : St d X) (k : St d Y) : St d (X2 X Y) := fun _ _ _ _ hg he ⟨a, b⟩ => ⟨h _ _ _ _ hg he a, k _ _ _ _ hg he b⟩
theorem st_XS {d t : Nat} {os : Ens} (hd : d ≠ 0) (h1 : 1 ≠ d) : St d (XS t os) := fun _ _ _ _ hg he h => TabAt.other h hg hd h1 he
theorem st_XR {d c : Nat} {A : Option Addr} {rs : List SR} (hd : d ≠ 0) : St d (XR A c rs) := fun col col' V V' hg he ⟨h, hc⟩ => by
  by_cases h0 : rs = []
  · exact ⟨h.of_block hg.size (.inl h0), .inl h0⟩
  · have hco := hc.resolve_left h0
    exact ⟨h.of_block hg.size (.inr fun y e => hg.block _ (h.lt h0 e) (by rw [hco y e]; exact fun e => hd e.symm)), .inr fun y e => (he _ (h.lt h0 e)).trans (hco y e)⟩
theorem o7_of {b o : Nat} {q : Oq} {w w1 : World} (h : O7 b o q w) (e : w1.heap[b]? = w.heap[b]?) : O7 b o q w1 :=
  ⟨(World.cell?_of_block (a := ⟨b, o, none⟩) e).trans h.1, (World.cell?_of_block (a := ⟨b, o + 1, none⟩) e).trans h.2.1, (World.cell?_of_block (a := ⟨b, o + 2, none⟩) e).trans h.2.2.1, (World.cell?_of_block (a := ⟨b, o + 3, none⟩) e).trans h.2.2.2.1, (World.cell?_of_block (a := ⟨b, o + 4, none⟩) e).trans h.2.2.2.2.1, (World.cell?_of_block (a := ⟨b, o + 5, none⟩) e).trans h.2.2.2.2.2.1, (World.cell?_of_block (a := ⟨b, o + 6, none⟩) e).trans h.2.2.2.2.2.2⟩
theorem o7_lt {b o : Nat} {q : Oq} {w : World} (h : O7 b o q w) : b < w.heap.size := World.block_lt_of_cell? _ _ h.1
theorem o7_new (w : World) (o : Oq) : O7 w.heap.size 0 o (w.alloc (.cells (cO o) 32)) := by
  have h := fun (j : Nat) (u : Value) (hu : (cO o)[j]? = some u) => (cell_of_row _ _ j (cO o) 32 (0, 0) (heap_alloc_new w (.cells (cO o) 32))).trans hu
  exact ⟨h 0 _ rfl, h 1 _ rfl, h 2 _ rfl, h 3 _ rfl, h 4 _ rfl, h 5 _ rfl, h 6 _ rfl⟩
theorem o7_step {b o B : Nat} {q : Oq} {w w1 : World} (h : O7 b o q w) (hB : Below B w w1) (hs : w.heap.size ≤ B) : O7 b o q w1 := o7_of h (hB.block b (by have := o7_lt h; omega))
theorem st_XB {d B : Nat} {o : Oq} (hd : d ≠ 0) : St d (XB B o) := fun _ _ _ _ hg he ⟨h, hc⟩ =>
  ⟨o7_of h (hg.block B (o7_lt h) (by rw [hc]; exact fun e => hd e.symm)), (he B (o7_lt h)).trans hc⟩
/-- memory that the law has made -/
structure LW (w : World) (col : Nat → Nat) (V : World) : Prop where
  fr : Fresh col V
  co : ∀ k, k < w.heap.size → col k = 0
  bel : Below w.heap.size w V
def J (w : World) (X : Wh) (V : World) : Prop := ∃ col, LW w col V ∧ X col V
section
variable {w V V' : World} {t B d : Nat} {os os' : Ens} {o : Oq} {X X' Y : Wh} {col col' : Nat → Nat}
theorem LW.go (h : LW w col V) (hC : Cn d col V col' V') (hd : d ≠ 0) : LW w col' V' :=
  ⟨hC.2.1, fun k hk => (hC.1 k (by have := h.bel.size; omega)).trans (h.co k hk), h.bel.trans (hC.2.2.below h.bel.size fun k hk => by rw [h.co k hk]; exact fun e => hd e.symm)⟩
theorem J.bel (h : J w X V) : Below w.heap.size w V := by obtain ⟨col, h1, h2⟩ := h; exact h1.bel
theorem J.below (h : J w X V) (hX : St 9 X) (hB : Below V.heap.size V V') : J w X V' := by
  obtain ⟨col, h1, h2⟩ := h
  exact ⟨col, h1.go (Cn.below (c := 9) h1.fr hB) (by decide), hX _ _ _ _ (Chg.of_below col 9 hB) (Ext.refl _ _) h2⟩
theorem J.swap (h : J w (X2 X Y) V) : J w (X2 Y X) V := by
  obtain ⟨col, h1, h2, h3⟩ := h
  exact ⟨col, h1, h3, h2⟩
/-- a box of a call -/
theorem j_box (h : J w X V) (hX : St 9 X) (o : Oq) : J w (X2 (XB V.heap.size o) X) (V.alloc (.cells (cO o) 32)) := by
  obtain ⟨col, h1, h2⟩ := h
  have hB := al0 V (.cells (cO o) 32)
  exact ⟨col, h1.go (Cn.below (c := 9) h1.fr hB) (by decide), ⟨o7_new V o, h1.fr _ (Nat.le_refl _)⟩, hX _ _ _ _ (Chg.of_below col 9 hB) (Ext.refl _ _) h2⟩
/-- .. beside two things -/
theorem j_bx (h : J w (X2 X Y) V) (hX : St 9 (X2 X Y)) (o : Oq) : J w (X2 X (X2 (XB V.heap.size o) Y)) (V.alloc (.cells (cO o) 32)) := by
  obtain ⟨col, a, b, c, d⟩ := j_box h hX o
  exact ⟨col, a, c, b, d⟩
theorem j_unbx (h : J w (X2 X (X2 X' Y)) V) : J w (X2 X Y) V := by
  obtain ⟨col, a, b, c, d⟩ := h
  exact ⟨col, a, b, d⟩
theorem j_o7 (h : J w (X2 X (X2 (XB B o) Y)) V) : O7 B 0 o V := by
  obtain ⟨col, h1, h2, h3, h4⟩ := h
  exact h3.1
/-- a row of shares of new memory -/
theorem j_row (h : J w X V) (hX : St 9 X) {A : Option Addr} {c : Nat} {rs : List SR} (hG : coG.Own shS V' V.heap.size A c rs) (hB : Below V.heap.size V V') : J w (X2 (XR A c rs) X) V' := by
  obtain ⟨col, h1, h2⟩ := h
  refine ⟨col, h1.go (Cn.below (c := 9) h1.fr hB) (by decide), ⟨hG.rd, ?_⟩, hX _ _ _ _ (Chg.of_below col 9 hB) (Ext.refl _ _) h2⟩
  by_cases h0 : rs = []
  · exact .inl h0
  · refine .inr fun y e => h1.fr _ ?_
    obtain ⟨g, e2, hb, _⟩ := hG.at_ (i := 0) (List.getElem?_eq_getElem (List.length_pos_iff.2 h0))
    rw [e] at e2; cases e2
    exact hb
theorem j_new (w : World) : J w (X2 (XS (w.heap.size + 1) []) XT) (newS w) := by
  obtain ⟨hA, hC⟩ := at_new (col := fun _ => 0) (c := 1) w (fun _ _ => rfl)
  exact ⟨_, ⟨hC.2.1, fun k hk => if_neg (by omega), hC.2.2.below (Nat.le_refl _) (fun k _ => (by decide : (0 : Nat) ≠ 1))⟩, hA, trivial⟩
theorem j_newY (h : J w Y V) (hY : St 1 Y) : J w (X2 (XS (V.heap.size + 1) []) Y) (newS V) := by
  obtain ⟨col, hl, hy⟩ := h
  obtain ⟨hA, hC⟩ := at_new (col := col) (c := 1) V hl.fr
  exact ⟨_, hl.go hC (by decide), hA, hY _ _ _ _ hC.2.2 hC.1 hy⟩
theorem st9 (hY : St 9 Y) : St 9 (X2 (XS t os) Y) := st_X2 (st_XS (by decide) (by decide)) hY
theorem j_lv {F : FuncId} {args : Array Value} {v : Value} (h : J w (X2 (XS t os) Y) V) (hY : St 1 Y)
    (hcall : ∀ col, Fresh col V → TabAt col 1 V t os → Calls Try.prog F args V (fun e w' => e = .returned v ∧ Lv col 1 t os' V w')) : Calls Try.prog F args V fun e w' => e = .returned v ∧ J w (X2 (XS t os') Y) w' := by
  obtain ⟨col, hl, hS, hy⟩ := h
  refine (hcall col hl.fr hS).mono ?_
  rintro e w' ⟨he, col', hC, hS'⟩
  exact ⟨he, col', hl.go hC (by decide), hS', hY _ _ _ _ hC.2.2 hC.1 hy⟩
theorem j_start (h : J w (X2 (XS t os) Y) V) (hY : St 1 Y) (hn : os.length ≤ 1000) {tx low : Int} (x0 : 0 ≤ tx) (x1 : tx < 18446744073709551616) (A : Option Addr) (c : Nat) (rs : List SR) (hr : Rd shS V A c rs) (hl : rs.length ≤ 1000) (hk : ∀ r ∈ rs, kSh V r) : Calls Try.prog 10 #[.pointer (some ⟨t, 0, none⟩), .int .u64 tx, .int .u64 low, .slice A rs.length c] V fun e w' =>
    e = .returned (.int .i64 (stE os tx (rs.map SR.s))) ∧ J w (X2 (XS t (stS os tx low (rs.map SR.s))) Y) w' :=
  j_lv h hY fun col hf hS => start_at V hS (by decide) hf hn x0 x1 A c rs hr hl hk
theorem j_vote (h : J w (X2 (XS t os) Y) V) (hY : St 1 Y) (hok : ok os) {tx n tt : Int} (x0 : 0 ≤ tx) (x1 : tx < 18446744073709551616) (n0 : -9223372036854775808 ≤ n) (n1 : n ≤ 9223372036854775807) (t0 : 0 ≤ tt) (t1 : tt < 18446744073709551616) : Calls Try.prog 13 #[.pointer (some ⟨t, 0, none⟩), .int .u64 tx, .int .i64 n, .int .u64 tt] V fun e w' =>
    e = .returned (.tuple #[.int .u64 (voT os tx n tt), .bool (voB os tx n tt), .int .i64 (voE os tx n tt)]) ∧ J w (X2 (XS t (voS os tx n tt)) Y) w' :=
  j_lv h hY fun col hf hS => vote_at V hS (by decide) hf hok x0 x1 n0 n1 t0 t1
theorem j_end (h : J w (X2 (XS t os) Y) V) (hY : St 1 Y) (hok : ok os) {tx n : Int} (x0 : 0 ≤ tx) (x1 : tx < 18446744073709551616) (n0 : -9223372036854775808 ≤ n) (n1 : n ≤ 9223372036854775807) : Calls Try.prog 15 #[.pointer (some ⟨t, 0, none⟩), .int .u64 tx, .int .i64 n] V fun e w' =>
    e = .returned (.tuple #[.bool (enB os tx n), .int .i64 (enE os tx n)]) ∧ J w (X2 (XS t (enS os tx n)) Y) w' :=
  j_lv h hY fun col hf hS => end_at V hS (by decide) hf hok x0 x1 n0 n1
theorem j_len (h : J w (X2 (XS t os) Y) V) : Calls Try.prog 19 #[.pointer (some ⟨t, 0, none⟩)] V fun e w' => e = .returned (.int .i64 (os.length : Int)) ∧ V = w' := by
  obtain ⟨col, hl, hS, hy⟩ := h
  exact len_at V hS
theorem j_touches (h : J w (X2 (XS t os) Y) V) (hY : St 9 Y) (hok : ok os) (hn : os.length ≤ 1000) (lo hi : ByteArray) : Calls Try.prog 23 #[.pointer (some ⟨t, 0, none⟩), .string lo, .string hi] V fun e w' => e = .returned (.bool (tcE os lo hi)) ∧ Below V.heap.size V w' := by
  obtain ⟨col, hl, hS, hy⟩ := h
  exact touches_at V hS (by decide) hl.fr hok hn lo hi
theorem j_writes (h : J w (X2 (XS t os) Y) V) (hok : ok os) {tx : Int} (x0 : 0 ≤ tx) (x1 : tx < 18446744073709551616) : Calls Try.prog 21 #[.pointer (some ⟨t, 0, none⟩), .int .u64 tx] V fun e w' => ∃ A c, e = .returned (.slice A (wrs os tx).length c) ∧ GV w' V.heap.size A c (wrs os tx) ∧ Below V.heap.size V w' := by
  obtain ⟨col, hl, hS, hy⟩ := h
  exact writes_at V hS hok x0 x1
theorem j_nodes (h : J w (X2 (XS t os) Y) V) (hok : ok os) {tx : Int} (x0 : 0 ≤ tx) (x1 : tx < 18446744073709551616) : Calls Try.prog 17 #[.pointer (some ⟨t, 0, none⟩), .int .u64 tx] V fun e w' => ∃ A c, e = .returned (.slice A (nos os tx).length c) ∧ coG.Own shI w' V.heap.size A c (nos os tx) ∧ Below V.heap.size V w' := by
  obtain ⟨col, hl, hS, hy⟩ := h
  exact nodes_at V hS hok x0 x1
end
theorem ok_nil : ok [] := ⟨List.nodup_nil, fun x hx => (by cases hx), fun x hx => (by cases hx)⟩
/-! ### awake -/
def awS : List SR := [⟨0, [], none, 0⟩, ⟨2, [], none, 0⟩]
def aw1 : Ens := stS [] 7 5 (awS.map SR.s)
def aw2 : Ens := voS aw1 7 0 9
theorem aw_ok : ok aw1 := ok_start ok_nil (by decide) (by decide) (by decide) (by decide) (by decide)
theorem aw_ok2 : ok aw2 := ok_vote aw_ok 0 (by decide)
theorem awake_any (w : World) : Calls Try.prog 25 #[] w fun e w' => e = .returned (.bool true) ∧ Below w.heap.size w w' := by
  have hnew := Lib.hid (new_any w)
  have hJ0 := j_new w
  obtain ⟨W1, hW1⟩ : ∃ W1, newS w = W1 := ⟨_, rfl⟩
  obtain ⟨t, ht⟩ : ∃ t, w.heap.size + 1 = t := ⟨_, rfl⟩
  rw [hW1, ht] at hnew hJ0
  obtain ⟨W2, hW2⟩ : ∃ W2, W1.alloc (.cells #[.int .i64 0, .slice none 0 0, .int .i64 2, .slice none 0 0] 61) = W2 := ⟨_, rfl⟩
  have hB2 : Below W1.heap.size W1 W2 := by rw [← hW2]; exact al0 _ _
  have hJ2 := hJ0.below (st9 (st_XT 9)) hB2
  have hrd : Rd shS W2 (some ⟨W1.heap.size, 0, none⟩) 2 awS := by
    refine ⟨.inr ⟨W1.heap.size, 0, rfl, by rw [← hW2]; simp, fun i j x u hx hu => ?_⟩, by decide, by decide⟩
    have h := fun (j : Nat) (u : Value) (hu : (#[.int .i64 0, .slice none 0 0, .int .i64 2, .slice none 0 0] : Array Value)[j]? = some u) => (cell_of_row _ _ j _ 61 (0, 0) (heap_alloc_new W1 (.cells #[.int .i64 0, .slice none 0 0, .int .i64 2, .slice none 0 0] 61))).trans hu
    rw [hW2] at h
    rw [Nat.zero_add]
    refine h _ _ ?_
    have hi : i < 2 := (List.getElem?_eq_some_iff.1 hx).1
    have hj : j < 2 := (List.getElem?_eq_some_iff.1 hu).1
    rcases (by omega : i = 0 ∨ i = 1) with rfl | rfl <;> rcases (by omega : j = 0 ∨ j = 1) with rfl | rfl <;>
      (simp only [awS, List.getElem?_cons_zero, List.getElem?_cons_succ, Option.some.injEq] at hx; subst hx; exact hu)
  have hk : ∀ r ∈ awS, kSh W2 r := by
    intro r hr
    simp only [awS, List.mem_cons, List.not_mem_nil, or_false] at hr
    rcases hr with rfl | rfl
    · exact ⟨by decide, (GV.nil_ W2 0).hv (by simp), fun v hv => by cases hv⟩
    · exact ⟨by decide, (GV.nil_ W2 0).hv (by simp), fun v hv => by cases hv⟩
  have hst := Lib.hid (show Calls Try.prog 10 #[.pointer (some ⟨t, 0, none⟩), .int .u64 7, .int .u64 5, .slice (some ⟨W1.heap.size, 0, none⟩) 2 2] W2 fun e w' => e = .returned (.int .i64 0) ∧ J w (X2 (XS t aw1) XT) w' from j_start hJ2 (st_XT 1) (by decide) (tx := 7) (low := 5) (by decide) (by decide) _ 2 awS hrd (by decide) hk)
  have hv1 := Lib.hid (fun V (hV : J w (X2 (XS t aw1) XT) V) => (show Calls Try.prog 13 #[.pointer (some ⟨t, 0, none⟩), .int .u64 7, .int .i64 0, .int .u64 9] V fun e w' => e = .returned (.tuple #[.int .u64 0, .bool false, .int .i64 0]) ∧ J w (X2 (XS t aw2) XT) w' from j_vote hV (st_XT 1) aw_ok (tx := 7) (n := 0) (tt := 9) (by decide) (by decide) (by decide) (by decide) (by decide) (by decide)))
  have hv2 := Lib.hid (fun V (hV : J w (X2 (XS t aw2) XT) V) => (show Calls Try.prog 13 #[.pointer (some ⟨t, 0, none⟩), .int .u64 7, .int .i64 2, .int .u64 6] V fun e w' => e = .returned (.tuple #[.int .u64 9, .bool true, .int .i64 0]) ∧ J w (X2 (XS t (voS aw2 7 2 6)) XT) w' from j_vote hV (st_XT 1) aw_ok2 (tx := 7) (n := 2) (tt := 6) (by decide) (by decide) (by decide) (by decide) (by decide) (by decide)))
  replace hW2 := Lib.hid hW2
  clear hJ0 hJ2 hrd hk hB2 hW1 ht
  go_enter Try.func25, Try.ntmps25
  go_wp2_with (fail)
  with_reducible refine hnew.out.mono ?_
  rintro e w1 ⟨rfl, rfl⟩
  clear hnew
  go_wp2_with (fail)
  rw [hW2.out]
  with_reducible refine hst.out.mono ?_
  rintro e w2 ⟨rfl, hJ3⟩
  have hv1' := Lib.hid (hv1.out _ hJ3)
  clear hst hJ3 hv1 hW2
  go_wp2_with (fail)
  with_reducible refine hv1'.out.mono ?_
  rintro e w3 ⟨rfl, hJ4⟩
  have hv2' := Lib.hid (hv2.out _ hJ4)
  clear hv1' hJ4 hv2
  go_wp2_with (fail)
  with_reducible refine hv2'.out.mono ?_
  rintro e w4 ⟨rfl, hJ5⟩
  have hfin := Lib.hid hJ5.bel
  clear hv2' hJ5
  go_wp2
  go_ret
  exact ⟨rfl, hfin.out⟩
end Go.Proofs.Ytafocefbpkcoaaa.coJ
