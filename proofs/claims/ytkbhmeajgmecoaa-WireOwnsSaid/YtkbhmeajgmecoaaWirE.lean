/- The small parts of bodies: numbers of a fixed width, texts, the byte for Gone, in the program and in the document's own answer. -/
import Derived.Test.YtkbhmeajgmecoaaWirD
import Derived.Lib.ConvBytes
namespace Go.Proofs.Ytkbhmeajgmecoaa.wirE
open Go.ChangeShapes Go.WideShapes Go.ChangeAt Go.RowKit
open numM numN rowA byt numA numB numC numD numE wirM wirA wirD

/-- A slice that holds bytes, and lies not in block x. -/
def PB (x : Option Nat) (w : World) (v : Value) (l : List Nat) : Prop := ∃ A m c, v = .slice A m c ∧ BL w A m l ∧ ∀ y, A = some y → some y.block ≠ x ∧ y.block < w.heap.size
theorem PB.kept {x z : Option Nat} {w w1 : World} {v : Value} {l : List Nat} (h : PB x w v l) (hg : w.grownBy w1 z) (hz : z = x ∨ ∀ k, z = some k → w.heap.size ≤ k) : PB x w1 v l := by
  obtain ⟨A, m, c, rfl, hb, hy⟩ := h
  refine ⟨A, m, c, rfl, BL.kept hb hg (fun y e => ?_), fun y e => ⟨(hy y e).1, by have := (hy y e).2; have := hg.size; omega⟩⟩
  rcases hz with rfl | hz
  · exact (hy y e).1
  · intro e2; have := hz _ e2.symm; have := (hy y e).2; omega
theorem PB.below {x : Option Nat} {w w1 : World} {v : Value} {l : List Nat} (h : PB x w v l) (hB : Below w.heap.size w w1) : PB x w1 v l := h.kept (below_grown0 hB none) (.inr fun k e => by cases e)
theorem PB.alloc {x : Option Nat} {w : World} {v : Value} {l : List Nat} (h : PB x w v l) (o : Obj) : PB x (w.alloc o) v l := h.below ((Below.refl _ _).alloc (Nat.le_refl _) o)
theorem PB.of_own {x : Option Nat} {w : World} {B n c : Nat} {A : Option Addr} {l : List Nat} (h : Own w B (.slice A n c) n l) (hx : ∀ k, x = some k → k < B) : PB x w (.slice A n c) l := by
  refine ⟨A, n, c, rfl, own_bl h, ?_⟩
  rintro y rfl
  have := h.2.2.2.lt y.block rfl
  exact ⟨fun e => by have := hx _ e.symm; omega, this.2⟩
theorem PB.weak {x : Option Nat} {w : World} {v : Value} {l : List Nat} (h : PB x w v l) : PB none w v l := by
  obtain ⟨A, m, c, rfl, hb, hy⟩ := h
  exact ⟨A, m, c, rfl, hb, fun y e => ⟨by simp, (hy y e).2⟩⟩
/-- Slices that hold bytes, one behind the other. -/
def PBs (x : Option Nat) (w : World) : List Value → List (List Nat) → Prop
  | [], [] => True
  | v :: vs, l :: ls => PB x w v l ∧ PBs x w vs ls
  | _, _ => False
theorem PBs.len {x : Option Nat} {w : World} : ∀ {vs : List Value} {ls : List (List Nat)}, PBs x w vs ls → vs.length = ls.length
  | [], [], _ => rfl
  | _ :: _, _ :: _, h => by rw [List.length_cons, List.length_cons, PBs.len h.2]
  | [], _ :: _, h => h.elim
  | _ :: _, [], h => h.elim
theorem PBs.kept {x z : Option Nat} {w w1 : World} (hg : w.grownBy w1 z) (hz : z = x ∨ ∀ k, z = some k → w.heap.size ≤ k) : ∀ {vs : List Value} {ls : List (List Nat)}, PBs x w vs ls → PBs x w1 vs ls
  | [], [], _ => trivial
  | _ :: _, _ :: _, h => ⟨h.1.kept hg hz, PBs.kept hg hz h.2⟩
  | [], _ :: _, h => h.elim
  | _ :: _, [], h => h.elim
theorem PBs.get {x : Option Nat} {w : World} : ∀ {vs : List Value} {ls : List (List Nat)} {i : Nat}, PBs x w vs ls → i < vs.length → ∃ v, vs[i]? = some v ∧ PB x w v (lth ls i)
  | v :: _, _ :: _, 0, h, _ => ⟨v, rfl, h.1⟩
  | _ :: vs, l :: ls, i + 1, h, hi => by
    obtain ⟨u, hu, hp⟩ := PBs.get (i := i) h.2 (by simpa using hi)
    exact ⟨u, by simpa using hu, hp⟩
  | [], _, _, _, hi => by simp at hi
  | _ :: _, [], _, h, _ => h.elim
/-- A row of slices of bytes that is laid new. -/
theorem Lst.lit {x : Option Nat} {w : World} {vs : List Value} {ls : List (List Nat)} (h : PBs x w vs ls) (hx : ∀ k, x = some k → k < w.heap.size) (hn : vs.length ≤ 1000) (T : TypeId) (n : Nat) (hnn : n = vs.length) :
    Lst x (w.alloc (.cells vs.toArray T)) (some ⟨w.heap.size, 0, none⟩) n ls := by
  subst hnn
  refine ⟨h.len.symm, by omega, fun i hi => ?_⟩
  obtain ⟨v, hv, A, m, c, rfl, hb, hy⟩ := h.get hi
  refine ⟨w.heap.size, 0, A, m, c, rfl, by simp, fun e => by have := hx _ e.symm; omega, ?_, hb.below ((Below.refl _ _).alloc (Nat.le_refl _) _), fun y e => (hy y e).1, fun y e => by have := (hy y e).2; simp; omega⟩
  rw [cell_of_row _ _ _ _ _ _ (heap_alloc_new w _)]
  simpa using hv

/-! ### []byte(s) -/
theorem wpList_conv {P : Program} {w : World} {ops : Array Oper} {rest : List Oper} {o : Oper} {a : Act} {Q : Exit → Act → World → Prop} (hgd : o.guard = none) (x : Operand) (src dst e : TypeId)
    (ho : o.op = .convert src dst x) (hs : P.underlying src = some .string) (hd : P.underlying dst = some (.slice e)) (he : P.underlying e = some (.int .u8)) (s : ByteArray) (hx : a.eval x = .string s) (hsz : s.size ≤ 9223372036854775807)
    (h : ∀ A c w', PB none w' (.slice A s.size c) (sl s) → Below w.heap.size w w' → w.heap.size < w'.heap.size → (∀ y, A = some y → w.heap.size ≤ y.block) → wpList P ops Q rest (a.put o.dst (.slice A s.size c)) w') : wpList P ops Q (o :: rest) a w := by
  refine wpList_plain hgd fun K hK => ?_
  unfold Oper.wp execOp
  simp only [ho, hx, Lib.run_convert_string_bytes w src dst e s hs hd he, Sem.run_bind, Sem.run_pure, Result.andThen_ok]
  refine hK _ _ (h _ _ _ ⟨_, _, _, rfl, ⟨sl_len s, hsz, sl_lt s, .inr ⟨w.heap.size, 0, rfl, by rw [Lib.bytesWorld_size]; omega, fun i hi => ?_⟩⟩, ?_⟩ ?_ (by rw [Lib.bytesWorld_size]; omega) ?_)
  · rw [Nat.zero_add, Lib.bytesWorld_cell w e s i hi]
    unfold nth sl
    congr 2
    rw [List.getD_eq_getElem?_getD, List.getD_eq_getElem?_getD, List.getElem?_map]
    have hl : i < s.data.toList.length := by rw [Array.length_toList]; exact hi
    rw [List.getElem?_eq_getElem hl]; rfl
  · rintro y e; cases e
    exact ⟨by simp, by rw [Lib.bytesWorld_size]; simp⟩
  · exact ⟨rfl, rfl, rfl, by rw [Lib.bytesWorld_size]; omega, fun k hk => Lib.bytesWorld_at_old w e s k hk⟩
  · rintro y e; cases e; exact Nat.le_refl _

/-! ### Numbers of a fixed width -/
set_option maxRecDepth 100000 in
theorem wide_any (n k : Nat) (w : World) (h1 : 1 ≤ k) (h8 : k ≤ 8) (hn : n < 256 ^ k) :
    Calls Try.prog 44 #[.int .u64 n, .int .i64 k] w (Makes w (fx k n)) := by
  replace hn := Lib.hid hn
  go_enter Try.func44, Try.ntmps44
  go_wp2_with (fail)
  refine (fixed_ok n k _ h1 h8 hn.out).mono ?_
  rintro e w1 ⟨A, cap, rfl, ho, hB⟩
  go_wp2
  go_ret
  exact ⟨A, cap, rfl, ho, hB⟩
set_option maxRecDepth 100000 in
theorem rwide_any (n k : Nat) (w : World) (h1 : 1 ≤ k) (h8 : k ≤ 8) (hn : n < 256 ^ k) :
    Calls Try.prog 55 #[.int .u64 n, .int .i64 k] w (Makes w (fx k n)) := by
  have hn2 : n < 18446744073709551616 := Nat.lt_of_lt_of_le hn (pow_le8 h8)
  replace hn := Lib.hid hn
  replace hn2 := Lib.hid hn2
  go_enter Try.func55, Try.ntmps55
  go_wp2_with (fail)
  refine (rfixed n k _ h1 h8 hn2.out).mono ?_
  rintro e w1 ⟨hA, -⟩
  obtain ⟨A, cap, rfl, ho, hB⟩ := hA hn.out
  go_wp2
  go_ret
  exact ⟨A, cap, rfl, ho, hB⟩

/-! ### Texts -/
theorem sz256 {s : ByteArray} (h : s.size ≤ 64) : s.size < 256 ^ 1 := by omega
theorem joined2 (l1 l2 : List Nat) : [l1, l2].flatten = l1 ++ l2 := by simp
theorem below_of {w w1 w2 : World} (h1 : Below w.heap.size w w1) (h2 : Below w1.heap.size w1 w2) : Below w.heap.size w w2 := trans0 h1 h2
theorem alloc_below (w : World) (o : Obj) : Below w.heap.size w (w.alloc o) := (Below.refl _ _).alloc (Nat.le_refl _) o
set_option maxRecDepth 100000 in
theorem etext_any (s : ByteArray) (w : World) (hs : s.size ≤ 64) :
    Calls Try.prog 45 #[.string s] w (Makes w (tx1 s)) := by
  go_enter Try.func45, Try.ntmps45
  go_wp2_with (fail)
  refine (wide_any s.size 1 _ (by decide) (by decide) (sz256 hs)).mono ?_
  rintro e w1 ⟨A1, c1, rfl, ho1, hB1⟩
  replace ho1 := Lib.hid ho1
  replace hB1 := Lib.hid hB1
  go_wp2_with (refine wpList_conv rfl _ 9 31 5 rfl Try.underlying9 Try.underlying31 Try.underlying5 s rfl (by omega) ?_)
  intro A2 c2 w2 hp2 hB2 hlt2 _
  have hl : PBs none w2 [.slice A1 (fx 1 s.size).length c1, .slice A2 s.size c2] [fx 1 s.size, sl s] := ⟨(PB.of_own ho1.out (by intro k e; cases e)).below hB2, hp2, trivial⟩
  have hj := joined_any none (some ⟨w2.heap.size, 0, none⟩) 2 2 [fx 1 s.size, sl s] _ (Lst.lit hl (by intro k e; cases e) (by simp) 31 2 rfl) (by rw [joined2, List.length_append, fx_len, sl_len]; omega)
  rw [joined2, show fx 1 s.size ++ sl s = tx1 s from rfl] at hj
  replace hj := Lib.hid hj
  have hB := Lib.hid (trans0 hB1.out hB2)
  clear hl hp2 hB2
  go_wp2_with (fail)
  refine hj.out.mono ?_
  rintro e w3 ⟨A3, c3, rfl, ho3, hB3⟩
  go_wp2
  go_ret
  exact Makes.of rfl (Own.more (base' := w.heap.size) ho3 (by have := hB.out.size; simp; omega)) (trans0 (trans0 hB.out (alloc_below _ _)) hB3)

theorem flat1 (l : List Nat) : [l].flatten = l := by simp
theorem own_lt {w : World} {B n : Nat} {v : Value} {l : List Nat} (h : Own w B v n l) : ∀ k, v.ownBlock = some k → B ≤ k ∧ k < w.heap.size := h.2.2.2.lt
theorem PB.other {x : Option Nat} {w : World} {A : Option Addr} {n c : Nat} {l : List Nat} (h : PB none w (.slice A n c) l) (hy : ∀ y, A = some y → some y.block ≠ x) : PB x w (.slice A n c) l := by
  obtain ⟨A', m', c', e0, hb, h2⟩ := h
  cases e0
  exact ⟨A, n, c, rfl, hb, fun y e => ⟨hy y e, (h2 y e).2⟩⟩
theorem own_kept {w w1 : World} {B n : Nat} {v : Value} {l : List Nat} (h : Own w B v n l) (hb : Below w.heap.size w w1) : Own w1 B v n l := h.below hb (Nat.le_refl _)
/-- put behind a number, of one text -/
theorem grown_trans0 {w w1 w2 : World} {v : Value} {n : Nat} {l : List Nat} (hB : Below w.heap.size w w1) (ho : Own w1 w.heap.size v n l) (hg : w1.grownBy w2 v.ownBlock) : Below w.heap.size w w2 :=
  hB.grown hg hB.size fun k e => (own_lt ho k e).1
set_option maxRecDepth 100000 in
theorem one_any (s : ByteArray) (w : World) (hs : s.size ≤ 64) :
    Calls Try.prog 56 #[.string s] w (Makes w (tx1 s)) := by
  go_enter Try.func56, Try.ntmps56
  go_wp2_with (fail)
  refine (rwide_any s.size 1 _ (by decide) (by decide) (sz256 hs)).mono ?_
  rintro e w1 ⟨A1, c1, rfl, ho1, hB1⟩
  replace ho1 := Lib.hid ho1
  replace hB1 := Lib.hid hB1
  go_wp2_with (refine wpList_conv rfl _ 9 31 5 rfl Try.underlying9 Try.underlying31 Try.underlying5 s rfl (by omega) ?_)
  intro A2 c2 w2 hp2 hB2 hlt2 hy2
  have hx : ∀ k, (Value.slice A1 (fx 1 s.size).length c1).ownBlock = some k → k < w2.heap.size := fun k e => by have := (own_lt ho1.out k e).2; omega
  have hl : PBs (Value.slice A1 (fx 1 s.size).length c1).ownBlock w2 [.slice A2 s.size c2] [sl s] :=
    ⟨hp2.other (fun y e e2 => by have := (own_lt ho1.out _ e2.symm).2; have := hy2 y e; omega), trivial⟩
  have hj := put_any w.heap.size (.slice A1 (fx 1 s.size).length c1) _ (fx 1 s.size) (some ⟨w2.heap.size, 0, none⟩) 1 1 [sl s] _ ((own_kept ho1.out hB2).alloc _) (by have := hB1.out.size; have := hB2.size; simp; omega) (Lst.lit hl hx (by simp) 31 1 rfl)
    (by rw [flat1, fx_len, sl_len]; omega)
  rw [flat1, show fx 1 s.size ++ sl s = tx1 s from rfl] at hj
  replace hj := Lib.hid hj
  have hB := Lib.hid (trans0 hB1.out hB2)
  have ho2 := Lib.hid ((own_kept ho1.out hB2).alloc (.cells #[.slice A2 s.size c2] 31))
  clear hl hp2 hB2 hx
  go_wp2_with (fail)
  refine hj.out.mono ?_
  rintro e w3 ⟨A3, c3, rfl, ho3, hg3, -⟩
  go_wp2
  go_ret
  exact Makes.of rfl ho3 (grown_trans0 (trans0 hB.out (alloc_below _ _)) ho2.out hg3)
set_option maxRecDepth 100000 in
theorem text2_any (s : ByteArray) (w : World) (hs : s.size ≤ 64) :
    Calls Try.prog 59 #[.string s] w (Makes w (tx s)) := by
  have hu := uv_len10 (show s.size < 18446744073709551616 by omega)
  go_enter Try.func59, Try.ntmps59
  go_wp2_with (fail)
  refine (ruvar_any s.size _ (by omega)).mono ?_
  rintro e w1 ⟨A1, c1, rfl, ho1, hB1⟩
  replace ho1 := Lib.hid ho1
  replace hB1 := Lib.hid hB1
  go_wp2_with (refine wpList_conv rfl _ 9 31 5 rfl Try.underlying9 Try.underlying31 Try.underlying5 s rfl (by omega) ?_)
  intro A2 c2 w2 hp2 hB2 hlt2 hy2
  have hx : ∀ k, (Value.slice A1 (uv s.size).length c1).ownBlock = some k → k < w2.heap.size := fun k e => by have := (own_lt ho1.out k e).2; omega
  have hl : PBs (Value.slice A1 (uv s.size).length c1).ownBlock w2 [.slice A2 s.size c2] [sl s] :=
    ⟨hp2.other (fun y e e2 => by have := (own_lt ho1.out _ e2.symm).2; have := hy2 y e; omega), trivial⟩
  have hj := put_any w.heap.size (.slice A1 (uv s.size).length c1) _ (uv s.size) (some ⟨w2.heap.size, 0, none⟩) 1 1 [sl s] _ ((own_kept ho1.out hB2).alloc _) (by have := hB1.out.size; have := hB2.size; simp; omega) (Lst.lit hl hx (by simp) 31 1 rfl)
    (by rw [flat1, sl_len]; omega)
  rw [flat1, show uv s.size ++ sl s = tx s from rfl] at hj
  replace hj := Lib.hid hj
  have hB := Lib.hid (trans0 hB1.out hB2)
  have ho2 := Lib.hid ((own_kept ho1.out hB2).alloc (.cells #[.slice A2 s.size c2] 31))
  clear hl hp2 hB2 hx
  go_wp2_with (fail)
  refine hj.out.mono ?_
  rintro e w3 ⟨A3, c3, rfl, ho3, hg3, -⟩
  go_wp2
  go_ret
  exact Makes.of rfl ho3 (grown_trans0 (trans0 hB.out (alloc_below _ _)) ho2.out hg3)
set_option maxRecDepth 100000 in
theorem ntext_any (s : ByteArray) (w : World) (hs : s.size ≤ 64) :
    Calls Try.prog 80 #[.string s] w (Makes w (tx s)) := by
  go_enter Try.func80, Try.ntmps80
  go_wp2_with (fail)
  refine (text_ok s s.size _ (Int.le_refl _) (by omega)).mono ?_
  rintro e w1 ⟨A, cap, rfl, ho, hB⟩
  go_wp2
  go_ret
  exact ⟨A, cap, rfl, ho, hB⟩

/-! ### The byte for Gone -/
theorem gone_any (g : Bool) (w : World) : Calls Try.prog 78 #[.bool g] w (Makes w (gb g)) := by
  have h1 := Lib.hid (Own.made w w.heap.size (Nat.le_refl _) [1] (by simp) (by simp) #[.int .u8 1] rfl)
  have h0 := Lib.hid (Own.made w w.heap.size (Nat.le_refl _) [0] (by simp) (by simp) #[.int .u8 0] rfl)
  cases g
  all_goals
    go_enter Try.func78, Try.ntmps78
    go_wp2
    go_ret
    first | exact Makes.of rfl h1.out (alloc_below _ _) | exact Makes.of rfl h0.out (alloc_below _ _)
set_option maxRecDepth 100000 in
theorem rgone_any (v : Vr) (w : World) : Calls Try.prog 57 #[.agg (cv v)] w (Makes w (gb v.gone)) := by
  obtain ⟨key, val, g, ts, dc, tx⟩ := v
  have h1 := (Own.made (w.alloc (.cells (cv ⟨key, val, g, ts, dc, tx⟩) 51)) w.heap.size (by simp) [1] (by simp) (by simp) #[.int .u8 1] rfl)
  have h0 := (Own.made (w.alloc (.cells (cv ⟨key, val, g, ts, dc, tx⟩) 51)) w.heap.size (by simp) [0] (by simp) (by simp) #[.int .u8 0] rfl)
  rw [show (w.alloc (.cells (cv ⟨key, val, g, ts, dc, tx⟩) 51)).heap.size = w.heap.size + 1 from by simp] at h0 h1
  replace h0 := Lib.hid h0
  replace h1 := Lib.hid h1
  cases g
  all_goals
    go_enter Try.func57, Try.ntmps57
    go_wp2
    go_ret
    first | exact Makes.of rfl h1.out (trans0 (alloc_below _ _) (alloc_below _ _)) | exact Makes.of rfl h0.out (trans0 (alloc_below _ _) (alloc_below _ _))

/-! ### Numbers of the widths that bodies have -/
theorem wide1 (n : Nat) (w : World) (hn : n < 256) : Calls Try.prog 44 #[.int .u64 n, .int .i64 1] w (Makes w (fx 1 n)) := wide_any n 1 w (by decide) (by decide) (by simpa using hn)
theorem wide2 (n : Nat) (w : World) (hn : n < 65536) : Calls Try.prog 44 #[.int .u64 n, .int .i64 2] w (Makes w (fx 2 n)) := wide_any n 2 w (by decide) (by decide) (by simpa using hn)
theorem wide4 (n : Nat) (w : World) (hn : n < 4294967296) : Calls Try.prog 44 #[.int .u64 n, .int .i64 4] w (Makes w (fx 4 n)) := wide_any n 4 w (by decide) (by decide) (by simpa using hn)
theorem wide8 (n : Nat) (w : World) (hn : n < 18446744073709551616) : Calls Try.prog 44 #[.int .u64 n, .int .i64 8] w (Makes w (fx 8 n)) := wide_any n 8 w (by decide) (by decide) (by simpa using hn)
theorem rwide1 (n : Nat) (w : World) (hn : n < 256) : Calls Try.prog 55 #[.int .u64 n, .int .i64 1] w (Makes w (fx 1 n)) := rwide_any n 1 w (by decide) (by decide) (by simpa using hn)
theorem rwide2 (n : Nat) (w : World) (hn : n < 65536) : Calls Try.prog 55 #[.int .u64 n, .int .i64 2] w (Makes w (fx 2 n)) := rwide_any n 2 w (by decide) (by decide) (by simpa using hn)
theorem rwide4 (n : Nat) (w : World) (hn : n < 4294967296) : Calls Try.prog 55 #[.int .u64 n, .int .i64 4] w (Makes w (fx 4 n)) := rwide_any n 4 w (by decide) (by decide) (by simpa using hn)
theorem rwide8 (n : Nat) (w : World) (hn : n < 18446744073709551616) : Calls Try.prog 55 #[.int .u64 n, .int .i64 8] w (Makes w (fx 8 n)) := rwide_any n 8 w (by decide) (by decide) (by simpa using hn)
theorem wide1i (x : Int) (w : World) (h0 : 0 ≤ x) (h1 : x < 256) : Calls Try.prog 44 #[.int .u64 x, .int .i64 1] w (Makes w (fx 1 x.toNat)) := by
  obtain ⟨n, rfl⟩ := Int.eq_ofNat_of_zero_le h0
  exact wide1 n w (by omega)
theorem rwide1i (x : Int) (w : World) (h0 : 0 ≤ x) (h1 : x < 256) : Calls Try.prog 55 #[.int .u64 x, .int .i64 1] w (Makes w (fx 1 x.toNat)) := by
  obtain ⟨n, rfl⟩ := Int.eq_ofNat_of_zero_le h0
  exact rwide1 n w (by omega)
theorem uvar_i (x : Int) (w : World) (h0 : 0 ≤ x) (h1 : x < 18446744073709551616) : Calls Try.prog 79 #[.int .u64 x] w (Makes w (uv x.toNat)) := by
  obtain ⟨n, rfl⟩ := Int.eq_ofNat_of_zero_le h0
  exact uvar_any n w (by omega)
theorem ruvar_i (x : Int) (w : World) (h0 : 0 ≤ x) (h1 : x < 18446744073709551616) : Calls Try.prog 58 #[.int .u64 x] w (Makes w (uv x.toNat)) := by
  obtain ⟨n, rfl⟩ := Int.eq_ofNat_of_zero_le h0
  exact ruvar_any n w (by omega)
theorem wrap64i (x : Int) (h0 : 0 ≤ x) (h1 : x < 18446744073709551616) : IntKind.u64.wrap x = x := by
  rw [IntKind.wrap_u64]; exact Int.emod_eq_of_lt h0 h1
end Go.Proofs.Ytkbhmeajgmecoaa.wirE
