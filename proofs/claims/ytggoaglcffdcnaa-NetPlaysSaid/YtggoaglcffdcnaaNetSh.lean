/- One net and one document through many calls; what the range over Ways keeps. -/
import Derived.Test.YtggoaglcffdcnaaNetSf
import Derived.Test.YtggoaglcffdcnaaNetSg
namespace Go.Proofs.Ytggoaglcffdcnaa.netSh
open Go.ChangeShapes Go.WideShapes Go.ChangeAt Go.RowKit Go.Deep Go.Shelf
open numM rowA byt numA numB numC opn netA netB netC netD netE netG netS netT netK netL netP netQ netR netRa netRb netRc netRd netRe netW netSa netX netSb netSc netSd netSe netSf netSg

def PP (W0 : World) (col0 : Nat → Nat) (p q : Nat) (wx : World) (s : Ns) (dn : Dn) : Prop :=
  ∃ col, Ext W0 col0 col ∧ Cg (fun k => col0 k ≠ 0) W0 wx ∧ NetAt col 1 wx p s ∧ DocAt col 2 wx q dn
def PX (W0 : World) (col0 : Nat → Nat) (p q : Nat) (wx : World) (s : Ns) (dn : Dn) (o : Nat) (x : XO) : Prop :=
  ∃ col, Ext W0 col0 col ∧ Cg (fun k => col0 k ≠ 0) W0 wx ∧ NetAt col 1 wx p s ∧ DocAt col 2 wx q dn ∧ col o = 0 ∧ o < wx.heap.size ∧ OB wx o x.m x.A x.c
abbrev SB (o : Nat) (x : XO) (W : World) : Prop :=
  W.cell? ⟨o, 0, none⟩ = some (.int .i64 x.m.kind) ∧ W.cell? ⟨o, 1, none⟩ = some (.int .i64 x.m.from_) ∧ W.cell? ⟨o, 2, none⟩ = some (.int .i64 x.m.to_) ∧ W.cell? ⟨o, 3, none⟩ = some (.int .i64 x.m.i) ∧
  W.cell? ⟨o, 4, none⟩ = some (.int .i64 x.m.at_) ∧ W.cell? ⟨o, 5, none⟩ = some (.int .u8 x.m.mask) ∧ W.cell? ⟨o, 6, none⟩ = some (.slice x.A x.m.body.length x.c)
theorem cnt_bad {s : Ns} {dn : Dn} {f t : Int} (h : Rel s dn) (hw : ¬ IsWay f t) : cnt f t dn.row = 0 := by
  unfold cnt
  rw [List.length_eq_zero_iff, List.filter_eq_nil_iff]
  intro x hx hm
  have := h.ok x hx
  rw [mt_iff] at hm
  exact hw (by unfold IsWay; omega)
theorem cnt_len {s : Ns} {dn : Dn} (f t : Int) (h : Rel s dn) : cnt f t dn.row = lenS s f t := by
  unfold lenS
  by_cases hw : IsWay f t
  · rw [if_pos hw, h.len hw]
  · rw [if_neg hw]; exact cnt_bad h hw
theorem wsF_congr {len len' : Nat → Nat} : ∀ m n, (∀ k, k < n + m → len k = len' k) → wsF len m n = wsF len' m n
  | 0, _, _ => rfl
  | m + 1, n, h => by
    show (if len n = 0 then wsF len m (n + 1) else (n / 21, n % 21) :: wsF len m (n + 1)) = (if len' n = 0 then wsF len' m (n + 1) else (n / 21, n % 21) :: wsF len' m (n + 1))
    rw [h n (by omega), wsF_congr m (n + 1) (fun k hk => h k (by omega))]
theorem ways_same {s : Ns} {dn : Dn} (h : Rel s dn) : wsn (lnD dn) 0 = wsn (fun k => (s.row k).length) 0 := by
  unfold wsn
  refine wsF_congr 441 0 fun k hk => ?_
  unfold lnD
  rw [← wayOf_len, ← h.row (k / 21) (k % 21) (by omega) (by omega)]
  show _ = (s.row k).length
  rw [show k / 21 * 21 + k % 21 = k by omega]
section
variable {w W0 wx w' : World} {col0 : Nat → Nat} {p q o : Nat} {s : Ns} {dn : Dn} {x : XO}
theorem PP.below (h : PP W0 col0 p q wx s dn) (hB : Below wx.heap.size wx w') : PP W0 col0 p q w' s dn := by
  obtain ⟨col, h1, h2, h3, h4⟩ := h
  exact ⟨col, h1, h2.then hB, h3.below hB, h4.below hB⟩
theorem PX.below (h : PX W0 col0 p q wx s dn o x) (hB : Below wx.heap.size wx w') : PX W0 col0 p q w' s dn o x := by
  obtain ⟨col, h1, h2, h3, h4, h5, h6, h7⟩ := h
  exact ⟨col, h1, h2.then hB, h3.below hB, h4.below hB, h5, Nat.lt_of_lt_of_le h6 hB.size, h7.below hB⟩
theorem PX.pp (h : PX W0 col0 p q wx s dn o x) : PP W0 col0 p q wx s dn := by
  obtain ⟨col, h1, h2, h3, h4, -⟩ := h
  exact ⟨col, h1, h2, h3, h4⟩
theorem PX.ob (h : PX W0 col0 p q wx s dn o x) : SB o x wx := by
  obtain ⟨col, h1, h2, h3, h4, h5, h6, h7⟩ := h
  exact h7
theorem PP.kept (h : PP W0 col0 p q wx s dn) {k : Nat} (hk : k < W0.heap.size) (h0 : col0 k = 0) : wx.heap[k]? = W0.heap[k]? := by
  obtain ⟨col, h1, h2, -⟩ := h
  exact h2.block k hk fun e => e h0
theorem PP.base (hb : Base w W0 col0) (h : PP W0 col0 p q wx s dn) : Below w.heap.size w wx := by
  obtain ⟨col, h1, h2, -⟩ := h
  have h3 : Below w.heap.size W0 wx := h2.below hb.below.size fun k hk e => e (hb.old k hk)
  exact hb.below.trans h3
theorem PP.size (h : PP W0 col0 p q wx s dn) : W0.heap.size ≤ wx.heap.size := by
  obtain ⟨col, h1, h2, -⟩ := h
  exact h2.size
theorem PP.box (h : PP W0 col0 p q wx s dn) (x : XO) : PX W0 col0 p q (wx.alloc (.cells #[.int .i64 x.m.kind, .int .i64 x.m.from_, .int .i64 x.m.to_, .int .i64 x.m.i, .int .i64 x.m.at_, .int .u8 x.m.mask, .slice x.A x.m.body.length x.c] 32)) s dn wx.heap.size x := by
  obtain ⟨col, h1, h2, h3, h4⟩ := h
  have hB := al0 wx (.cells #[.int .i64 x.m.kind, .int .i64 x.m.from_, .int .i64 x.m.to_, .int .i64 x.m.i, .int .i64 x.m.at_, .int .u8 x.m.mask, .slice x.A x.m.body.length x.c] 32)
  have he := rec_ext col wx 0
  exact ⟨recol col wx 0, h1.trans h2.size he, h2.then hB, (h3.ext he).below hB, (h4.ext he).below hB, rec_new (Nat.le_refl _), by simp, OB.new wx x.m x.A x.c⟩
theorem PX.do (hb : Base w W0 col0) (h : PX W0 col0 p q wx s dn o x) (ho : OKx w x) (hr : Rel s dn) (hl : s.lost < 1000000) (hn : dn.row.length < 100000) :
    ∃ dn', Rel (stepS x.m s) dn' ∧ dn'.row.length ≤ dn.row.length + 1 ∧
      Calls Try.prog 10 #[.pointer (some ⟨p, 0, none⟩), .pointer (some ⟨q, 0, none⟩), .agg (netO.cOp x.m x.A x.c)] wx
        fun e w' => e = .returned (.bool true) ∧ PX W0 col0 p q w' (stepS x.m s) dn' o x := by
  have hbel := PP.base hb (PX.pp h)
  obtain ⟨col, h1, h2, h3, h4, h5, h6, h7⟩ := h
  have hR : Ready col 1 2 p q wx s dn x.m x.A x.c :=
    ⟨by decide, by decide, by decide, hr, hl, hn, by have := ho.2; omega, kop_below ho.1 hbel, (kop_a0 ho.1).imp id fun hz z e => by
      have hz1 := hz z e
      have hz2 := hbel.size
      have hz3 := hb.below.size
      exact ⟨by omega, (h1 _ (by omega)).trans (hb.old _ hz1)⟩, h3, h4⟩
  obtain ⟨dn', g1, g2, g3⟩ := do_any x.m x.A x.c hR
  refine ⟨dn', g1, g2, g3.mono ?_⟩
  rintro e w' ⟨rfl, col', q1, q2, q3, q4⟩
  have hblk := q2.block o h6 (fun e => by omega)
  have kk := fun i => World.cell?_of_block (a := ⟨o, i, none⟩) hblk
  obtain ⟨a0, a1, a2, a3, a4, a5, a6⟩ := h7
  exact ⟨rfl, col', h1.trans h2.size q1, h2.trans q2 (fun k hk e => by rw [h1 k hk] at e; omega), q3, q4, (q1 o h6).trans h5, Nat.lt_of_lt_of_le h6 q2.size, (kk 0).trans a0, (kk 1).trans a1, (kk 2).trans a2, (kk 3).trans a3, (kk 4).trans a4, (kk 5).trans a5, (kk 6).trans a6⟩
/-- what is asked behind each call -/
theorem PX.after (h : PX W0 col0 p q wx s dn o x) (hr : Rel s dn) (f t : Int) : wx.cell? ⟨q, 1, none⟩ = some (.int .i64 s.lost) ∧
    Calls Try.prog 11 #[.pointer (some ⟨p, 0, none⟩)] wx (fun e w' => e = .returned (.int .i64 s.lost) ∧ wx = w') ∧
    Calls Try.prog 12 #[.pointer (some ⟨p, 0, none⟩), .int .i64 f, .int .i64 t] wx (fun e w' => e = .returned (.int .i64 (lenS s f t)) ∧ wx = w') ∧
    Calls Try.prog 13 #[.pointer (some ⟨q, 0, none⟩), .int .i64 f, .int .i64 t] wx (fun e w' => e = .returned (.int .i64 (lenS s f t)) ∧ wx = w') := by
  obtain ⟨col, h1, h2, h3, h4, -⟩ := h
  refine ⟨by rw [hr.lost]; exact h4.lost, lost_any wx h3, len_all f t h3, ?_⟩
  rw [← cnt_len f t hr]
  exact dlen_any f t wx h4
theorem PP.start {wr w2 : World} (hBr : Below w.heap.size w wr) (sr : wr.heap.size = w.heap.size + 1) (hB2 : Below wr.heap.size wr w2) (l2 : wr.heap.size < w2.heap.size) (h2 : ∀ col c, col wr.heap.size = c → NetAt col c w2 wr.heap.size nsZ)
    (hB0 : Below (w2.alloc (.cells #[.slice none 0 0, .int .i64 0] 28)).heap.size (w2.alloc (.cells #[.slice none 0 0, .int .i64 0] 28)) W0) :
    ∃ col0, Base w W0 col0 ∧ col0 w.heap.size = 0 ∧ (∀ k, w2.heap.size + 1 ≤ k → col0 k = 0) ∧ PP W0 col0 wr.heap.size w2.heap.size W0 nsZ ⟨[], 0⟩ := by
  have hBx := al0 w2 (.cells #[.slice none 0 0, .int .i64 0] 28)
  have dx := fun col c => doc_zero w2 col c
  have s3 : (w2.alloc (.cells #[.slice none 0 0, .int .i64 0] 28)).heap.size = w2.heap.size + 1 := by simp
  generalize w2.alloc (.cells #[.slice none 0 0, .int .i64 0] 28) = w3 at *
  have hB30 := hB0
  have hB20 := trans0 hBx hB30
  have hBr0 := trans0 hB2 hB20
  refine ⟨fun k => if k = wr.heap.size then 1 else if k = w2.heap.size then 2 else 0, ⟨trans0 hBr hBr0, fun k hk => ?_⟩, ?_, fun k hk => ?_, ?_⟩
  · show (if k = wr.heap.size then 1 else if k = w2.heap.size then 2 else 0) = 0
    rw [if_neg (by omega), if_neg (by omega)]
  · show (if w.heap.size = wr.heap.size then 1 else if w.heap.size = w2.heap.size then 2 else 0) = 0
    rw [if_neg (by omega), if_neg (by omega)]
  · show (if k = wr.heap.size then 1 else if k = w2.heap.size then 2 else 0) = 0
    rw [if_neg (by omega), if_neg (by omega)]
  · refine ⟨_, Ext.refl _ _, Cg.refl _ _, (h2 _ 1 ?_).below hB20, (dx _ 2 ?_).below hB30⟩
    · show (if wr.heap.size = wr.heap.size then 1 else _) = 1
      rw [if_pos rfl]
    · show (if w2.heap.size = wr.heap.size then 1 else if w2.heap.size = w2.heap.size then 2 else 0) = 2
      rw [if_neg (by omega), if_pos rfl]
/-- what the iterator reads of this net -/
theorem PP.wi {B : Nat} (h : PP W0 col0 p q wx s dn) (hc : wx.cell? ⟨B, 0, none⟩ = some (.pointer (some ⟨p, 0, none⟩))) : WI wx B p (fun k => (s.row k).length) ∧ p < wx.heap.size := by
  obtain ⟨col, h1, h2, h3, h4⟩ := h
  refine ⟨⟨hc, ?_⟩, h3.lt⟩
  obtain ⟨vs, ms, hI, he⟩ := h3
  refine ⟨_, hI.row, fun k hk => ?_⟩
  obtain ⟨A, c, hv, -⟩ := own_form (hI.own k hk)
  have hl : (s.row k).length = (ms k).length := by rw [← he k hk, List.length_map]
  refine ⟨A, c, ?_, by show (s.row k).length ≤ 48; rw [hl]; exact hI.le k hk⟩
  show (if k = 441 then _ else vs k) = .slice A (s.row k).length c
  rw [if_neg (by omega), hl, hv]
end
/-! ### Between the rounds -/
def Wr (W : World) (A : Option Addr) (l : List (Nat × Nat)) : Prop := ∀ (i : Nat) (y : Nat × Nat), l[i]? = some y → ∃ g, A = some ⟨g, 0, none⟩ ∧ W.cell? ⟨g, i * 2, none⟩ = some (.int .i64 (y.1 : Int)) ∧ W.cell? ⟨g, i * 2 + 1, none⟩ = some (.int .i64 (y.2 : Int))
theorem wr_own {W : World} {base cap : Nat} {A : Option Addr} {l : List (Nat × Nat)} (h : W.ownsRow base 41 2 (.slice A l.length cap) l.length (fl c2 l)) : Wr W A l := by
  intro i y hy
  have hi := (List.getElem?_eq_some_iff.1 hy).1
  rcases h.2 with ⟨e, -⟩ | ⟨g, cap', cur, e, -⟩
  · exfalso
    have : l.length = 0 := (Value.slice.inj e).2.1
    omega
  · have e1 : A = some ⟨g, 0, none⟩ := by cases e; rfl
    subst e1
    exact ⟨g, rfl, (h.cellAt (i * 2 + 0) (by omega)).trans (fl_get c2_len hy rfl), (h.cellAt (i * 2 + 1) (by omega)).trans (fl_get c2_len hy rfl)⟩
/-- the cells that the rounds read: the answer so far, what is wanted, how many were told -/
def Bk (r b7 b8 : Nat) (A : Option Addr) (cap : Nat) (l : List (Nat × Nat)) (told : Int) (W : World) : Prop :=
  W.cell? ⟨r, 0, none⟩ = some (.bool false) ∧ W.frozen? ⟨r, 0, none⟩ = false ∧ W.cell? ⟨b7, 0, none⟩ = some (.slice A l.length cap) ∧ W.cell? ⟨b8, 0, none⟩ = some (.int .i64 told) ∧ W.frozen? ⟨b8, 0, none⟩ = false ∧ Wr W A l
theorem Bk.kept {r b7 b8 cap : Nat} {A : Option Addr} {l : List (Nat × Nat)} {told : Int} {W W' : World} {row : Option Nat} (h : Bk r b7 b8 A cap l told W) (hg : W.grownBy W' row) (hr : ∀ r, row = some r → ∃ o : Obj, W.heap[r]? = some o ∧ o.isCells = false) : Bk r b7 b8 A cap l told W' := by
  obtain ⟨q2, q3, q4, r4, q8, r8⟩ := h
  refine ⟨cell_kept q2 hg hr, (frozen_kept q2 hg hr).trans q3, cell_kept q4 hg hr, cell_kept r4 hg hr, (frozen_kept r4 hg hr).trans q8, fun i y hy => ?_⟩
  obtain ⟨g, e, c1, c2⟩ := r8 i y hy
  exact ⟨g, e, cell_kept c1 hg hr, cell_kept c2 hg hr⟩
theorem Bk.below {r b7 b8 cap : Nat} {A : Option Addr} {l : List (Nat × Nat)} {told : Int} {W W' : World} (h : Bk r b7 b8 A cap l told W) (hB : Below W.heap.size W W') : Bk r b7 b8 A cap l told W' := by
  obtain ⟨q2, q3, q4, r4, q8, r8⟩ := h
  refine ⟨keep_cell hB q2, keep_frozen hB q2 q3, keep_cell hB q4, keep_cell hB r4, keep_frozen hB r4 q8, fun i y hy => ?_⟩
  obtain ⟨g, e, c1, c2⟩ := r8 i y hy
  exact ⟨g, e, keep_cell hB c1, keep_cell hB c2⟩
theorem Bk.box {r b7 b8 cap : Nat} {A : Option Addr} {l : List (Nat × Nat)} {told : Int} {W : World} (h : Bk r b7 b8 A cap l told W) (h1 : r ≠ b8) (h2 : b7 ≠ b8) (h3 : ∀ a, A = some a → a.block ≠ b8) (t : Int) : Bk r b7 b8 A cap l t (W.setCell ⟨b8, 0, none⟩ (.int .i64 t)) := by
  obtain ⟨q2, q3, q4, r4, q8, r8⟩ := h
  refine ⟨?_, by rw [World.frozen?_setCell]; exact q3, ?_, World.cell?_setCell_same' _ _ _ (by rw [r4]; rfl), by rw [World.frozen?_setCell]; exact q8, fun i y hy => ?_⟩
  · rw [World.cell?_setCell_other _ _ _ _ (by intro e; injection e with e1; omega)]; exact q2
  · rw [World.cell?_setCell_other _ _ _ _ (by intro e; injection e with e1; omega)]; exact q4
  · obtain ⟨g, e, c1, c2⟩ := r8 i y hy
    have hg := h3 _ e
    refine ⟨g, e, ?_, ?_⟩
    · rw [World.cell?_setCell_other _ _ _ _ (by intro e; injection e with e1; exact hg e1.symm)]; exact c1
    · rw [World.cell?_setCell_other _ _ _ _ (by intro e; injection e with e1; exact hg e1.symm)]; exact c2
def LI (w : World) (r b7 b8 : Nat) (A : Option Addr) (cap : Nat) (l : List (Nat × Nat)) (pre : List (Nat × Nat)) (W : World) : Prop :=
  (pre <+: l ∧ Bk r b7 b8 A cap l (pre.length : Nat) W) ∧ Below w.heap.size w W
def LX (w : World) (l : List (Nat × Nat)) (c : Code) (pre : List (Nat × Nat)) (W : World) : Prop := (c = .ret ∧ ¬ pre <+: l) ∧ Below w.heap.size w W
theorem LI.from_ {w : World} {r b7 b8 cap C : Nat} {A : Option Addr} {l : List (Nat × Nat)} (hC : w.heap.size ≤ C) : OwnFrom C (LI w r b7 b8 A cap l) :=
  fun _ _ _ _ hs hg hr => ⟨⟨hs.1.1, hs.1.2.kept hg (fun r e => (hr r e).2)⟩, hs.2.grown hg hs.2.size (fun k e => Nat.le_trans hC (hr k e).1)⟩
theorem LX.from_ {w : World} {C : Nat} {l : List (Nat × Nat)} (hC : w.heap.size ≤ C) (c : Code) : OwnFrom C (LX w l c) :=
  fun _ _ _ _ hs hg hr => ⟨hs.1, hs.2.grown hg hs.2.size (fun k e => Nat.le_trans hC (hr k e).1)⟩
theorem prefix_snoc {l pre : List (Nat × Nat)} {y : Nat × Nat} (h : pre <+: l) (hy : l[pre.length]? = some y) : pre ++ [y] <+: l := by
  obtain ⟨r, rfl⟩ := h
  rcases r with _ | ⟨z, r⟩
  · simp at hy
  · have : z = y := by simpa using hy
    subst this
    exact ⟨r, by rw [List.append_assoc]; rfl⟩
theorem prefix_last {l pre : List (Nat × Nat)} {y z : Nat × Nat} (h : pre ++ [y] <+: l) (hz : l[pre.length]? = some z) : y = z := by
  obtain ⟨r, rfl⟩ := h
  simpa using hz
theorem KW.setCell {B p b : Nat} (h1 : b ≠ B) (h2 : b ≠ p) (W : World) (v : Value) : KW B p W (W.setCell ⟨b, 0, none⟩ v) :=
  ⟨Below.heap_setCell W ⟨b, 0, none⟩ v B (show B ≠ b by omega), Below.heap_setCell W ⟨b, 0, none⟩ v p (show p ≠ b by omega)⟩
end Go.Proofs.Ytggoaglcffdcnaa.netSh
