/- One call of both: the walk. -/
import Derived.Test.YtggoaglcffdcnaaNetSa
import Derived.Test.YtggoaglcffdcnaaNetX
import Derived.Deep.CutBlock
namespace Go.Proofs.Ytggoaglcffdcnaa.netSb
open Go.ChangeShapes Go.WideShapes Go.ChangeAt Go.RowKit Go.Deep
open numM rowA byt numA numB numC netA netB netC netD netE netG netS netT netL netP netQ netR netRa netRb netRc netRd netRe netSa netX

section
variable {col col' : Nat → Nat} {c d p q : Nat} {W w1 wx w' : World} {s s' : Ns} {dn dn' : Dn}
/-- The two nets, since W. -/
def PQ (col : Nat → Nat) (c d p q : Nat) (W wx : World) (s : Ns) (dn : Dn) : Prop :=
  ∃ col', Ext W col col' ∧ Cg (fun b => col b = c ∨ col b = d) W wx ∧ NetAt col' c wx p s ∧ DocAt col' d wx q dn
theorem PQ.start (h1 : NetAt col c W p s) (h2 : DocAt col d W q dn) : PQ col c d p q W W s dn := ⟨col, Ext.refl _ _, Cg.refl _ _, h1, h2⟩
theorem PQ.below (h : PQ col c d p q W wx s dn) (hB : Below wx.heap.size wx w') : PQ col c d p q W w' s dn := by
  obtain ⟨col', h1, h2, h3, h4⟩ := h
  exact ⟨col', h1, h2.then hB, h3.below hB, h4.below hB⟩
theorem PQ.box (hB : Below W.heap.size W w1) (h : PQ (recol col W 0) c d p q w1 w' s dn) : PQ col c d p q W w' s dn := by
  obtain ⟨col', h1, h2, h3, h4⟩ := h
  exact ⟨col', (rec_ext col W 0).trans hB.size h1, (Cg.of_below _ hB).trans h2 fun k hk e => by rwa [rec_ext col W 0 k hk] at e, h3, h4⟩
theorem PQ.net {F : FuncId} {r : List Value} {K : World → Prop} {E : Nat} (hcd : c ≠ d) (hp : NCt F r K s E s') (h : PQ col c d p q W wx s dn) (hK : K wx) :
    Calls Try.prog F (.pointer (some ⟨p, 0, none⟩) :: r).toArray wx fun e w' => e = .returned (.int .i64 E) ∧ PQ col c d p q W w' s' dn := by
  obtain ⟨col', h1, h2, h3, h4⟩ := h
  refine (hp col' c p wx hK h3).mono ?_
  rintro e w' ⟨rfl, g1, g2⟩
  exact ⟨rfl, recol col' wx c, h1.trans h2.size (rec_ext _ _ _), h2.trans g1 (fun k hk e => .inl (by rw [← e]; exact (h1 k hk).symm)), g2, h4.other g1 (fun k _ e1 e2 => hcd (by rw [← e2, e1])) (rec_ext _ _ _)⟩
theorem PQ.doc {F : FuncId} {r : List Value} {K : World → Prop} {E : Nat} (hcd : c ≠ d) (hp : DCt F r K dn E dn') (h : PQ col c d p q W wx s dn) (hK : K wx) :
    Calls Try.prog F (.pointer (some ⟨q, 0, none⟩) :: r).toArray wx fun e w' => e = .returned (.int .i64 E) ∧ PQ col c d p q W w' s dn' := by
  obtain ⟨col', h1, h2, h3, h4⟩ := h
  refine (hp col' d q wx hK h4).mono ?_
  rintro e w' ⟨rfl, g1, g2⟩
  exact ⟨rfl, recol col' wx d, h1.trans h2.size (rec_ext _ _ _), h2.trans g1 (fun k hk e => .inr (by rw [← e]; exact (h1 k hk).symm)), h3.other g1 (fun k _ e1 e2 => hcd (by rw [← e1, e2])) (rec_ext _ _ _), g2⟩
theorem bl_blk {A : Option Addr} {n : Nat} {l : List Nat} (h : BL wx A n l) (e : ∀ a, A = some a → w'.heap[a.block]? = wx.heap[a.block]?) (hs : wx.heap.size ≤ w'.heap.size) : BL w' A n l := by
  refine ⟨h.1, h.2.1, h.2.2.1, ?_⟩
  rcases h.2.2.2 with h0 | ⟨b, off, e1, hlt, hc⟩
  · exact .inl h0
  · exact .inr ⟨b, off, e1, Nat.lt_of_lt_of_le hlt hs, fun j hj => (World.cell?_of_block (a := ⟨b, off + j, none⟩) (show w'.heap[b]? = wx.heap[b]? from e _ e1)).trans (hc j hj)⟩
theorem PQ.bl {A : Option Addr} {n : Nat} {l : List Nat} (h : PQ col c d p q W wx s dn) (hc : c ≠ 0) (hd : d ≠ 0) (hb : BL W A n l) (h0 : n = 0 ∨ ∀ a, A = some a → a.block < W.heap.size ∧ col a.block = 0) : BL wx A n l := by
  obtain ⟨col', h1, h2, -⟩ := h
  rcases h0 with h0 | h0
  · exact ⟨hb.1, hb.2.1, hb.2.2.1, .inl h0⟩
  exact bl_blk hb (fun a e => h2.block _ (h0 a e).1 (fun e2 => by have := (h0 a e).2; omega)) h2.size
theorem PQ.ob {o : Nat} {m : netO.Op} {A : Option Addr} {cp : Nat} (h : PQ col c d p q W wx s dn) (hc : c ≠ 0) (hd : d ≠ 0) (hb : OB W o m A cp) (hlt : o < W.heap.size) (h0 : col o = 0) : OB wx o m A cp := by
  obtain ⟨col', h1, h2, -⟩ := h
  have he := h2.block o hlt (fun e2 => by omega)
  have k := fun i => World.cell?_of_block (a := ⟨o, i, none⟩) he
  obtain ⟨a0, a1, a2, a3, a4, a5, a6⟩ := hb
  exact ⟨(k 0).trans a0, (k 1).trans a1, (k 2).trans a2, (k 3).trans a3, (k 4).trans a4, (k 5).trans a5, (k 6).trans a6⟩
end
/-- what is known when one call of both begins -/
structure Ready (col : Nat → Nat) (c d p q : Nat) (W : World) (s : Ns) (dn : Dn) (m : netO.Op) (A : Option Addr) (cp : Nat) : Prop where
  cd : c ≠ d
  c0 : c ≠ 0
  d0 : d ≠ 0
  rel : Rel s dn
  lost : s.lost < 1000000
  len : dn.row.length < 100000
  body : m.body.length ≤ 100000
  k : netO.kOp W m A cp
  a0 : m.body.length = 0 ∨ ∀ a, A = some a → a.block < W.heap.size ∧ col a.block = 0
  n : NetAt col c W p s
  d : DocAt col d W q dn
/-- behind the box -/
structure Boxed (col : Nat → Nat) (c d p q : Nat) (W : World) (s : Ns) (dn : Dn) (m : netO.Op) (A : Option Addr) (cp o : Nat) : Prop extends Ready col c d p q W s dn m A cp where
  ob : OB W o m A cp
  lt : o < W.heap.size
  o0 : col o = 0
theorem Ready.box {col : Nat → Nat} {c d p q : Nat} {W : World} {s : Ns} {dn : Dn} {m : netO.Op} {A : Option Addr} {cp : Nat} (h : Ready col c d p q W s dn m A cp) :
    Boxed (recol col W 0) c d p q (W.alloc (.cells #[.int .i64 m.kind, .int .i64 m.from_, .int .i64 m.to_, .int .i64 m.i, .int .i64 m.at_, .int .u8 m.mask, .slice A m.body.length cp] 32)) s dn m A cp W.heap.size := by
  have hB := al0 W (.cells #[.int .i64 m.kind, .int .i64 m.from_, .int .i64 m.to_, .int .i64 m.i, .int .i64 m.at_, .int .u8 m.mask, .slice A m.body.length cp] 32)
  obtain ⟨k0, k1, k2, k3, k4, k5, k6, k7⟩ := h.k
  exact ⟨⟨h.cd, h.c0, h.d0, h.rel, h.lost, h.len, h.body, ⟨k0, k1, k2, k3, k4, k5, k6.below hB, k7⟩,
    h.a0.imp id fun h0 a e => ⟨Nat.lt_of_lt_of_le (h0 a e).1 hB.size, (rec_ext col W 0 _ (h0 a e).1).trans (h0 a e).2⟩, (h.n.ext (rec_ext col W 0)).below hB, (h.d.ext (rec_ext col W 0)).below hB⟩,
    OB.new W m A cp, by simp, rec_new (Nat.le_refl _)⟩
abbrev S3 (o : Nat) (f t i : Int) (w : World) : Prop := w.cell? ⟨o, 1, none⟩ = some (.int .i64 f) ∧ w.cell? ⟨o, 2, none⟩ = some (.int .i64 t) ∧ w.cell? ⟨o, 3, none⟩ = some (.int .i64 i)
abbrev S5 (o : Nat) (f t i a : Int) (y : Int) (w : World) : Prop := w.cell? ⟨o, 1, none⟩ = some (.int .i64 f) ∧ w.cell? ⟨o, 2, none⟩ = some (.int .i64 t) ∧ w.cell? ⟨o, 3, none⟩ = some (.int .i64 i) ∧ w.cell? ⟨o, 4, none⟩ = some (.int .i64 a) ∧ w.cell? ⟨o, 5, none⟩ = some (.int .u8 y)
abbrev S6 (o : Nat) (f t : Int) (v : Value) (w : World) : Prop := w.cell? ⟨o, 1, none⟩ = some (.int .i64 f) ∧ w.cell? ⟨o, 2, none⟩ = some (.int .i64 t) ∧ w.cell? ⟨o, 6, none⟩ = some v
def Done (col : Nat → Nat) (c d p q : Nat) (W : World) (s' : Ns) (dn : Dn) (e : Ending) (w' : World) : Prop := e = .returned (.bool true) ∧ PQ col c d p q W w' s' dn

set_option maxRecDepth 100000 in
set_option maxHeartbeats 2000000 in
theorem do_lose {col : Nat → Nat} {c d p q : Nat} {W : World} {s : Ns} {dn : Dn} (f t i a : Int) (y : Nat) (l : List Nat) (A : Option Addr) (cp : Nat) (h : Ready col c d p q W s dn ⟨3, f, t, i, a, y, l⟩ A cp) :
    ∃ dn', Rel (atS s f t i fun n => lostS (delS s (wn f t) n)) dn' ∧ dn'.row.length ≤ dn.row.length + 1 ∧
      Calls Try.prog 10 #[.pointer (some ⟨p, 0, none⟩), .pointer (some ⟨q, 0, none⟩), .agg (netO.cOp ⟨3, f, t, i, a, y, l⟩ A cp)] W (Done col c d p q W (atS s f t i fun n => lostS (delS s (wn f t) n)) dn') := by
  obtain ⟨-, -, -, ⟨b1, b2⟩, -⟩ := h.k
  simp only at b1 b2
  obtain ⟨E, dn', hP⟩ := lose_p (f := f) (t := t) h.rel h.lost b1 b2 (fun _ => True)
  refine ⟨dn', hP.rel, hP.len, ?_⟩
  have hb := h.box
  generalize atS s f t i _ = s' at *
  have hN := Lib.hid hP.net
  have hD := Lib.hid hP.doc
  have hcd := h.cd
  have hc0 := h.c0
  have hd0 := h.d0
  have hBx := Lib.hid (al0 W (.cells #[.int .i64 3, .int .i64 f, .int .i64 t, .int .i64 i, .int .i64 a, .int .u8 y, .slice A l.length cp] 32))
  have hfin : Hid (∀ w', PQ (recol col W 0) c d p q (W.alloc (.cells #[.int .i64 3, .int .i64 f, .int .i64 t, .int .i64 i, .int .i64 a, .int .u8 y, .slice A l.length cp] 32)) w' s' dn' → Done col c d p q W s' dn' (.returned (.bool true)) w') := Lib.hid fun w' hp => ⟨rfl, hp.box hBx.out⟩
  simp only at hb
  generalize hW : W.alloc (.cells #[.int .i64 3, .int .i64 f, .int .i64 t, .int .i64 i, .int .i64 a, .int .u8 y, .slice A l.length cp] 32) = w1 at *
  have hS : Hid (S3 W.heap.size f t i w1) := Lib.hid ⟨hb.ob.2.1, hb.ob.2.2.1, hb.ob.2.2.2.1⟩
  have hSd : Hid (S3 W.heap.size f t i w1.drew) := Lib.hid hS.out
  have hc := hb.ob.1
  simp only at hc
  have hlt := hb.lt
  have hX := Lib.hid (PQ.start hb.n hb.d)
  have hXd := Lib.hid (hX.out.below (below_drew w1))
  have hob := Lib.hid (fun (s : Ns) (dn : Dn) (w' : World) (hp : PQ (recol col W 0) c d p q w1 w' s dn) => show S3 W.heap.size f t i w' from by
    have h5 := hp.ob hb.c0 hb.d0 hb.ob hb.lt hb.o0
    exact ⟨h5.2.1, h5.2.2.1, h5.2.2.2.1⟩)
  clear hP h hb hBx
  unfold netO.cOp
  simp only
  go_enter Try.func10, Try.ntmps10
  go_upto_region 9 with fail
  go_region_held3 (S3 W.heap.size f t i)
    (first | with_reducible exact hSd.out | with_reducible exact hS.out | with_reducible assumption | fail)
    (first
      | (go_at_call 25; ((with_reducible refine (PQ.net hcd hN.out hXd.out trivial).mono ?_); rintro e w3 ⟨rfl, hX3⟩; have hc3 := hob.out _ _ _ hX3; replace hX3 := Lib.hid hX3))
      | (go_at_call 28; ((with_reducible refine (PQ.doc hcd hD.out hX3.out trivial).mono ?_); rintro e w4 ⟨rfl, hX4⟩; have hc4 := hob.out _ _ _ hX4; replace hX4 := Lib.hid hX4))
      | fail)
  all_goals
    have hR := Lib.hid (hfin.out _ hX4.out)
    clear hX4 hfin hob hX hXd hN hD
    go_wp2
    go_ret
    exact hR.out
set_option maxRecDepth 100000 in
set_option maxHeartbeats 2000000 in
theorem do_twice {col : Nat → Nat} {c d p q : Nat} {W : World} {s : Ns} {dn : Dn} (f t i a : Int) (y : Nat) (l : List Nat) (A : Option Addr) (cp : Nat) (h : Ready col c d p q W s dn ⟨4, f, t, i, a, y, l⟩ A cp) :
    ∃ dn', Rel (atS s f t i fun n => twS s (wn f t) n) dn' ∧ dn'.row.length ≤ dn.row.length + 1 ∧
      Calls Try.prog 10 #[.pointer (some ⟨p, 0, none⟩), .pointer (some ⟨q, 0, none⟩), .agg (netO.cOp ⟨4, f, t, i, a, y, l⟩ A cp)] W (Done col c d p q W (atS s f t i fun n => twS s (wn f t) n) dn') := by
  obtain ⟨-, -, -, ⟨b1, b2⟩, -⟩ := h.k
  simp only at b1 b2
  obtain ⟨E, dn', hP⟩ := twice_p (f := f) (t := t) h.rel h.len b1 b2 (fun _ => True)
  refine ⟨dn', hP.rel, hP.len, ?_⟩
  have hb := h.box
  generalize hs' : (atS s f t i fun n => twS s (wn f t) n) = s' at *
  clear hs'
  have hN := Lib.hid hP.net
  have hD := Lib.hid hP.doc
  have hcd := h.cd
  have hc0 := h.c0
  have hd0 := h.d0
  have hBx := Lib.hid (al0 W (.cells #[.int .i64 4, .int .i64 f, .int .i64 t, .int .i64 i, .int .i64 a, .int .u8 y, .slice A l.length cp] 32))
  have hfin : Hid (∀ w', PQ (recol col W 0) c d p q (W.alloc (.cells #[.int .i64 4, .int .i64 f, .int .i64 t, .int .i64 i, .int .i64 a, .int .u8 y, .slice A l.length cp] 32)) w' s' dn' → Done col c d p q W s' dn' (.returned (.bool true)) w') := Lib.hid fun w' hp => ⟨rfl, hp.box hBx.out⟩
  simp only at hb
  generalize hW : W.alloc (.cells #[.int .i64 4, .int .i64 f, .int .i64 t, .int .i64 i, .int .i64 a, .int .u8 y, .slice A l.length cp] 32) = w1 at *
  have hS : Hid (S3 W.heap.size f t i w1) := Lib.hid ⟨hb.ob.2.1, hb.ob.2.2.1, hb.ob.2.2.2.1⟩
  have hSd : Hid (S3 W.heap.size f t i w1.drew) := Lib.hid hS.out
  have hc := hb.ob.1
  simp only at hc
  have hlt := hb.lt
  have hX := Lib.hid (PQ.start hb.n hb.d)
  have hXd := Lib.hid (hX.out.below (below_drew w1))
  have hob := Lib.hid (fun (s : Ns) (dn : Dn) (w' : World) (hp : PQ (recol col W 0) c d p q w1 w' s dn) => show S3 W.heap.size f t i w' from by
    have h5 := hp.ob hb.c0 hb.d0 hb.ob hb.lt hb.o0
    exact ⟨h5.2.1, h5.2.2.1, h5.2.2.2.1⟩)
  clear hP h hb hBx
  unfold netO.cOp
  simp only
  go_enter Try.func10, Try.ntmps10
  go_upto_region 11 with fail
  go_region_held3 (S3 W.heap.size f t i)
    (first | with_reducible exact hSd.out | with_reducible exact hS.out | with_reducible assumption | fail)
    (first
      | (go_at_call 21; ((with_reducible refine (PQ.net hcd hN.out hXd.out trivial).mono ?_); rintro e w3 ⟨rfl, hX3⟩; have hc3 := hob.out _ _ _ hX3; replace hX3 := Lib.hid hX3))
      | (go_at_call 29; ((with_reducible refine (PQ.doc hcd hD.out hX3.out trivial).mono ?_); rintro e w4 ⟨rfl, hX4⟩; have hc4 := hob.out _ _ _ hX4; replace hX4 := Lib.hid hX4))
      | fail)
  all_goals
    have hR := Lib.hid (hfin.out _ hX4.out)
    clear hX4 hfin hob hX hXd hN hD
    go_wp2
    go_ret
    exact hR.out
set_option maxRecDepth 100000 in
set_option maxHeartbeats 2000000 in
theorem do_back {col : Nat → Nat} {c d p q : Nat} {W : World} {s : Ns} {dn : Dn} (f t i a : Int) (y : Nat) (l : List Nat) (A : Option Addr) (cp : Nat) (h : Ready col c d p q W s dn ⟨5, f, t, i, a, y, l⟩ A cp) :
    ∃ dn', Rel (atS s f t i fun n => backS s (wn f t) n) dn' ∧ dn'.row.length ≤ dn.row.length + 1 ∧
      Calls Try.prog 10 #[.pointer (some ⟨p, 0, none⟩), .pointer (some ⟨q, 0, none⟩), .agg (netO.cOp ⟨5, f, t, i, a, y, l⟩ A cp)] W (Done col c d p q W (atS s f t i fun n => backS s (wn f t) n) dn') := by
  obtain ⟨-, -, -, ⟨b1, b2⟩, -⟩ := h.k
  simp only at b1 b2
  obtain ⟨E, dn', hP⟩ := back_p (f := f) (t := t) h.rel h.len b1 b2 (fun _ => True)
  refine ⟨dn', hP.rel, hP.len, ?_⟩
  have hb := h.box
  generalize hs' : (atS s f t i fun n => backS s (wn f t) n) = s' at *
  clear hs'
  have hN := Lib.hid hP.net
  have hD := Lib.hid hP.doc
  have hcd := h.cd
  have hc0 := h.c0
  have hd0 := h.d0
  have hBx := Lib.hid (al0 W (.cells #[.int .i64 5, .int .i64 f, .int .i64 t, .int .i64 i, .int .i64 a, .int .u8 y, .slice A l.length cp] 32))
  have hfin : Hid (∀ w', PQ (recol col W 0) c d p q (W.alloc (.cells #[.int .i64 5, .int .i64 f, .int .i64 t, .int .i64 i, .int .i64 a, .int .u8 y, .slice A l.length cp] 32)) w' s' dn' → Done col c d p q W s' dn' (.returned (.bool true)) w') := Lib.hid fun w' hp => ⟨rfl, hp.box hBx.out⟩
  simp only at hb
  generalize hW : W.alloc (.cells #[.int .i64 5, .int .i64 f, .int .i64 t, .int .i64 i, .int .i64 a, .int .u8 y, .slice A l.length cp] 32) = w1 at *
  have hS : Hid (S3 W.heap.size f t i w1) := Lib.hid ⟨hb.ob.2.1, hb.ob.2.2.1, hb.ob.2.2.2.1⟩
  have hSd : Hid (S3 W.heap.size f t i w1.drew) := Lib.hid hS.out
  have hc := hb.ob.1
  simp only at hc
  have hlt := hb.lt
  have hX := Lib.hid (PQ.start hb.n hb.d)
  have hXd := Lib.hid (hX.out.below (below_drew w1))
  have hob := Lib.hid (fun (s : Ns) (dn : Dn) (w' : World) (hp : PQ (recol col W 0) c d p q w1 w' s dn) => show S3 W.heap.size f t i w' from by
    have h5 := hp.ob hb.c0 hb.d0 hb.ob hb.lt hb.o0
    exact ⟨h5.2.1, h5.2.2.1, h5.2.2.2.1⟩)
  clear hP h hb hBx
  unfold netO.cOp
  simp only
  go_enter Try.func10, Try.ntmps10
  go_upto_region 13 with fail
  go_region_held3 (S3 W.heap.size f t i)
    (first | with_reducible exact hSd.out | with_reducible exact hS.out | with_reducible assumption | fail)
    (first
      | (go_at_call 22; ((with_reducible refine (PQ.net hcd hN.out hXd.out trivial).mono ?_); rintro e w3 ⟨rfl, hX3⟩; have hc3 := hob.out _ _ _ hX3; replace hX3 := Lib.hid hX3))
      | (go_at_call 30; ((with_reducible refine (PQ.doc hcd hD.out hX3.out trivial).mono ?_); rintro e w4 ⟨rfl, hX4⟩; have hc4 := hob.out _ _ _ hX4; replace hX4 := Lib.hid hX4))
      | fail)
  all_goals
    have hR := Lib.hid (hfin.out _ hX4.out)
    clear hX4 hfin hob hX hXd hN hD
    go_wp2
    go_ret
    exact hR.out
set_option maxRecDepth 100000 in
set_option maxHeartbeats 2000000 in
theorem do_spoil {col : Nat → Nat} {c d p q : Nat} {W : World} {s : Ns} {dn : Dn} (f t i a : Int) (y : Nat) (l : List Nat) (A : Option Addr) (cp : Nat) (h : Ready col c d p q W s dn ⟨6, f, t, i, a, y, l⟩ A cp) :
    ∃ dn', Rel (atS s f t i fun n => spS s (wn f t) n a y) dn' ∧ dn'.row.length ≤ dn.row.length + 1 ∧
      Calls Try.prog 10 #[.pointer (some ⟨p, 0, none⟩), .pointer (some ⟨q, 0, none⟩), .agg (netO.cOp ⟨6, f, t, i, a, y, l⟩ A cp)] W (Done col c d p q W (atS s f t i fun n => spS s (wn f t) n a y) dn') := by
  obtain ⟨-, -, -, ⟨b1, b2⟩, -⟩ := h.k
  simp only at b1 b2
  obtain ⟨E, dn', hP⟩ := spoil_p (f := f) (t := t) h.rel a y (by have := h.k.2.2.2.2.2.1.2; simp only at this; omega) b1 b2 (fun _ => True)
  refine ⟨dn', hP.rel, hP.len, ?_⟩
  have hb := h.box
  generalize hs' : (atS s f t i fun n => spS s (wn f t) n a y) = s' at *
  clear hs'
  have hN := Lib.hid hP.net
  have hD := Lib.hid hP.doc
  have hcd := h.cd
  have hc0 := h.c0
  have hd0 := h.d0
  have hBx := Lib.hid (al0 W (.cells #[.int .i64 6, .int .i64 f, .int .i64 t, .int .i64 i, .int .i64 a, .int .u8 y, .slice A l.length cp] 32))
  have hfin : Hid (∀ w', PQ (recol col W 0) c d p q (W.alloc (.cells #[.int .i64 6, .int .i64 f, .int .i64 t, .int .i64 i, .int .i64 a, .int .u8 y, .slice A l.length cp] 32)) w' s' dn' → Done col c d p q W s' dn' (.returned (.bool true)) w') := Lib.hid fun w' hp => ⟨rfl, hp.box hBx.out⟩
  simp only at hb
  generalize hW : W.alloc (.cells #[.int .i64 6, .int .i64 f, .int .i64 t, .int .i64 i, .int .i64 a, .int .u8 y, .slice A l.length cp] 32) = w1 at *
  have hS : Hid (S5 W.heap.size f t i a y w1) := Lib.hid ⟨hb.ob.2.1, hb.ob.2.2.1, hb.ob.2.2.2.1, hb.ob.2.2.2.2.1, hb.ob.2.2.2.2.2.1⟩
  have hSd : Hid (S5 W.heap.size f t i a y w1.drew) := Lib.hid hS.out
  have hc := hb.ob.1
  simp only at hc
  have hlt := hb.lt
  have hX := Lib.hid (PQ.start hb.n hb.d)
  have hXd := Lib.hid (hX.out.below (below_drew w1))
  have hob := Lib.hid (fun (s : Ns) (dn : Dn) (w' : World) (hp : PQ (recol col W 0) c d p q w1 w' s dn) => show S5 W.heap.size f t i a y w' from by
    have h5 := hp.ob hb.c0 hb.d0 hb.ob hb.lt hb.o0
    exact ⟨h5.2.1, h5.2.2.1, h5.2.2.2.1, h5.2.2.2.2.1, h5.2.2.2.2.2.1⟩)
  clear hP h hb hBx
  unfold netO.cOp
  simp only
  go_enter Try.func10, Try.ntmps10
  go_upto_region 15 with fail
  go_region_held3 (S5 W.heap.size f t i a y)
    (first | with_reducible exact hSd.out | with_reducible exact hS.out | with_reducible assumption | fail)
    (first
      | (go_at_call 23; ((with_reducible refine (PQ.net hcd hN.out hXd.out trivial).mono ?_); rintro e w3 ⟨rfl, hX3⟩; have hc3 := hob.out _ _ _ hX3; replace hX3 := Lib.hid hX3))
      | (go_at_call 31; ((with_reducible refine (PQ.doc hcd hD.out hX3.out trivial).mono ?_); rintro e w4 ⟨rfl, hX4⟩; have hc4 := hob.out _ _ _ hX4; replace hX4 := Lib.hid hX4))
      | fail)
  all_goals
    have hR := Lib.hid (hfin.out _ hX4.out)
    clear hX4 hfin hob hX hXd hN hD
    go_wp2
    go_ret
    exact hR.out
set_option maxRecDepth 100000 in
set_option maxHeartbeats 2000000 in
theorem do_send {col : Nat → Nat} {c d p q : Nat} {W : World} {s : Ns} {dn : Dn} (f t i a : Int) (y : Nat) (l : List Nat) (A : Option Addr) (cp : Nat) (h : Ready col c d p q W s dn ⟨1, f, t, i, a, y, l⟩ A cp) :
    ∃ dn', Rel (sendS s f t l) dn' ∧ dn'.row.length ≤ dn.row.length + 1 ∧
      Calls Try.prog 10 #[.pointer (some ⟨p, 0, none⟩), .pointer (some ⟨q, 0, none⟩), .agg (netO.cOp ⟨1, f, t, i, a, y, l⟩ A cp)] W (Done col c d p q W (sendS s f t l) dn') := by
  obtain ⟨-, -, -, ⟨b1, b2⟩, -⟩ := h.k
  simp only at b1 b2
  have hnone : A = none → l.length = 0 := fun e => by
    rcases h.k.2.2.2.2.2.2.1.2.2.2 with h0 | ⟨_, _, e1, _⟩
    · exact h0
    · rw [e] at e1; cases e1
  obtain ⟨E, dn', hP⟩ := send_p (f := f) (t := t) h.rel h.lost h.len A cp l hnone h.body
  refine ⟨dn', hP.rel, hP.len, ?_⟩
  have hb := h.box
  generalize hs' : (sendS s f t l) = s' at *
  clear hs'
  have hN := Lib.hid hP.net
  have hD := Lib.hid hP.doc
  have hcd := h.cd
  have hc0 := h.c0
  have hd0 := h.d0
  have hBx := Lib.hid (al0 W (.cells #[.int .i64 1, .int .i64 f, .int .i64 t, .int .i64 i, .int .i64 a, .int .u8 y, .slice A l.length cp] 32))
  have hfin : Hid (∀ w', PQ (recol col W 0) c d p q (W.alloc (.cells #[.int .i64 1, .int .i64 f, .int .i64 t, .int .i64 i, .int .i64 a, .int .u8 y, .slice A l.length cp] 32)) w' s' dn' → Done col c d p q W s' dn' (.returned (.bool true)) w') := Lib.hid fun w' hp => ⟨rfl, hp.box hBx.out⟩
  simp only at hb
  generalize hW : W.alloc (.cells #[.int .i64 1, .int .i64 f, .int .i64 t, .int .i64 i, .int .i64 a, .int .u8 y, .slice A l.length cp] 32) = w1 at *
  have hS : Hid (S6 W.heap.size f t (.slice A l.length cp) w1) := Lib.hid ⟨hb.ob.2.1, hb.ob.2.2.1, hb.ob.2.2.2.2.2.2⟩
  have hSd : Hid (S6 W.heap.size f t (.slice A l.length cp) w1.drew) := Lib.hid hS.out
  have hc := hb.ob.1
  simp only at hc
  have hlt := hb.lt
  have hX := Lib.hid (PQ.start hb.n hb.d)
  have hXd := Lib.hid (hX.out.below (below_drew w1))
  have hob := Lib.hid (fun (s : Ns) (dn : Dn) (w' : World) (hp : PQ (recol col W 0) c d p q w1 w' s dn) => show S6 W.heap.size f t (.slice A l.length cp) w' from by
    have h5 := hp.ob hb.c0 hb.d0 hb.ob hb.lt hb.o0
    exact ⟨h5.2.1, h5.2.2.1, h5.2.2.2.2.2.2⟩)
  have hbl := Lib.hid (fun (s : Ns) (dn : Dn) (w' : World) (hp : PQ (recol col W 0) c d p q w1 w' s dn) => show BL w' A l.length l from hp.bl hb.c0 hb.d0 hb.k.2.2.2.2.2.2.1 hb.a0)
  clear hP h hb hBx hnone
  unfold netO.cOp
  simp only
  go_enter Try.func10, Try.ntmps10
  go_upto_region 3 with fail
  go_region_held3 (S6 W.heap.size f t (.slice A l.length cp))
    (first | with_reducible exact hSd.out | with_reducible exact hS.out | with_reducible assumption | fail)
    (first
      | (go_at_call 20; ((with_reducible refine (PQ.net hcd hN.out hXd.out (hbl.out _ _ _ hXd.out)).mono ?_); rintro e w3 ⟨rfl, hX3⟩; have hc3 := hob.out _ _ _ hX3; replace hX3 := Lib.hid hX3))
      | (go_at_call 26; ((with_reducible refine (PQ.doc hcd hD.out hX3.out (hbl.out _ _ _ hX3.out)).mono ?_); rintro e w4 ⟨rfl, hX4⟩; have hc4 := hob.out _ _ _ hX4; replace hX4 := Lib.hid hX4))
      | fail)
  all_goals
    have hR := Lib.hid (hfin.out _ hX4.out)
    clear hX4 hfin hob hbl hX hXd hN hD
    go_wp2
    go_ret
    exact hR.out
end Go.Proofs.Ytggoaglcffdcnaa.netSb
