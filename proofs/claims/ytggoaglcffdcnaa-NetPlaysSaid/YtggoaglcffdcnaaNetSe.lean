/- Two nets and two documents side by side. -/
import Derived.Test.YtggoaglcffdcnaaNetSd
namespace Go.Proofs.Ytggoaglcffdcnaa.netSe
open Go.ChangeShapes Go.WideShapes Go.ChangeAt Go.RowKit Go.Deep
open numM rowA byt numA numB numC opn netA netB netC netD netE netG netS netT netL netP netQ netR netRa netRb netRc netRd netRe netSa netX netSb netSc netSd

theorem doc_zero (w : World) (col : Nat → Nat) (c : Nat) (hc : col w.heap.size = c) : DocAt col c (w.alloc (.cells #[.slice none 0 0, .int .i64 0] 28)) w.heap.size ⟨[], 0⟩ :=
  ⟨.slice none 0 0, [], { row := World.rowIs_alloc w #[.slice none 0 0, .int .i64 0] 28 (cQ (.slice none 0 0) 0) (fun i hi => by
      have : i = 0 ∨ i = 1 := by simp at hi; omega
      rcases this with rfl | rfl <;> rfl)
                          own := World.ownsRow_nil _ _ _ 4
                          byt := fun m hm => by cases hm
                          cq := hc
                          cv := fun b e => by cases e
                          cb := fun m hm => by cases hm
                          ok := fun m hm => by cases hm
                          le := Nat.zero_le _
                          bl := fun m hm => by cases hm }, rfl⟩
/-- the colors at the start -/
structure Base (w W0 : World) (col0 : Nat → Nat) : Prop where
  below : Below w.heap.size w W0
  old : ∀ k, k < w.heap.size → col0 k = 0
def AP (W0 : World) (col0 : Nat → Nat) (a x b y : Nat) (wx : World) (sa sb : Ns) (dx dy : Dn) : Prop :=
  ∃ col, Ext W0 col0 col ∧ Cg (fun k => col0 k ≠ 0) W0 wx ∧ NetAt col 1 wx a sa ∧ DocAt col 2 wx x dx ∧ NetAt col 3 wx b sb ∧ DocAt col 4 wx y dy
section
variable {w W0 wx w' : World} {col0 : Nat → Nat} {a x b y : Nat} {sa sb : Ns} {dx dy : Dn}
theorem AP.below (h : AP W0 col0 a x b y wx sa sb dx dy) (hB : Below wx.heap.size wx w') : AP W0 col0 a x b y w' sa sb dx dy := by
  obtain ⟨col, h1, h2, h3, h4, h5, h6⟩ := h
  exact ⟨col, h1, h2.then hB, h3.below hB, h4.below hB, h5.below hB, h6.below hB⟩
theorem AP.block (h : AP W0 col0 a x b y wx sa sb dx dy) {k : Nat} (hk : k < W0.heap.size) (h0 : col0 k = 0) : wx.heap[k]? = W0.heap[k]? := by
  obtain ⟨col, h1, h2, -⟩ := h
  exact h2.block k hk fun e => e h0
theorem AP.size (h : AP W0 col0 a x b y wx sa sb dx dy) : W0.heap.size ≤ wx.heap.size := by
  obtain ⟨col, h1, h2, -⟩ := h
  exact h2.size
theorem AP.base (hb : Base w W0 col0) (h : AP W0 col0 a x b y wx sa sb dx dy) : Below w.heap.size w wx := by
  obtain ⟨col, h1, h2, -⟩ := h
  have h3 : Below w.heap.size W0 wx := h2.below hb.below.size fun k hk e => e (hb.old k hk)
  exact hb.below.trans h3
theorem kop_below {o : netO.Op} {A : Option Addr} {c : Nat} (h : netO.kOp w o A c) (hB : Below w.heap.size w w') : netO.kOp w' o A c := by
  obtain ⟨k0, k1, k2, k3, k4, k5, k6, k7⟩ := h
  exact ⟨k0, k1, k2, k3, k4, k5, k6.below hB, k7⟩
theorem kop_a0 {o : netO.Op} {A : Option Addr} {c : Nat} (h : netO.kOp w o A c) : o.body.length = 0 ∨ ∀ z, A = some z → z.block < w.heap.size := by
  rcases h.2.2.2.2.2.2.1.2.2.2 with h0 | ⟨b, off, e, hlt, -⟩
  · exact .inl h0
  · exact .inr fun z e2 => by rw [e] at e2; cases e2; exact hlt
/-- the first two are called, the operation boxed -/
theorem AP.first (hb : Base w W0 col0) (h : AP W0 col0 a x b y wx sa sb dx dy) (o : XO) (ho : OKx w o) (hr : Rel sa dx) (hl : sa.lost < 1000000) (hn : dx.row.length < 100000) :
    ∃ dx', Rel (stepS o.m sa) dx' ∧ dx'.row.length ≤ dx.row.length + 1 ∧
      Calls Try.prog 10 #[.pointer (some ⟨a, 0, none⟩), .pointer (some ⟨x, 0, none⟩), .agg (netO.cOp o.m o.A o.c)] (wx.alloc (.cells #[.int .i64 o.m.kind, .int .i64 o.m.from_, .int .i64 o.m.to_, .int .i64 o.m.i, .int .i64 o.m.at_, .int .u8 o.m.mask, .slice o.A o.m.body.length o.c] 32))
        fun e w' => e = .returned (.bool true) ∧ AP W0 col0 a x b y w' (stepS o.m sa) sb dx' dy ∧ OB w' wx.heap.size o.m o.A o.c ∧ wx.heap.size < w'.heap.size := by
  have hbel := AP.base hb h
  obtain ⟨col, h1, h2, h3, h4, h5, h6⟩ := h
  have hob := OB.new wx o.m o.A o.c
  have hB := al0 wx (.cells #[.int .i64 o.m.kind, .int .i64 o.m.from_, .int .i64 o.m.to_, .int .i64 o.m.i, .int .i64 o.m.at_, .int .u8 o.m.mask, .slice o.A o.m.body.length o.c] 32)
  have hlt : wx.heap.size < (wx.alloc (.cells #[.int .i64 o.m.kind, .int .i64 o.m.from_, .int .i64 o.m.to_, .int .i64 o.m.i, .int .i64 o.m.at_, .int .u8 o.m.mask, .slice o.A o.m.body.length o.c] 32)).heap.size := by simp
  generalize wx.alloc (.cells #[.int .i64 o.m.kind, .int .i64 o.m.from_, .int .i64 o.m.to_, .int .i64 o.m.i, .int .i64 o.m.at_, .int .u8 o.m.mask, .slice o.A o.m.body.length o.c] 32) = w1 at *
  have he := rec_ext col wx 0
  have he0 : Ext W0 col0 (recol col wx 0) := h1.trans h2.size he
  have hR : Ready (recol col wx 0) 1 2 a x w1 sa dx o.m o.A o.c :=
    ⟨by decide, by decide, by decide, hr, hl, hn, by have := ho.2; omega, kop_below ho.1 (hbel.trans (hB.mono hbel.size)), (kop_a0 ho.1).imp id fun hz z e => by
      have hz1 := hz z e
      have hz2 := hbel.size
      have hz3 := hb.below.size
      exact ⟨by have := hB.size; omega, (he0 _ (by omega)).trans (hb.old _ hz1)⟩, (h3.ext he).below hB, (h4.ext he).below hB⟩
  obtain ⟨dx', g1, g2, g3⟩ := do_any o.m o.A o.c hR
  refine ⟨dx', g1, g2, g3.mono ?_⟩
  rintro e w' ⟨rfl, col', q1, q2, q3, q4⟩
  have hM : ∀ k, k < w1.heap.size → (recol col wx 0 k = 1 ∨ recol col wx 0 k = 2) → k < wx.heap.size := fun k _ e => by
    rcases Nat.lt_or_ge k wx.heap.size with h | h
    · exact h
    · rw [rec_new h] at e; omega
  refine ⟨rfl, ⟨col', he0.trans (Nat.le_trans h2.size hB.size) q1, (h2.then hB).trans q2 (fun k hk e => by rw [he0 k hk] at e; omega), q3, q4,
    ((h5.ext he).below hB).other q2 (fun k _ e1 e2 => by omega) q1, ((h6.ext he).below hB).other q2 (fun k _ e1 e2 => by omega) q1⟩, ?_, Nat.lt_of_lt_of_le hlt q2.size⟩
  have hblk := q2.block wx.heap.size hlt (fun e => by rw [rec_new (Nat.le_refl _)] at e; omega)
  have kk := fun i => World.cell?_of_block (a := ⟨wx.heap.size, i, none⟩) hblk
  obtain ⟨a0, a1, a2, a3, a4, a5, a6⟩ := hob
  exact ⟨(kk 0).trans a0, (kk 1).trans a1, (kk 2).trans a2, (kk 3).trans a3, (kk 4).trans a4, (kk 5).trans a5, (kk 6).trans a6⟩
/-- the other two are called -/
theorem AP.second (hb : Base w W0 col0) (h : AP W0 col0 a x b y wx sa sb dx dy) (o : XO) (ho : OKx w o) (hr : Rel sb dy) (hl : sb.lost < 1000000) (hn : dy.row.length < 100000) :
    ∃ dy', Rel (stepS o.m sb) dy' ∧ dy'.row.length ≤ dy.row.length + 1 ∧
      Calls Try.prog 10 #[.pointer (some ⟨b, 0, none⟩), .pointer (some ⟨y, 0, none⟩), .agg (netO.cOp o.m o.A o.c)] wx
        fun e w' => e = .returned (.bool true) ∧ AP W0 col0 a x b y w' sa (stepS o.m sb) dx dy' := by
  have hbel := AP.base hb h
  obtain ⟨col, h1, h2, h3, h4, h5, h6⟩ := h
  have hR : Ready col 3 4 b y wx sb dy o.m o.A o.c :=
    ⟨by decide, by decide, by decide, hr, hl, hn, by have := ho.2; omega, kop_below ho.1 hbel, (kop_a0 ho.1).imp id fun hz z e => by
      have hz1 := hz z e
      have hz2 := hbel.size
      have hz3 := hb.below.size
      exact ⟨by omega, (h1 _ (by omega)).trans (hb.old _ hz1)⟩, h5, h6⟩
  obtain ⟨dy', g1, g2, g3⟩ := do_any o.m o.A o.c hR
  refine ⟨dy', g1, g2, g3.mono ?_⟩
  rintro e w' ⟨rfl, col', q1, q2, q3, q4⟩
  exact ⟨rfl, col', h1.trans h2.size q1, h2.trans q2 (fun k hk e => by rw [h1 k hk] at e; omega), h3.other q2 (fun k _ e1 e2 => by omega) q1, h4.other q2 (fun k _ e1 e2 => by omega) q1, q3, q4⟩
/-- the start -/
theorem AP.start {w1 w2 : World} (hB1 : Below w.heap.size w w1) (l1 : w.heap.size < w1.heap.size) (h1 : ∀ col c, col w.heap.size = c → NetAt col c w1 w.heap.size nsZ) (hB2 : Below w1.heap.size w1 w2) (l2 : w1.heap.size < w2.heap.size) (h2 : ∀ col c, col w1.heap.size = c → NetAt col c w2 w1.heap.size nsZ)
    (hB0 : Below ((w2.alloc (.cells #[.slice none 0 0, .int .i64 0] 28)).alloc (.cells #[.slice none 0 0, .int .i64 0] 28)).heap.size ((w2.alloc (.cells #[.slice none 0 0, .int .i64 0] 28)).alloc (.cells #[.slice none 0 0, .int .i64 0] 28)) W0) :
    ∃ col0, Base w W0 col0 ∧ (∀ k, w2.heap.size + 2 ≤ k → col0 k = 0) ∧ AP W0 col0 w.heap.size w2.heap.size w1.heap.size (w2.heap.size + 1) W0 nsZ nsZ ⟨[], 0⟩ ⟨[], 0⟩ := by
  have hBx := al0 w2 (.cells #[.slice none 0 0, .int .i64 0] 28)
  have hBy := al0 (w2.alloc (.cells #[.slice none 0 0, .int .i64 0] 28)) (.cells #[.slice none 0 0, .int .i64 0] 28)
  have dx := fun col c => doc_zero w2 col c
  have dy := fun col c => doc_zero (w2.alloc (.cells #[.slice none 0 0, .int .i64 0] 28)) col c
  have s3 : (w2.alloc (.cells #[.slice none 0 0, .int .i64 0] 28)).heap.size = w2.heap.size + 1 := by simp
  generalize w2.alloc (.cells #[.slice none 0 0, .int .i64 0] 28) = w3 at *
  have s4 : (w3.alloc (.cells #[.slice none 0 0, .int .i64 0] 28)).heap.size = w2.heap.size + 2 := by simp [s3]
  generalize w3.alloc (.cells #[.slice none 0 0, .int .i64 0] 28) = w4 at *
  rw [s3] at dy
  have hB40 := hB0
  have hB30 := trans0 hBy hB40
  have hB20 := trans0 hBx hB30
  have hB10 := trans0 hB2 hB20
  refine ⟨fun k => if k = w.heap.size then 1 else if k = w2.heap.size then 2 else if k = w1.heap.size then 3 else if k = w2.heap.size + 1 then 4 else 0, ⟨trans0 hB1 hB10, fun k hk => ?_⟩, fun k hk => ?_, ?_⟩
  · show (if k = w.heap.size then 1 else if k = w2.heap.size then 2 else if k = w1.heap.size then 3 else if k = w2.heap.size + 1 then 4 else 0) = 0
    rw [if_neg (by omega), if_neg (by omega), if_neg (by omega), if_neg (by omega)]
  · show (if k = w.heap.size then 1 else if k = w2.heap.size then 2 else if k = w1.heap.size then 3 else if k = w2.heap.size + 1 then 4 else 0) = 0
    rw [if_neg (by omega), if_neg (by omega), if_neg (by omega), if_neg (by omega)]
  · refine ⟨_, Ext.refl _ _, Cg.refl _ _, (h1 _ 1 ?_).below hB10, (dx _ 2 ?_).below hB30, (h2 _ 3 ?_).below hB20, (dy _ 4 ?_).below hB40⟩
    · show (if w.heap.size = w.heap.size then 1 else _) = 1
      rw [if_pos rfl]
    · show (if w2.heap.size = w.heap.size then 1 else if w2.heap.size = w2.heap.size then 2 else _) = 2
      rw [if_neg (by omega), if_pos rfl]
    · show (if w1.heap.size = w.heap.size then 1 else if w1.heap.size = w2.heap.size then 2 else if w1.heap.size = w1.heap.size then 3 else _) = 3
      rw [if_neg (by omega), if_neg (by omega), if_pos rfl]
    · show (if w2.heap.size + 1 = w.heap.size then 1 else if w2.heap.size + 1 = w2.heap.size then 2 else if w2.heap.size + 1 = w1.heap.size then 3 else if w2.heap.size + 1 = w2.heap.size + 1 then 4 else 0) = 4
      rw [if_neg (by omega), if_neg (by omega), if_neg (by omega), if_pos rfl]
end
end Go.Proofs.Ytggoaglcffdcnaa.netSe
