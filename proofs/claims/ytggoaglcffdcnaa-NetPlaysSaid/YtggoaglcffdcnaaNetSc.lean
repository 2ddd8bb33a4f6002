/- One call of both: Take and Look. -/
import Derived.Test.YtggoaglcffdcnaaNetSb
namespace Go.Proofs.Ytggoaglcffdcnaa.netSc
open Go.ChangeShapes Go.WideShapes Go.ChangeAt Go.RowKit Go.Deep
open numM rowA byt numA numB numC netA netB netC netD netE netG netS netT netL netP netQ netR netRa netRb netRc netRd netRe netSa netX netSb

section
variable {s : Ns} {d : Dn} {f t i : Int}
structure PairT (F G : FuncId) (f t i : Int) (s : Ns) (dn : Dn) (s' : Ns) (dn' : Dn) (l : List Nat) (sp : Bool) (E : Nat) : Prop where
  net : ∀ col c p w, NetAt col c w p s → Calls Try.prog F #[.pointer (some ⟨p, 0, none⟩), .int .i64 f, .int .i64 t, .int .i64 i] w fun e w' => ∃ A cp, e = .returned (.tuple #[.agg #[.slice A l.length cp, .bool sp], .int .i64 E]) ∧
    (BL w' A l.length l ∧ ∀ a, A = some a → l.length = 0 ∨ (a.block < w'.heap.size ∧ recol col w c a.block = c)) ∧ Cg (fun b => col b = c) w w' ∧ NetAt (recol col w c) c w' p s'
  doc : ∀ col c q w, DocAt col c w q dn → Calls Try.prog G #[.pointer (some ⟨q, 0, none⟩), .int .i64 f, .int .i64 t, .int .i64 i] w fun e w' => ∃ A cp f' t', e = .returned (.tuple #[.agg #[.int .i64 f', .int .i64 t', .slice A l.length cp, .bool sp], .int .i64 E]) ∧
    BL w' A l.length l ∧ Cg (fun b => col b = c) w w' ∧ DocAt (recol col w c) c w' q dn'
  rel : Rel s' dn'
  len : dn'.row.length ≤ dn.row.length + 1
theorem none_ans {col : Nat → Nat} {c p E : Nat} {w : World} (h : NetAt col c w p s) : ∀ (e : Ending) (w' : World), (e = .returned (.tuple #[.agg #[.slice none 0 0, .bool false], .int .i64 E]) ∧ Below w.heap.size w w') →
    ∃ A cp, e = .returned (.tuple #[.agg #[.slice A ([] : List Nat).length cp, .bool false], .int .i64 E]) ∧ (BL w' A ([] : List Nat).length [] ∧ ∀ a, A = some a → ([] : List Nat).length = 0 ∨ (a.block < w'.heap.size ∧ recol col w c a.block = c)) ∧ Cg (fun b => col b = c) w w' ∧ NetAt (recol col w c) c w' p s := by
  rintro e w' ⟨rfl, hB⟩
  exact ⟨none, 0, rfl, ⟨BL.none_ _ _, fun a e => by cases e⟩, Cg.of_below _ hB, (h.ext (rec_ext col w c)).below hB⟩
theorem none_dns {col : Nat → Nat} {c q E : Nat} {w : World} (h : DocAt col c w q d) : ∀ (e : Ending) (w' : World), (e = .returned (.tuple #[.agg zero4, .int .i64 E]) ∧ Below w.heap.size w w') →
    ∃ A cp f' t', e = .returned (.tuple #[.agg #[.int .i64 f', .int .i64 t', .slice A ([] : List Nat).length cp, .bool false], .int .i64 E]) ∧ BL w' A ([] : List Nat).length [] ∧ Cg (fun b => col b = c) w w' ∧ DocAt (recol col w c) c w' q d := by
  rintro e w' ⟨rfl, hB⟩
  exact ⟨none, 0, 0, 0, rfl, BL.none_ _ _, Cg.of_below _ hB, (h.ext (rec_ext col w c)).below hB⟩
theorem take_p (h : Rel s d) (b1 : -9223372036854775808 ≤ i) (b2 : i ≤ 9223372036854775807) :
    ∃ l sp E d', PairT 24 27 f t i s d (atS s f t i fun n => delS s (wn f t) n) d' l sp E := by
  rcases three h f t i with hw | ⟨hw, hi⟩ | ⟨hw, n, j, x, rfl, hn, hj, hx, hp, hm, hf, ht⟩
  · rw [atS_way hw]
    exact ⟨[], false, 1, d, fun col c p w hN => (take_err w (werr_way _ f t i w (.inr ⟨⟨p, rfl⟩, hw⟩)) (by decide)).mono (none_ans hN), fun col c q w hD => (dtake_err w (ferr_way _ f t i w hw) (by decide)).mono (none_dns hD), h, by omega⟩
  · rw [atS_i hi]
    exact ⟨[], false, 7, d, fun col c p w hN => (take_err w (werr_i w hN hw hi) (by decide)).mono (none_ans hN), fun col c q w hD => (dtake_err w (ferr_i w hD hw (by rw [← h.len hw]; exact hi) b1 b2) (by decide)).mono (none_dns hD), h, by omega⟩
  · rw [atS_yes hw hn]
    refine ⟨x.b, x.sp, 0, delD d j, fun col c p w hN => (take_ok2 n w hN hw hn).mono ?_, fun col c q w hD => (dtake_ok w hD hw hj hx b2).mono ?_, h.del hw hj, by show (d.row.eraseIdx j).length ≤ _; rw [List.length_eraseIdx]; split <;> omega⟩
    · rintro e w' ⟨A, cp, rfl, ⟨g1, g2⟩, g3, g4⟩
      rw [hp] at g1 g2 ⊢
      refine ⟨A, cp, rfl, ⟨g1, fun a e => .inr ?_⟩, g3, g4⟩
      obtain ⟨k1, k2⟩ := g2 a.block (by rw [e]; rfl)
      exact ⟨Nat.lt_of_lt_of_le k1 g3.size, (rec_ext col w c _ k1).trans k2⟩
    · rintro e w' ⟨A, cp, rfl, g1, g2, g3⟩
      exact ⟨A, cp, _, _, rfl, own_bl g1, g2, g3⟩
theorem look_p (h : Rel s d) (b1 : -9223372036854775808 ≤ i) (b2 : i ≤ 9223372036854775807) :
    ∃ l sp E d', PairT 17 32 f t i s d s d' l sp E := by
  rcases three h f t i with hw | ⟨hw, hi⟩ | ⟨hw, n, j, x, rfl, hn, hj, hx, hp, hm, hf, ht⟩
  · exact ⟨[], false, 1, d, fun col c p w hN => (look_err w (werr_way _ f t i w (.inr ⟨⟨p, rfl⟩, hw⟩)) (by decide)).mono (none_ans hN), fun col c q w hD => (dlook_err w (ferr_way _ f t i w hw) (by decide)).mono (none_dns hD), h, by omega⟩
  · exact ⟨[], false, 7, d, fun col c p w hN => (look_err w (werr_i w hN hw hi) (by decide)).mono (none_ans hN), fun col c q w hD => (dlook_err w (ferr_i w hD hw (by rw [← h.len hw]; exact hi) b1 b2) (by decide)).mono (none_dns hD), h, by omega⟩
  · refine ⟨x.b, x.sp, 0, d, fun col c p w hN => (look_ok n w hN hw hn).mono ?_, fun col c q w hD => (dlook_ok w hD hw hj hx b2).mono ?_, h, by omega⟩
    · rintro e w' ⟨A, cp, rfl, g1, g2⟩
      rw [hp] at g1 ⊢
      refine ⟨A, cp, rfl, ⟨own_bl g1, fun a e => .inr ?_⟩, Cg.of_below _ g2, (hN.ext (rec_ext col w c)).below g2⟩
      obtain ⟨k1, k2⟩ := own_ge g1 (b := a.block) (by rw [e]; rfl)
      exact ⟨k2, rec_new k1⟩
    · rintro e w' ⟨A, cp, rfl, g1, g2⟩
      exact ⟨A, cp, _, _, rfl, own_bl g1, Cg.of_below _ g2, (hD.ext (rec_ext col w c)).below g2⟩
end
section
variable {col : Nat → Nat} {c d p q : Nat} {W w1 wx w' : World} {s s' : Ns} {dn dn' : Dn}
/-- The two nets, and a packet's box. -/
def PB (col : Nat → Nat) (c d p q : Nat) (W wx : World) (s : Ns) (dn : Dn) (A : Option Addr) (cp : Nat) (l : List Nat) (sp : Bool) (o : Nat) : Prop :=
  ∃ col', Ext W col col' ∧ Cg (fun b => col b = c ∨ col b = d) W wx ∧ NetAt col' c wx p s ∧ DocAt col' d wx q dn ∧ BL wx A l.length l ∧ (∀ a, A = some a → l.length = 0 ∨ (a.block < wx.heap.size ∧ col' a.block = c)) ∧ col' o = 0 ∧ o < wx.heap.size ∧
    wx.cell? ⟨o, 0, none⟩ = some (.slice A l.length cp) ∧ wx.cell? ⟨o, 1, none⟩ = some (.bool sp)
theorem PB.pq {A : Option Addr} {cp : Nat} {l : List Nat} {sp : Bool} {o : Nat} (h : PB col c d p q W wx s dn A cp l sp o) : PQ col c d p q W wx s dn := by
  obtain ⟨col', h1, h2, h3, h4, -⟩ := h
  exact ⟨col', h1, h2, h3, h4⟩
theorem PQ.netT {F G : FuncId} {f t i : Int} {l : List Nat} {sp : Bool} {E : Nat} (hcd : c ≠ d) (hp : PairT F G f t i s dn s' dn' l sp E) (h : PQ col c d p q W wx s dn) :
    Calls Try.prog F #[.pointer (some ⟨p, 0, none⟩), .int .i64 f, .int .i64 t, .int .i64 i] wx fun e w' => ∃ A cp, e = .returned (.tuple #[.agg #[.slice A l.length cp, .bool sp], .int .i64 E]) ∧
      PB col c d p q W (w'.alloc (.cells #[.slice A l.length cp, .bool sp] 45)) s' dn A cp l sp w'.heap.size := by
  obtain ⟨col', h1, h2, h3, h4⟩ := h
  refine (hp.net col' c p wx h3).mono ?_
  rintro e w' ⟨A, cp, rfl, ⟨g1, g2⟩, g3, g4⟩
  have hB := al0 w' (.cells #[.slice A l.length cp, .bool sp] 45)
  have he := rec_ext (recol col' wx c) w' 0
  refine ⟨A, cp, rfl, recol (recol col' wx c) w' 0, (h1.trans h2.size (rec_ext _ _ _)).trans (Nat.le_trans h2.size g3.size) he, (h2.trans g3 (fun k hk e => .inl (by rw [← e]; exact (h1 k hk).symm))).then hB, (g4.ext he).below hB,
    ((h4.other g3 (fun k _ e1 e2 => hcd (by rw [← e2, e1])) (rec_ext _ _ _)).ext he).below hB, g1.below hB, fun a e => ?_, rec_new (Nat.le_refl _), by simp, ?_, ?_⟩
  · rcases g2 a e with h0 | ⟨k1, k2⟩
    · exact .inl h0
    · exact .inr ⟨Nat.lt_of_lt_of_le k1 hB.size, (he _ k1).trans k2⟩
  · exact (cell_of_row _ _ 0 _ 45 (0, 0) (heap_alloc_new w' _)).trans rfl
  · exact (cell_of_row _ _ 1 _ 45 (0, 0) (heap_alloc_new w' _)).trans rfl
theorem PB.docT {F G : FuncId} {f t i : Int} {l : List Nat} {sp : Bool} {E : Nat} {s0 : Ns} {A : Option Addr} {cp o : Nat} (hcd : c ≠ d) (hd : d ≠ 0) (hp : PairT F G f t i s0 dn s' dn' l sp E) (h : PB col c d p q W wx s dn A cp l sp o) :
    Calls Try.prog G #[.pointer (some ⟨q, 0, none⟩), .int .i64 f, .int .i64 t, .int .i64 i] wx fun e w' => ∃ A2 cp2 f' t', e = .returned (.tuple #[.agg #[.int .i64 f', .int .i64 t', .slice A2 l.length cp2, .bool sp], .int .i64 E]) ∧
      PQ col c d p q W w' s dn' ∧ BL w' A l.length l ∧ BL w' A2 l.length l ∧ o < w'.heap.size ∧ w'.cell? ⟨o, 0, none⟩ = some (.slice A l.length cp) ∧ w'.cell? ⟨o, 1, none⟩ = some (.bool sp) := by
  obtain ⟨col', h1, h2, h3, h4, h5, h6, h7, h8, h9, h10⟩ := h
  refine (hp.doc col' d q wx h4).mono ?_
  rintro e w' ⟨A2, cp2, f', t', rfl, g1, g2, g3⟩
  have he := g2.block o h8 (by omega)
  refine ⟨A2, cp2, f', t', rfl, ⟨recol col' wx d, h1.trans h2.size (rec_ext _ _ _), h2.trans g2 (fun k hk e => .inr (by rw [← e]; exact (h1 k hk).symm)), h3.other g2 (fun k _ e1 e2 => hcd (by rw [← e1, e2])) (rec_ext _ _ _), g3⟩,
    ?_, g1, Nat.lt_of_lt_of_le h8 g2.size, (World.cell?_of_block (a := ⟨o, 0, none⟩) he).trans h9, (World.cell?_of_block (a := ⟨o, 1, none⟩) he).trans h10⟩
  refine ⟨h5.1, h5.2.1, h5.2.2.1, ?_⟩
  rcases h5.2.2.2 with h0 | ⟨b, off, e1, hlt, hc⟩
  · exact .inl h0
  · rcases h6 _ e1 with h0 | ⟨k1, k2⟩
    · exact .inl h0
    · have hb := g2.block b hlt (by have k3 : col' b = c := k2; omega)
      exact .inr ⟨b, off, e1, Nat.lt_of_lt_of_le hlt g2.size, fun j hj => (World.cell?_of_block (a := ⟨b, off + j, none⟩) hb).trans (hc j hj)⟩
end
set_option maxRecDepth 100000 in
set_option maxHeartbeats 2000000 in
theorem do_take {col : Nat → Nat} {c d p q : Nat} {W : World} {s : Ns} {dn : Dn} (f t i a : Int) (y : Nat) (l : List Nat) (A : Option Addr) (cp : Nat) (h : Ready col c d p q W s dn ⟨2, f, t, i, a, y, l⟩ A cp) :
    ∃ dn', Rel (atS s f t i fun n => delS s (wn f t) n) dn' ∧ dn'.row.length ≤ dn.row.length + 1 ∧
      Calls Try.prog 10 #[.pointer (some ⟨p, 0, none⟩), .pointer (some ⟨q, 0, none⟩), .agg (netO.cOp ⟨2, f, t, i, a, y, l⟩ A cp)] W (Done col c d p q W (atS s f t i fun n => delS s (wn f t) n) dn') := by
  obtain ⟨-, -, -, ⟨b1, b2⟩, -⟩ := h.k
  simp only at b1 b2
  obtain ⟨l2, sp, E, dn', hP⟩ := take_p (f := f) (t := t) h.rel b1 b2
  refine ⟨dn', hP.rel, hP.len, ?_⟩
  have hb := h.box
  generalize atS s f t i _ = s' at *
  replace hP := Lib.hid hP
  have hcd := h.cd
  have hc0 := h.c0
  have hd0 := h.d0
  have hBx := Lib.hid (al0 W (.cells #[.int .i64 2, .int .i64 f, .int .i64 t, .int .i64 i, .int .i64 a, .int .u8 y, .slice A l.length cp] 32))
  have hfin : Hid (∀ w', PQ (recol col W 0) c d p q (W.alloc (.cells #[.int .i64 2, .int .i64 f, .int .i64 t, .int .i64 i, .int .i64 a, .int .u8 y, .slice A l.length cp] 32)) w' s' dn' → Done col c d p q W s' dn' (.returned (.bool true)) w') := Lib.hid fun w' hp => ⟨rfl, hp.box hBx.out⟩
  simp only at hb
  generalize hW : W.alloc (.cells #[.int .i64 2, .int .i64 f, .int .i64 t, .int .i64 i, .int .i64 a, .int .u8 y, .slice A l.length cp] 32) = w1 at *
  obtain ⟨o0, o1, o2, o3, -⟩ := hb.ob
  simp only at o0 o1 o2 o3
  have hlt := hb.lt
  have hX := Lib.hid (PQ.netT hcd hP.out (PQ.start hb.n hb.d))
  have hob := Lib.hid (fun (s : Ns) (dn : Dn) (w' : World) (hp : PQ (recol col W 0) c d p q w1 w' s dn) => show S3 W.heap.size f t i w' ∧ W.heap.size < w'.heap.size from by
    have h5 := hp.ob hb.c0 hb.d0 hb.ob hb.lt hb.o0
    exact ⟨⟨h5.2.1, h5.2.2.1, h5.2.2.2.1⟩, World.block_lt_of_cell? _ _ h5.1⟩)
  clear h hb hBx
  unfold netO.cOp
  simp only
  go_enter Try.func10, Try.ntmps10
  go_wp2_with (fail)
  refine hX.out.mono ?_
  rintro e w3 ⟨A3, cp3, rfl, hB3⟩
  obtain ⟨⟨u1, u2, u3⟩, u4⟩ := hob.out _ _ _ hB3.pq
  have hY := Lib.hid (hB3.docT hcd hd0 hP.out)
  clear hB3 o0 o1 o2 o3 hX
  generalize hW3 : w3.alloc (.cells #[.slice A3 l2.length cp3, .bool sp] 45) = w4 at *
  go_wp2_with (fail)
  refine hY.out.mono ?_
  rintro e w5 ⟨A5, cp5, f5, t5, rfl, g1, g2, g3, g4, g5, g6⟩
  have hB5 := al0 w5 (.cells #[.int .i64 f5, .int .i64 t5, .slice A5 l2.length cp5, .bool sp] 66)
  have hR := Lib.hid (hfin.out _ (g1.below hB5))
  have hs := Lib.hid (same_any A3 l2.length cp3 l2 A5 l2.length cp5 _ (g2.below hB5) (g3.below hB5))
  have k5 := (hB5.cell (p := ⟨w3.heap.size, 0, none⟩) g4).trans g5
  have k6 := (hB5.cell (p := ⟨w3.heap.size, 1, none⟩) g4).trans g6
  have k7 := (cell_of_row _ _ 2 _ 66 (0, 0) (heap_alloc_new w5 (.cells #[.int .i64 f5, .int .i64 t5, .slice A5 l2.length cp5, .bool sp] 66))).trans (show _ = some (.slice A5 l2.length cp5) from rfl)
  have k8 := (cell_of_row _ _ 3 _ 66 (0, 0) (heap_alloc_new w5 (.cells #[.int .i64 f5, .int .i64 t5, .slice A5 l2.length cp5, .bool sp] 66))).trans (show _ = some (.bool sp) from rfl)
  have l8 := g4
  clear hB5 g1 g2 g3 g4 g5 g6 hY hfin hob hP hW3 u1 u2 u3 u4
  generalize hW5 : w5.alloc (.cells #[.int .i64 f5, .int .i64 t5, .slice A5 l2.length cp5, .bool sp] 66) = w6 at *
  go_wp2_with (go_at_call 18; ((with_reducible refine (hs.out).mono ?_); rintro e w' ⟨rfl, rfl⟩))

  go_ret
  exact hR.out
set_option maxRecDepth 100000 in
set_option maxHeartbeats 2000000 in
theorem do_look {col : Nat → Nat} {c d p q : Nat} {W : World} {s : Ns} {dn : Dn} (kind f t i a : Int) (y : Nat) (l : List Nat) (A : Option Addr) (cp : Nat) (h : Ready col c d p q W s dn ⟨kind, f, t, i, a, y, l⟩ A cp) (n1 : kind ≠ 1) (n2 : kind ≠ 2) (n3 : kind ≠ 3) (n4 : kind ≠ 4) (n5 : kind ≠ 5) (n6 : kind ≠ 6) :
    ∃ dn', Rel s dn' ∧ dn'.row.length ≤ dn.row.length + 1 ∧
      Calls Try.prog 10 #[.pointer (some ⟨p, 0, none⟩), .pointer (some ⟨q, 0, none⟩), .agg (netO.cOp ⟨kind, f, t, i, a, y, l⟩ A cp)] W (Done col c d p q W s dn') := by
  obtain ⟨-, -, -, ⟨b1, b2⟩, -⟩ := h.k
  simp only at b1 b2
  obtain ⟨l2, sp, E, dn', hP⟩ := look_p (f := f) (t := t) h.rel b1 b2
  refine ⟨dn', hP.rel, hP.len, ?_⟩
  have hb := h.box
  have e1 : (kind == 1) = false := by rw [beq_eq_false_iff_ne]; exact n1
  have e2 : (kind == 2) = false := by rw [beq_eq_false_iff_ne]; exact n2
  have e3 : (kind == 3) = false := by rw [beq_eq_false_iff_ne]; exact n3
  have e4 : (kind == 4) = false := by rw [beq_eq_false_iff_ne]; exact n4
  have e5 : (kind == 5) = false := by rw [beq_eq_false_iff_ne]; exact n5
  have e6 : (kind == 6) = false := by rw [beq_eq_false_iff_ne]; exact n6
  replace hP := Lib.hid hP
  have hcd := h.cd
  have hc0 := h.c0
  have hd0 := h.d0
  have hBx := Lib.hid (al0 W (.cells #[.int .i64 kind, .int .i64 f, .int .i64 t, .int .i64 i, .int .i64 a, .int .u8 y, .slice A l.length cp] 32))
  have hfin : Hid (∀ w', PQ (recol col W 0) c d p q (W.alloc (.cells #[.int .i64 kind, .int .i64 f, .int .i64 t, .int .i64 i, .int .i64 a, .int .u8 y, .slice A l.length cp] 32)) w' s dn' → Done col c d p q W s dn' (.returned (.bool true)) w') := Lib.hid fun w' hp => ⟨rfl, hp.box hBx.out⟩
  simp only at hb
  generalize hW : W.alloc (.cells #[.int .i64 kind, .int .i64 f, .int .i64 t, .int .i64 i, .int .i64 a, .int .u8 y, .slice A l.length cp] 32) = w1 at *
  obtain ⟨o0, o1, o2, o3, -⟩ := hb.ob
  simp only at o0 o1 o2 o3
  have hlt := hb.lt
  have hX := Lib.hid (PQ.netT hcd hP.out (PQ.start hb.n hb.d))
  have hob := Lib.hid (fun (s : Ns) (dn : Dn) (w' : World) (hp : PQ (recol col W 0) c d p q w1 w' s dn) => show S3 W.heap.size f t i w' ∧ W.heap.size < w'.heap.size from by
    have h5 := hp.ob hb.c0 hb.d0 hb.ob hb.lt hb.o0
    exact ⟨⟨h5.2.1, h5.2.2.1, h5.2.2.2.1⟩, World.block_lt_of_cell? _ _ h5.1⟩)
  clear h hb hBx
  unfold netO.cOp
  simp only
  go_enter Try.func10, Try.ntmps10
  go_wp2_with (fail)
  refine hX.out.mono ?_
  rintro e w3 ⟨A3, cp3, rfl, hB3⟩
  obtain ⟨⟨u1, u2, u3⟩, u4⟩ := hob.out _ _ _ hB3.pq
  have hY := Lib.hid (hB3.docT hcd hd0 hP.out)
  clear hB3 o0 o1 o2 o3 hX
  generalize hW3 : w3.alloc (.cells #[.slice A3 l2.length cp3, .bool sp] 45) = w4 at *
  go_wp2_with (fail)
  refine hY.out.mono ?_
  rintro e w5 ⟨A5, cp5, f5, t5, rfl, g1, g2, g3, g4, g5, g6⟩
  have hB5 := al0 w5 (.cells #[.int .i64 f5, .int .i64 t5, .slice A5 l2.length cp5, .bool sp] 66)
  have hR := Lib.hid (hfin.out _ (g1.below hB5))
  have hs := Lib.hid (same_any A3 l2.length cp3 l2 A5 l2.length cp5 _ (g2.below hB5) (g3.below hB5))
  have k5 := (hB5.cell (p := ⟨w3.heap.size, 0, none⟩) g4).trans g5
  have k6 := (hB5.cell (p := ⟨w3.heap.size, 1, none⟩) g4).trans g6
  have k7 := (cell_of_row _ _ 2 _ 66 (0, 0) (heap_alloc_new w5 (.cells #[.int .i64 f5, .int .i64 t5, .slice A5 l2.length cp5, .bool sp] 66))).trans (show _ = some (.slice A5 l2.length cp5) from rfl)
  have k8 := (cell_of_row _ _ 3 _ 66 (0, 0) (heap_alloc_new w5 (.cells #[.int .i64 f5, .int .i64 t5, .slice A5 l2.length cp5, .bool sp] 66))).trans (show _ = some (.bool sp) from rfl)
  have l8 := g4
  clear hB5 g1 g2 g3 g4 g5 g6 hY hfin hob hP hW3 u1 u2 u3 u4
  generalize hW5 : w5.alloc (.cells #[.int .i64 f5, .int .i64 t5, .slice A5 l2.length cp5, .bool sp] 66) = w6 at *
  go_wp2_with (go_at_call 18; ((with_reducible refine (hs.out).mono ?_); rintro e w' ⟨rfl, rfl⟩))

  go_ret
  exact hR.out
open Classical in
/-- what one call makes of a net -/
noncomputable def stepS (m : netO.Op) (s : Ns) : Ns :=
  if m.kind = 1 then sendS s m.from_ m.to_ m.body else
  if m.kind = 2 then atS s m.from_ m.to_ m.i fun n => delS s (wn m.from_ m.to_) n else
  if m.kind = 3 then atS s m.from_ m.to_ m.i fun n => lostS (delS s (wn m.from_ m.to_) n) else
  if m.kind = 4 then atS s m.from_ m.to_ m.i fun n => twS s (wn m.from_ m.to_) n else
  if m.kind = 5 then atS s m.from_ m.to_ m.i fun n => backS s (wn m.from_ m.to_) n else
  if m.kind = 6 then atS s m.from_ m.to_ m.i fun n => spS s (wn m.from_ m.to_) n m.at_ m.mask.toNat else s
theorem do_any {col : Nat → Nat} {c d p q : Nat} {W : World} {s : Ns} {dn : Dn} (m : netO.Op) (A : Option Addr) (cp : Nat) (h : Ready col c d p q W s dn m A cp) :
    ∃ dn', Rel (stepS m s) dn' ∧ dn'.row.length ≤ dn.row.length + 1 ∧
      Calls Try.prog 10 #[.pointer (some ⟨p, 0, none⟩), .pointer (some ⟨q, 0, none⟩), .agg (netO.cOp m A cp)] W (Done col c d p q W (stepS m s) dn') := by
  obtain ⟨kind, f, t, i, a, y, l⟩ := m
  obtain ⟨Y, rfl⟩ : ∃ Y : Nat, y = Y := ⟨y.toNat, by have := h.k.2.2.2.2.2.1.1; simp only at this; omega⟩
  unfold stepS
  simp only [Int.toNat_natCast]
  by_cases k1 : kind = 1
  · subst k1; rw [if_pos rfl]; exact do_send f t i a Y l A cp h
  rw [if_neg k1]
  by_cases k2 : kind = 2
  · subst k2; rw [if_pos rfl]; exact do_take f t i a Y l A cp h
  rw [if_neg k2]
  by_cases k3 : kind = 3
  · subst k3; rw [if_pos rfl]; exact do_lose f t i a Y l A cp h
  rw [if_neg k3]
  by_cases k4 : kind = 4
  · subst k4; rw [if_pos rfl]; exact do_twice f t i a Y l A cp h
  rw [if_neg k4]
  by_cases k5 : kind = 5
  · subst k5; rw [if_pos rfl]; exact do_back f t i a Y l A cp h
  rw [if_neg k5]
  by_cases k6 : kind = 6
  · subst k6; rw [if_pos rfl]; exact do_spoil f t i a Y l A cp h
  rw [if_neg k6]
  exact do_look kind f t i a Y l A cp h k1 k2 k3 k4 k5 k6
/-! ### What one call leaves -/
theorem stepS_lost (m : netO.Op) (s : Ns) : (stepS m s).lost ≤ s.lost + 1 := by
  have k0 : ∀ (g : Nat → Ns), (∀ n, (g n).lost ≤ s.lost + 1) → (atS s m.from_ m.to_ m.i g).lost ≤ s.lost + 1 := fun g hg => by unfold atS; split; exact hg _; omega
  unfold stepS
  split
  · unfold sendS; split
    · unfold sndS; split
      · exact Nat.le_refl _
      · show s.lost ≤ _; omega
    · omega
  split
  · exact k0 _ fun n => by show s.lost ≤ _; omega
  split
  · exact k0 _ fun n => Nat.le_refl _
  split
  · exact k0 _ fun n => by unfold twS; split; omega; show s.lost ≤ _; omega
  split
  · exact k0 _ fun n => by show s.lost ≤ _; omega
  split
  · exact k0 _ fun n => by unfold spS; split; show s.lost ≤ _; omega; omega
  · omega
theorem stepS_other (m : netO.Op) (s : Ns) {k : Nat} (hk : IsWay m.from_ m.to_ → k ≠ wn m.from_ m.to_) : (stepS m s).row k = s.row k := by
  have k0 : ∀ (g : Nat → Ns), (∀ n, k ≠ wn m.from_ m.to_ → (g n).row k = s.row k) → (atS s m.from_ m.to_ m.i g).row k = s.row k := fun g hg => by
    unfold atS; split
    · rename_i h; exact hg _ (hk h.1)
    · rfl
  unfold stepS
  split
  · unfold sendS; split
    · rename_i h
      unfold sndS; split
      · rfl
      · exact upd_other _ _ (hk h)
    · rfl
  split
  · exact k0 _ fun n e => upd_other _ _ e
  split
  · exact k0 _ fun n e => upd_other _ _ e
  split
  · exact k0 _ fun n e => by unfold twS; split; rfl; exact upd_other _ _ e
  split
  · exact k0 _ fun n e => by show upd (upd _ _ _) _ _ _ = _; rw [upd_other _ _ e, upd_other _ _ e]
  split
  · exact k0 _ fun n e => by unfold spS; split; exact upd_other _ _ e; rfl
  · rfl
theorem stepS_same (m : netO.Op) (s u : Ns) (hs : s.row (wn m.from_ m.to_) = u.row (wn m.from_ m.to_)) : (stepS m s).row (wn m.from_ m.to_) = (stepS m u).row (wn m.from_ m.to_) := by
  have k0 : ∀ (g g' : Nat → Ns), (∀ n, (g n).row (wn m.from_ m.to_) = (g' n).row (wn m.from_ m.to_)) → (atS s m.from_ m.to_ m.i g).row (wn m.from_ m.to_) = (atS u m.from_ m.to_ m.i g').row (wn m.from_ m.to_) := fun g g' hg => by
    unfold atS
    rw [hs]
    split
    · exact hg _
    · exact hs
  have hp : ∀ n, pkt s (wn m.from_ m.to_) n = pkt u (wn m.from_ m.to_) n := fun n => by unfold pkt; rw [hs]
  unfold stepS
  split
  · unfold sendS; split
    · unfold sndS; rw [hs]; split
      · exact hs
      · show upd _ _ _ _ = upd _ _ _ _; rw [upd_same, upd_same, hs]
    · exact hs
  split
  · exact k0 _ _ fun n => by show upd _ _ _ _ = upd _ _ _ _; rw [upd_same, upd_same, hs]
  split
  · exact k0 _ _ fun n => by show upd _ _ _ _ = upd _ _ _ _; rw [upd_same, upd_same, hs]
  split
  · exact k0 _ _ fun n => by
      unfold twS; rw [hs, hp]; split
      · exact hs
      · show upd _ _ _ _ = upd _ _ _ _; rw [upd_same, upd_same, hs]
  split
  · exact k0 _ _ fun n => by
      show upd (upd _ _ _) _ (upd _ _ _ _ ++ [pkt s _ _]) _ = upd (upd _ _ _) _ (upd _ _ _ _ ++ [pkt u _ _]) _
      rw [upd_same, upd_same, upd_same, upd_same, hs, hp]
  split
  · exact k0 _ _ fun n => by
      unfold spS; rw [hp]; split
      · show upd _ _ _ _ = upd _ _ _ _; rw [upd_same, upd_same, hs]
      · exact hs
  · exact hs
end Go.Proofs.Ytggoaglcffdcnaa.netSc
