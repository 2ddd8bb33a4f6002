/- WireOwns. -/
import Derived.Test.YtkbhmeajgmecoaaWirOw
namespace Go.Proofs.Ytkbhmeajgmecoaa.wirOx
open Go.ChangeShapes Go.WideShapes Go.ChangeAt Go.RowKit Go.Deep
open numM rowA byt numA numB numC numN numD numE wirM wirA wirB wirD wirE wirF wirG wirH wirL wirN wirP wirQ wirR wirS wirT wirU wirV wirDa wirDb wirDc wirDd wirDe wirDf wirDg wirDh wirDi wirDj wirDk wirDl wirOn wirRg wirDx wirOw

/-- only the block at A changes -/
structure KA (A : Option Addr) (w w' : World) : Prop where
  os : w'.os = w.os
  tape : w'.tape = w.tape
  output : w'.output = w.output
  size : w'.heap.size = w.heap.size
  block : ∀ k, A ≠ some ⟨k, 0, none⟩ → w'.heap[k]? = w.heap[k]?
theorem KA.refl (A : Option Addr) (w : World) : KA A w w := ⟨rfl, rfl, rfl, rfl, fun _ _ => rfl⟩
theorem KA.set {g : Nat} {w w' : World} (h : KA (some ⟨g, 0, none⟩) w w') (j : Nat) (v : Value) : KA (some ⟨g, 0, none⟩) w (w'.setCell ⟨g, j, none⟩ v) :=
  ⟨h.os, h.tape, h.output, by rw [World.size_setCell]; exact h.size, fun k hk => (Below.heap_setCell w' ⟨g, j, none⟩ v k (fun e => hk (by show some (⟨g, 0, none⟩ : Addr) = _; rw [e]))).trans (h.block k hk)⟩
theorem KA.drew {A : Option Addr} {w w' : World} (h : KA A w w') : KA A w w'.drew := ⟨h.os, h.tape, h.output, h.size, h.block⟩
theorem KA.cell {A : Option Addr} {w w' : World} (h : KA A w w') {k : Nat} (hk : A ≠ some ⟨k, 0, none⟩) (i : Nat) : w'.cell? ⟨k, i, none⟩ = w.cell? ⟨k, i, none⟩ := World.cell?_of_block (a := ⟨k, i, none⟩) (h.block k hk)
/-- what stands at every st cells from off on, of A's block -/
def QQ (P : Value → Prop) (st off : Nat) (w : World) (A : Option Addr) (n : Nat) : Prop := ∀ i, i < n → ∃ g u, A = some ⟨g, 0, none⟩ ∧ w.cell? ⟨g, i * st + off, none⟩ = some u ∧ P u ∧ w.frozen? ⟨g, i * st + off, none⟩ = false
theorem QQ.keep {P : Value → Prop} {st off n : Nat} {w w' : World} {A B : Option Addr} (h : QQ P st off w A n) (hk : KA B w w') (hAB : ∀ g, A = some ⟨g, 0, none⟩ → B ≠ some ⟨g, 0, none⟩) : QQ P st off w' A n := by
  intro i hi
  obtain ⟨g, u, e, h1, h2, h3⟩ := h i hi
  have hb := hk.block g (hAB g e)
  exact ⟨g, u, e, (World.cell?_of_block (a := ⟨g, _, none⟩) hb).trans h1, h2, (World.frozen?_of_block (a := ⟨g, _, none⟩) hb).trans h3⟩
theorem QQ.set {P : Value → Prop} {st off n g : Nat} {w : World} (h : QQ P st off w (some ⟨g, 0, none⟩) n) (j : Nat) {u v : Value} (hu : w.cell? ⟨g, j, none⟩ = some u) (hf : w.frozen? ⟨g, j, none⟩ = false) (hv : P v) : QQ P st off (w.setCell ⟨g, j, none⟩ v) (some ⟨g, 0, none⟩) n := by
  intro i hi
  obtain ⟨g', x, e, h1, h2, h3⟩ := h i hi
  cases e
  by_cases hj : i * st + off = j
  · subst hj
    exact ⟨g, v, rfl, (by first | exact World.cell?_setCell_same _ _ hu | exact World.cell?_setCell_same _ _ _ hu), hv, by rw [World.frozen?_setCell]; exact hf⟩
  · have hne : (⟨g, j, none⟩ : Addr) ≠ ⟨g, i * st + off, none⟩ := fun e => hj (by injection e with _ e2; exact e2.symm)
    refine ⟨g, x, rfl, ?_, h2, by rw [World.frozen?_setCell]; exact h3⟩
    first
      | exact (World.cell?_setCell_other _ _ hne).trans h1
      | exact (World.cell?_setCell_other _ _ _ hne).trans h1
      | exact (World.cell?_setCell_other _ _ _ _ hne).trans h1
theorem QQ.drew {P : Value → Prop} {st off n : Nat} {w : World} {A : Option Addr} (h : QQ P st off w A n) : QQ P st off w.drew A n := h
def isB (v : Value) : Prop := ∃ b, v = .bool b
def isN (v : Value) : Prop := ∃ z, v = .int .u64 z
def isY (v : Value) : Prop := ∃ z, v = .int .u8 z
theorem qq_v {base : Nat} {w : World} {A : Option Addr} {c : Nat} {xs : List Vr} (h : vRow base w (.slice A xs.length c) xs) : QQ isB 6 2 w A xs.length := by
  intro i hi
  rcases h.2 with ⟨e, e0⟩ | ⟨g, cap, cur, e, _⟩
  · omega
  · injection e with e1 e2 e3
    subst e1
    have := World.ownsRow.cellAt h (i * 6 + 2) (by omega)
    rw [vcell xs i 2 (.bool (vth xs i).gone) hi rfl] at this
    exact ⟨g, _, rfl, this, ⟨_, rfl⟩, World.ownsRow.frozenAt h _⟩
theorem qq_n {base : Nat} {w : World} {A : Option Addr} {c : Nat} {xs : List Nat} (h : nRow base w (.slice A xs.length c) xs) : QQ isN 1 0 w A xs.length := by
  intro i hi
  rcases h.2 with ⟨e, e0⟩ | ⟨g, cap, cur, e, _⟩
  · omega
  · injection e with e1 e2 e3
    subst e1
    have := World.ownsRow.cellAt h (i * 1 + 0) (by omega)
    rw [List.getElem?_map, List.getElem?_eq_getElem (by omega)] at this
    exact ⟨g, _, rfl, this, ⟨_, rfl⟩, World.ownsRow.frozenAt h _⟩
theorem qq_b {base : Nat} {w : World} {A : Option Addr} {n c : Nat} {l : List Nat} (h : byt.Own w base (.slice A n c) n l) : QQ isY 1 0 w A n := by
  intro i hi
  have h4 := h.2.2.2
  rcases h4.2 with ⟨e, e0⟩ | ⟨g, cap, cur, e, _⟩
  · omega
  · injection e with e1 e2 e3
    subst e1
    have := World.ownsRow.cellAt h4 (i * 1 + 0) (by omega)
    unfold ub at this
    rw [List.getElem?_map, List.getElem?_eq_getElem (by have := h.1; omega)] at this
    exact ⟨g, _, rfl, this, ⟨_, rfl⟩, World.ownsRow.frozenAt h4 _⟩
theorem QQ.below {P : Value → Prop} {st off n : Nat} {w w' : World} {A : Option Addr} (h : QQ P st off w A n) (hA : ∀ g, A = some ⟨g, 0, none⟩ → w'.heap[g]? = w.heap[g]?) : QQ P st off w' A n := by
  intro i hi
  obtain ⟨g, u, e, h1, h2, h3⟩ := h i hi
  exact ⟨g, u, e, (World.cell?_of_block (a := ⟨g, _, none⟩) (hA g e)).trans h1, h2, (World.frozen?_of_block (a := ⟨g, _, none⟩) (hA g e)).trans h3⟩
/-- an own row's block -/
theorem own_in {w : World} {base n sz c : Nat} {e : TypeId} {A : Option Addr} {m : Nat} {xs : List Value} (h : w.ownsRow base e sz (.slice A m c) n xs) : ∀ g, A = some ⟨g, 0, none⟩ → base ≤ g ∧ g < w.heap.size := fun g q => World.ownsRow.lt h g (by rw [q]; rfl)
theorem SM.blk {b : Nat} {m : Ms} {t : At} {w w' : World} (h : SM b m t w) (hb : w'.heap[b]? = w.heap[b]?) (hs : w.heap.size ≤ w'.heap.size) : SM b m t w' := by
  have c : ∀ i, w'.cell? ⟨b, i, none⟩ = w.cell? ⟨b, i, none⟩ := fun i => World.cell?_of_block (a := ⟨b, i, none⟩) hb
  obtain ⟨s0, s1, s2, s3, s4, s5, s6, s7, s8, s9, s10, s11, s12, s13, s14⟩ := h
  exact ⟨(c 0).trans s0, (c 1).trans s1, (c 2).trans s2, (c 3).trans s3, (c 4).trans s4, (c 5).trans s5, (c 6).trans s6, (c 7).trans s7, (c 8).trans s8, (c 9).trans s9, (c 10).trans s10, (c 11).trans s11, (c 12).trans s12, (c 13).trans s13, by omega⟩
set_option maxRecDepth 100000 in
set_option maxHeartbeats 1000000 in
theorem ow1 (m : Ms) (t : At) (w : World) (h1 : 6000 < m.vers.length ∨ 6000 < m.vec.length) :
    Calls Try.prog 11 #[.agg (cm m t)] w (wirV.Yes w) := by
  have hS := SM.new w m t
  have hB := Lib.hid (alloc_below w (.cells (cm m t) 28))
  replace h1 := Lib.hid h1
  obtain ⟨s0, s1, s2, s3, s4, s5, s6, s7, s8, s9, s10, s11, s12, s13, s14⟩ := hS
  go_enter Try.func11, Try.ntmps11
  go_wp2_with (fail)
  refine (great_yes m t _ h1.out).mono ?_
  rintro e w1 ⟨rfl, hB1⟩
  go_wp2_with (fail)
  refine (wirN.awake_any _).mono ?_
  rintro e w2 ⟨rfl, hB2⟩
  go_wp2
  go_ret
  exact ⟨rfl, trans0 (trans0 hB.out hB1) hB2⟩
set_option maxRecDepth 100000 in
set_option maxHeartbeats 1000000 in
theorem ow2 (m : Ms) (t : At) (w : World) (ha : HM w m t) (h1 : m.vers.length ≤ 6000 ∧ m.vec.length ≤ 6000) (hq : ence 2 m ≠ 0) :
    Calls Try.prog 11 #[.agg (cm m t)] w (wirV.Yes w) := by
  have hne : ((ence 2 m : Int) != 0) = true := by rw [bne_iff_ne]; omega
  clear hq
  replace h1 := Lib.hid h1
  have hS := Lib.hid (SM.new w m t)
  have hB := Lib.hid (alloc_below w (.cells (cm m t) 28))
  replace ha := Lib.hid (ha.below hB.out)
  go_enter Try.func11, Try.ntmps11
  go_upto_region 1 with fail
  generalize w.alloc (.cells (cm m t) 28) = W at *
  obtain ⟨s0, s1, s2, s3, s4, s5, s6, s7, s8, s9, s10, s11, s12, s13, s14⟩ := hS.out
  go_wp2_with (fail)
  refine (great_no m t _ h1.out.1 h1.out.2).mono ?_
  rintro e w1a ⟨rfl, hB1a⟩
  replace hS := Lib.hid (hS.out.below hB1a)
  replace ha := Lib.hid (ha.out.below hB1a)
  replace hB := Lib.hid (trans0 hB.out hB1a)
  clear s0 s1 s2 s3 s4 s5 s6 s7 s8 s9 s10 s11 s12 s13 s14 hB1a
  obtain ⟨s0, s1, s2, s3, s4, s5, s6, s7, s8, s9, s10, s11, s12, s13, s14⟩ := hS.out
  go_wp2_with (fail)
  refine (copy_m m t w1a ha.out h1.out).mono ?_
  rintro e w2 ⟨t1, rfl, hm1, hB1⟩
  have hB2 := trans0 hB1 (alloc_below w2 (.cells (cm m t1) 28))
  replace hm1 := Lib.hid (hm1.below (alloc_below w2 (.cells (cm m t1) 28)))
  have hS1 := Lib.hid (SM.new w2 m t1)
  replace hS := Lib.hid (hS.out.below hB2)
  replace ha := Lib.hid (ha.out.below hB2)
  replace hB := Lib.hid (trans0 hB.out hB2)
  clear s0 s1 s2 s3 s4 s5 s6 s7 s8 s9 s10 s11 s12 s13 s14 hB1 hB2
  obtain ⟨s0, s1, s2, s3, s4, s5, s6, s7, s8, s9, s10, s11, s12, s13, s14⟩ := hS.out
  go_upto_region 4 with fail
  generalize w2.alloc (.cells (cm m t1) 28) = w3 at *
  have hen := Lib.hid (enc_any 2 m t w3 ha.out)
  generalize ence 2 m = k at *
  generalize encl 2 m = L at *
  go_wp2_with (fail)
  refine hen.out.mono ?_
  rintro e w4 ⟨A, n, c, rfl, -, hB1⟩
  replace hS := Lib.hid (hS.out.below hB1)
  replace hS1 := Lib.hid (hS1.out.below hB1)
  replace ha := Lib.hid (ha.out.below hB1)
  replace hm1 := Lib.hid (hm1.out.below hB1)
  replace hB := Lib.hid (trans0 hB.out hB1)
  clear s0 s1 s2 s3 s4 s5 s6 s7 s8 s9 s10 s11 s12 s13 s14 hB1 hen
  go_wp2_with (fail)
  refine (wirN.awake_any _).mono ?_
  rintro e w5 ⟨rfl, hB1⟩
  replace hS := hS.out.below hB1
  replace hS1 := hS1.out.below hB1
  have hsm := same_any m m t t1 w5 (ha.out.below hB1) (hm1.out.below hB1)
  rw [decide_eq_true (rfl : m = m)] at hsm
  replace hsm := Lib.hid hsm
  replace hB := Lib.hid (trans0 hB.out hB1)
  obtain ⟨s0, s1, s2, s3, s4, s5, s6, s7, s8, s9, s10, s11, s12, s13, s14⟩ := hS
  obtain ⟨r0, r1, r2, r3, r4, r5, r6, r7, r8, r9, r10, r11, r12, r13, r14⟩ := hS1
  clear hB1 ha hm1
  go_wp2_with (fail)
  refine hsm.out.mono ?_
  rintro e w6 ⟨rfl, hB5⟩
  have hB6 := trans0 hB.out hB5
  clear s0 s1 s2 s3 s4 s5 s6 s7 s8 s9 s10 s11 s12 s13 s14 r0 r1 r2 r3 r4 r5 r6 r7 r8 r9 r10 r11 r12 r13 r14 hB5
  go_wp2
  go_ret
  exact ⟨rfl, hB6⟩
set_option maxRecDepth 100000 in
set_option maxHeartbeats 4000000 in
theorem ow3 (m : Ms) (t : At) (w : World) (ha : HM w m t) (h1 : m.vers.length ≤ 6000 ∧ m.vec.length ≤ 6000) (h3 : chk m = 0) :
    Calls Try.prog 11 #[.agg (cm m t)] w (wirV.Yes w) := by
  have hm := Lib.hid (mok_of ha h3)
  have hlb : Hid (m.vers.length ≤ 6000 ∧ m.vec.length ≤ 6000) := Lib.hid h1
  replace h1 := Lib.hid h1
  replace h3 := Lib.hid h3
  have hS := Lib.hid (SM.new w m t)
  have hB := Lib.hid (alloc_below w (.cells (cm m t) 28))
  replace ha := Lib.hid (ha.below hB.out)
  go_enter Try.func11, Try.ntmps11
  go_upto_region 1 with fail
  generalize w.alloc (.cells (cm m t) 28) = W at *
  obtain ⟨s0, s1, s2, s3, s4, s5, s6, s7, s8, s9, s10, s11, s12, s13, s14⟩ := hS.out
  go_wp2_with (fail)
  refine (great_no m t _ h1.out.1 h1.out.2).mono ?_
  rintro e w1a ⟨rfl, hB1a⟩
  replace hS := Lib.hid (hS.out.below hB1a)
  replace ha := Lib.hid (ha.out.below hB1a)
  replace hB := Lib.hid (trans0 hB.out hB1a)
  clear s0 s1 s2 s3 s4 s5 s6 s7 s8 s9 s10 s11 s12 s13 s14 hB1a
  obtain ⟨s0, s1, s2, s3, s4, s5, s6, s7, s8, s9, s10, s11, s12, s13, s14⟩ := hS.out
  go_wp2_with (fail)
  refine (copy_m m t w1a ha.out h1.out).mono ?_
  rintro e w2 ⟨t1, rfl, hm1, hB1⟩
  have hB2 := trans0 hB1 (alloc_below w2 (.cells (cm m t1) 28))
  replace hm1 := Lib.hid (hm1.below (alloc_below w2 (.cells (cm m t1) 28)))
  have hS1 := Lib.hid (SM.new w2 m t1)
  replace hS := Lib.hid (hS.out.below hB2)
  replace ha := Lib.hid (ha.out.below hB2)
  replace hB := Lib.hid (trans0 hB.out hB2)
  clear s0 s1 s2 s3 s4 s5 s6 s7 s8 s9 s10 s11 s12 s13 s14 hB1 hB2
  obtain ⟨s0, s1, s2, s3, s4, s5, s6, s7, s8, s9, s10, s11, s12, s13, s14⟩ := hS.out
  go_upto_region 4 with fail
  generalize w2.alloc (.cells (cm m t1) 28) = w3 at *
  go_wp2_with (fail)
  refine (enc_ok 2 m t w3 ha.out (.inr rfl) h3.out).mono ?_
  rintro e x1 ⟨A, c1, rfl, ho, hB1⟩
  have hE := Lib.hid hB1
  have hw0 := Lib.hid hB1.size
  obtain ⟨d1, d2, d3, d4⟩ := (show BL x1 A (body 2 m).length (body 2 m) ∧ (body 2 m).length ≤ c1 ∧ c1 ≤ 9223372036854775807 ∧ ((body 2 m).length = 0 ∨ A = none ∨ ∃ b off, A = some ⟨b, off, none⟩ ∧ b < x1.heap.size) from by
    obtain ⟨_, _, e, g1, g2, _, _, hb⟩ := ho.form
    cases e
    refine ⟨hb, g1, g2, ?_⟩
    rcases hb.2.2.2 with h0 | ⟨b, off, rfl, hlt, -⟩
    · exact .inl h0
    · exact .inr (.inr ⟨b, off, rfl, hlt⟩))
  have hd1 := decode_any 2 A c1 (body 2 m) x1 d1 d2 d3 d4
  have hd2 := Lib.hid (fun w' (hw : Below x1.heap.size x1 w') => decode_any 2 A c1 (body 2 m) w' (d1.below hw) d2 d3 (d4.imp id fun h => h.imp id fun ⟨b, off, e, h⟩ => ⟨b, off, e, Nat.lt_of_lt_of_le h hw.size⟩))
  rw [dec_enc 2 m (.inr rfl) hm.out] at hd1 hd2
  replace hd1 := Lib.hid hd1
  have hoA := Lib.hid ho
  have hiA := Lib.hid (own_in ho.2.2.2)
  clear s0 s1 s2 s3 s4 s5 s6 s7 s8 s9 s10 s11 s12 s13 s14 hB1 ho d1 d2 d3 d4
  have hnb0 : Hid ((body 2 m).length ≤ 1099511627776) := Lib.hid (by
    show (if (2 : Int) = 1 then elder m else newer m).length ≤ _
    exact wirK.newer_le m (pts_le m hm.out.1 (mok_fits hm.out)))
  generalize (body 2 m).length = n at *
  go_wp2_with (fail)
  refine hd1.out.mono ?_
  rintro e x2 ⟨tx, rfl, hvx, hnx, hB1⟩
  have hB2 := trans0 hB1 (alloc_below x2 (.cells (cm m tx) 28))
  have hSx := Lib.hid (SM.new x2 m tx)
  have hlx : Hid (x1.heap.size ≤ x2.heap.size ∧ (x2.alloc (.cells (cm m tx) 28)).heap.size = x2.heap.size + 1) := Lib.hid ⟨hB1.size, by simp⟩
  have hiv := Lib.hid (own_in hvx)
  have hin := Lib.hid (own_in hnx)
  have hne : Hid (∀ g, tx.va = some ⟨g, 0, none⟩ → tx.na ≠ some ⟨g, 0, none⟩) := Lib.hid (fun g e e2 => wirRd.rows_ne hvx hnx (by decide) g (by rw [e]; rfl) (by rw [e2]; rfl))
  replace hvx := Lib.hid (hvx.alloc (.cells (cm m tx) 28))
  replace hnx := Lib.hid (hnx.alloc (.cells (cm m tx) 28))
  replace hd2 := Lib.hid (hd2.out _ hB2)
  replace hE := Lib.hid (trans0 hE.out hB2)
  replace hoA := Lib.hid (own_kept hoA.out hB2)
  clear hB1 hB2 hd1
  go_upto_region 8 with fail
  generalize x2.alloc (.cells (cm m tx) 28) = x3 at *
  go_wp2_with (fail)
  refine hd2.out.mono ?_
  rintro e x4 ⟨ty, rfl, hvy, hny, hB1⟩
  have hB2 := trans0 hB1 (alloc_below x4 (.cells (cm m ty) 28))
  have hSy := Lib.hid (SM.new x4 m ty)
  have hly : Hid (x3.heap.size ≤ x4.heap.size) := Lib.hid hB1.size
  have hy := Lib.hid (And.intro (hvy.alloc (.cells (cm m ty) 28)) (hny.alloc (.cells (cm m ty) 28)))
  replace hvx := Lib.hid (own_blk hvx.out (fun k e => hB2.block k (World.ownsRow.lt hvx.out k e).2))
  replace hnx := Lib.hid (own_blk hnx.out (fun k e => hB2.block k (World.ownsRow.lt hnx.out k e).2))
  replace hSx := Lib.hid (hSx.out.below hB2)
  replace hE := Lib.hid (trans0 hE.out hB2)
  replace hoA := Lib.hid (own_kept hoA.out hB2)
  clear hB1 hB2 hd2 hvy hny
  go_upto_region 9 with fail
  generalize x4.alloc (.cells (cm m ty) 28) = x5 at *
  have hq1 := Lib.hid (qq_v hvx.out)
  have hq2 := Lib.hid (qq_n hnx.out)
  have hq3 := Lib.hid (qq_b hoA.out)
  --LOOPS
  have sx6 : x5.cell? ⟨x2.heap.size, 6, none⟩ = some (.slice tx.va m.vers.length tx.vc) := hSx.out.2.2.2.2.2.2.1
  have sx7 : x5.cell? ⟨x2.heap.size, 7, none⟩ = some (.slice tx.na m.vec.length tx.nc) := hSx.out.2.2.2.2.2.2.2.1
  have nv : Hid (tx.va ≠ some ⟨x2.heap.size, 0, none⟩) := Lib.hid (fun e => by have := hiv.out _ e; omega)
  have nn : Hid (tx.na ≠ some ⟨x2.heap.size, 0, none⟩) := Lib.hid (fun e => by have := hin.out _ e; omega)
  have hvA : Hid (∀ g, A = some ⟨g, 0, none⟩ → tx.va ≠ some ⟨g, 0, none⟩ ∧ tx.na ≠ some ⟨g, 0, none⟩) := Lib.hid (fun g e => ⟨fun e2 => by have h8 := (hiv.out _ e2).1; have h9 := (hiA.out _ e).2; omega, fun e2 => by have h8 := (hin.out _ e2).1; have h9 := (hiA.out _ e).2; omega⟩)
  clear hvx hnx hSx
  go_wp2
  go_loopw [10, 44] (fun _ i wr => ∃ k : Nat, i = .int .i64 k ∧ k ≤ m.vers.length ∧ Hid (KA tx.va x5 wr) ∧ Hid (QQ isB 6 2 wr tx.va m.vers.length)) (fun _ i _ => m.vers.length - (intOf i).toNat)
  case atStart => exact ⟨0, rfl, by omega, Lib.hid (KA.refl _ _), hq1⟩
  case round =>
    obtain ⟨k, rfl, hk, hK1, hQ1⟩ := hrel
    have hx6 := (hK1.out.cell nv.out 6).trans sx6
    have hx7 := (hK1.out.cell nv.out 7).trans sx7
    have h6000 := hlb.out.1
    by_cases hlt : k < m.vers.length
    · obtain ⟨g, u, hg, hu, ⟨b, rfl⟩, hf⟩ := hQ1.out k hlt
      rw [hg] at hx6
      have hK2 := hK1.out
      have hQ2 := hQ1.out
      rw [hg] at hK2 hQ2
      have hK3 : Hid (KA tx.va x5 (wr.setCell ⟨g, k * 6 + 2, none⟩ (.bool (!b))).drew) := Lib.hid (by rw [hg]; exact (hK2.set _ _).drew)
      have hQ3 : Hid (QQ isB 6 2 (wr.setCell ⟨g, k * 6 + 2, none⟩ (.bool (!b))).drew tx.va m.vers.length) := Lib.hid (by rw [hg]; exact (hQ2.set _ hu hf ⟨_, rfl⟩).drew)
      clear hK1 hQ1 hK2 hQ2 hx7
      go_wp2
      go_region
      go_wp2
      go_roundw
      case rel => exact ⟨k + 1, by go_num, by omega, hK3, hQ3⟩
      case measure => simp [intOf]; omega
    · have hn2 := Lib.hid (hq2.out.keep hK1.out (fun g e e2 => hne.out g e2 e))
      have hn3 := Lib.hid (hq3.out.keep hK1.out (fun g e => (hvA.out g e).1))
      clear hx6 hQ1
      generalize wr = w6 at *
      go_wp2
      go_loopw [11, 63] (fun _ i wq => ∃ k : Nat, i = .int .i64 k ∧ k ≤ m.vec.length ∧ Hid (KA tx.na w6 wq) ∧ Hid (QQ isN 1 0 wq tx.na m.vec.length)) (fun _ i _ => m.vec.length - (intOf i).toNat)
      case atStart => exact ⟨0, rfl, by omega, Lib.hid (KA.refl _ _), hn2⟩
      case round =>
        obtain ⟨k2, rfl, hk2, hK2, hQ2⟩ := hrel
        have hy7 := (hK2.out.cell nn.out 7).trans hx7
        have h6001 := hlb.out.2
        by_cases hlt2 : k2 < m.vec.length
        · obtain ⟨g, u, hg, hu, ⟨z, rfl⟩, hf⟩ := hQ2.out k2 hlt2
          rw [hg] at hy7
          have hK4 := hK2.out
          have hQ4 := hQ2.out
          rw [hg] at hK4 hQ4
          have hK3 : Hid (∀ v, KA tx.na w6 (wr.setCell ⟨g, k2, none⟩ v)) := Lib.hid (fun v => by rw [hg]; exact hK4.set _ _)
          have hQ3 : Hid (∀ z', QQ isN 1 0 (wr.setCell ⟨g, k2, none⟩ (.int .u64 z')) tx.na m.vec.length) := Lib.hid (fun z' => by rw [hg]; have := hQ4.set _ hu hf ⟨z', rfl⟩; simpa using this)
          simp only [Nat.mul_one, Nat.add_zero] at hu hf
          clear hK2 hQ2 hK4 hQ4
          go_wp2
          go_roundw
          case rel => exact ⟨k2 + 1, by go_num, by omega, Lib.hid (hK3.out _), Lib.hid (hQ3.out _)⟩
          case measure => simp [intOf]; omega
        · have hn4 := Lib.hid (hn3.out.keep hK2.out (fun g e => (hvA.out g e).2))
          clear hQ2 hy7
          generalize wr = w7 at *
          go_wp2
          go_loopw [12, 76] (fun _ i wz => ∃ k : Nat, i = .int .i64 k ∧ k ≤ n ∧ Hid (KA A w7 wz) ∧ Hid (QQ isY 1 0 wz A n)) (fun _ i _ => n - (intOf i).toNat)
          case atStart => exact ⟨0, rfl, by omega, Lib.hid (KA.refl _ _), hn4⟩
          case round =>
            obtain ⟨k3, rfl, hk3, hK3, hQ3⟩ := hrel
            have hnb := hnb0.out
            by_cases hlt3 : k3 < n
            · obtain ⟨g, u, hg, hu, ⟨z, rfl⟩, hf⟩ := hQ3.out k3 hlt3
              subst hg
              have hK4 : Hid (∀ v, KA (some ⟨g, 0, none⟩) w7 (wr.setCell ⟨g, k3, none⟩ v)) := Lib.hid (fun v => hK3.out.set _ _)
              have hQ4 : Hid (∀ z', QQ isY 1 0 (wr.setCell ⟨g, k3, none⟩ (.int .u8 z')) (some ⟨g, 0, none⟩) n) := Lib.hid (fun z' => by have := hQ3.out.set _ hu hf ⟨z', rfl⟩; simpa using this)
              simp only [Nat.mul_one, Nat.add_zero] at hu hf
              clear hK3 hQ3
              go_wp2
              go_roundw
              case rel => exact ⟨k3 + 1, by go_num, by omega, Lib.hid (hK4.out _), Lib.hid (hQ4.out _)⟩
              case measure => simp [intOf]; omega
            · have hall : ∀ k, tx.va ≠ some ⟨k, 0, none⟩ → tx.na ≠ some ⟨k, 0, none⟩ → A ≠ some ⟨k, 0, none⟩ → wr.heap[k]? = x5.heap[k]? := fun k a b c => (hK3.out.block k c).trans ((hK2.out.block k b).trans (hK1.out.block k a))
              have hszs : wr.heap.size = x5.heap.size := hK3.out.size.trans (hK2.out.size.trans hK1.out.size)
              have hw31 := hw0.out
              have hl0 := hlx.out
              have hl1 := hly.out
              have hE2 : Below w3.heap.size w3 wr := ⟨hK3.out.os.trans (hK2.out.os.trans (hK1.out.os.trans hE.out.os)), hK3.out.tape.trans (hK2.out.tape.trans (hK1.out.tape.trans hE.out.tape)), hK3.out.output.trans (hK2.out.output.trans (hK1.out.output.trans hE.out.output)), by rw [hszs]; exact hE.out.size, fun k hk => (hall k (fun e => by have := (hiv.out _ e).1; omega) (fun e => by have := (hin.out _ e).1; omega) (fun e => by have := (hiA.out _ e).1; omega)).trans (hE.out.block k hk)⟩
              have hfar : ∀ k, x3.heap.size ≤ k → wr.heap[k]? = x5.heap[k]? := fun k hk => hall k (fun e => by have := (hiv.out _ e).2; omega) (fun e => by have := (hin.out _ e).2; omega) (fun e => by have := (hiA.out _ e).2; omega)
              have hmy := hm_of hm.out (own_blk hy.out.1 (fun k e => hfar k (World.ownsRow.lt hy.out.1 k e).1)) (own_blk hy.out.2 (fun k e => hfar k (World.ownsRow.lt hy.out.2 k e).1))
              have hSy2 := Lib.hid (SM.blk hSy.out (hfar _ hl1) (by rw [hszs]; exact Nat.le_refl _))
              replace hmy := Lib.hid hmy
              replace ha := Lib.hid (ha.out.below hE2)
              replace hm1 := Lib.hid (hm1.out.below hE2)
              replace hS := Lib.hid (hS.out.below hE2)
              replace hS1 := Lib.hid (hS1.out.below hE2)
              replace hB := Lib.hid (trans0 hB.out hE2)
              clear hall hfar hE2 hE hK1 hK2 hK3 hQ3 hnb hx7 hn2 hn3 hn4 hq1 hq2 hq3 hy hSy sx6 sx7 nv nn hvA hiv hin hiA hne
              go_wp2_with (fail)
              refine (wirN.awake_any _).mono ?_
              rintro e w8 ⟨rfl, hB3⟩
              replace hmy := Lib.hid (hmy.out.below hB3)
              replace ha := Lib.hid (ha.out.below hB3)
              replace hm1 := Lib.hid (hm1.out.below hB3)
              replace hS := Lib.hid (hS.out.below hB3)
              replace hS1 := Lib.hid (hS1.out.below hB3)
              replace hSy2 := hSy2.out.below hB3
              replace hB := Lib.hid (trans0 hB.out hB3)
              have hsm := same_any m m ty t1 w8 hmy.out hm1.out
              rw [decide_eq_true (rfl : m = m)] at hsm
              replace hsm := Lib.hid hsm
              obtain ⟨s0, s1, s2, s3, s4, s5, s6, s7, s8, s9, s10, s11, s12, s13, s14⟩ := hS1.out
              obtain ⟨r0, r1, r2, r3, r4, r5, r6, r7, r8, r9, r10, r11, r12, r13, r14⟩ := hSy2
              clear hB3 hmy
              go_wp2_with (fail)
              refine hsm.out.mono ?_
              rintro e w9 ⟨rfl, hB3⟩
              replace hS := hS.out.below hB3
              replace hS1 := hS1.out.below hB3
              have hsm2 := same_any m m t t1 w9 (ha.out.below hB3) (hm1.out.below hB3)
              rw [decide_eq_true (rfl : m = m)] at hsm2
              replace hsm2 := Lib.hid hsm2
              replace hB := Lib.hid (trans0 hB.out hB3)
              clear s0 s1 s2 s3 s4 s5 s6 s7 s8 s9 s10 s11 s12 s13 s14 r0 r1 r2 r3 r4 r5 r6 r7 r8 r9 r10 r11 r12 r13 r14 hB3 hsm ha hm1
              obtain ⟨s0, s1, s2, s3, s4, s5, s6, s7, s8, s9, s10, s11, s12, s13, s14⟩ := hS
              obtain ⟨r0, r1, r2, r3, r4, r5, r6, r7, r8, r9, r10, r11, r12, r13, r14⟩ := hS1
              go_wp2_with (fail)
              refine hsm2.out.mono ?_
              rintro e w10 ⟨rfl, hB3⟩
              have hB6 := trans0 hB.out hB3
              clear s0 s1 s2 s3 s4 s5 s6 s7 s8 s9 s10 s11 s12 s13 s14 r0 r1 r2 r3 r4 r5 r6 r7 r8 r9 r10 r11 r12 r13 r14 hB3
              go_wp2
              go_ret
              exact ⟨rfl, hB6⟩
theorem owns (m : Ms) (t : At) (w : World) (ha : HM w m t) : Calls Try.prog 11 #[.agg (cm m t)] w (wirV.Yes w) := by
  by_cases h1 : 6000 < m.vers.length ∨ 6000 < m.vec.length
  · exact ow1 m t w h1
  by_cases h3 : chk m = 0
  · exact ow3 m t w ha (by omega) h3
  · exact ow2 m t w ha (by omega) (by unfold ence; rw [if_neg (by decide)]; exact h3)
end Go.Proofs.Ytkbhmeajgmecoaa.wirOx
