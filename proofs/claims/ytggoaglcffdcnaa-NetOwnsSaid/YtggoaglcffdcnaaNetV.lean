/- NetOwns. -/
import Derived.Test.YtggoaglcffdcnaaNetL
namespace Go.Proofs.Ytggoaglcffdcnaa.netV
open Go.ChangeShapes Go.WideShapes Go.ChangeAt Go.RowKit Go.Deep
open numM rowA byt numA numB numC netA netB netC netD netE netG netS netT netK

/-- a net of the call's own, and blocks of X beside it -/
def M2 (w : World) (p : Nat) (s : Ns) (X : Nat → Prop) (wr : World) : Prop := ∃ col, NetAt col 1 wr p s ∧ Below w.heap.size w wr ∧ (∀ i, i < w.heap.size → col i = 0) ∧ ∀ i, X i → i < wr.heap.size ∧ col i = 0
section
variable {w w1 w2 : World} {p : Nat} {s : Ns} {X : Nat → Prop} {f t : Int}
theorem M2.of (h : Mine w p s w1) : M2 w p s (fun _ => False) w1 := by
  obtain ⟨col, h1, h2, h3⟩ := h
  exact ⟨col, h1, h2, h3, fun _ e => e.elim⟩
theorem M2.bel (h : M2 w p s X w1) : Below w.heap.size w w1 := by obtain ⟨col, h1, h2, h3⟩ := h; exact h2
theorem M2.mine (h : M2 w p s X w1) : Mine w p s w1 := by obtain ⟨col, h1, h2, h3, h4⟩ := h; exact ⟨col, h1, h2, h3⟩
theorem M2.below (h : M2 w p s X w1) (hB : Below w1.heap.size w1 w2) : M2 w p s X w2 := by
  obtain ⟨col, h1, h2, h3, h4⟩ := h
  exact ⟨col, h1.below hB, h2.trans (hB.mono h2.size), h3, fun i hi => ⟨Nat.lt_of_lt_of_le (h4 i hi).1 hB.size, (h4 i hi).2⟩⟩
theorem M2.add (h : M2 w p s X w1) (hB : Below w1.heap.size w1 w2) {Y : Nat → Prop} (hY : ∀ b, Y b → w1.heap.size ≤ b ∧ b < w2.heap.size) : M2 w p s (fun i => X i ∨ Y i) w2 := by
  obtain ⟨col, h1, h2, h3, h4⟩ := h
  have hs := h2.size
  refine ⟨recol col w1 0, (h1.ext (rec_ext col w1 0)).below hB, h2.trans (hB.mono hs), fun i hi => ?_, fun i hi => ?_⟩
  · rw [rec_ext col w1 0 i (by omega)]; exact h3 i hi
  · rcases hi with hi | hi
    · exact ⟨Nat.lt_of_lt_of_le (h4 i hi).1 hB.size, by rw [rec_ext col w1 0 i (h4 i hi).1]; exact (h4 i hi).2⟩
    · exact ⟨(hY i hi).2, rec_new (hY i hi).1⟩
/-- What lies beside it may be written. -/
theorem M2.cg (h : M2 w p s X w1) {Y : Nat → Prop} (hY : ∀ b, Y b → X b ∧ w.heap.size ≤ b) (hg : Cg Y w1 w2) : M2 w p s X w2 := by
  obtain ⟨col, h1, h2, h3, h4⟩ := h
  refine ⟨col, h1.other hg (fun k _ hc e => ?_) (Ext.refl _ _), h2.trans (hg.below h2.size fun k hk e => ?_), h3, fun i hi => ⟨Nat.lt_of_lt_of_le (h4 i hi).1 hg.size, (h4 i hi).2⟩⟩
  · have := (h4 k (hY k e).1).2
    rw [hc] at this; cases this
  · have := (hY k e).2
    omega
theorem M2.done {col : Nat → Nat} {s' : Ns} (h2 : Below w.heap.size w w1) (h3 : ∀ i, i < w.heap.size → col i = 0) (h4 : ∀ i, X i → i < w1.heap.size ∧ col i = 0) (hg : Cg (fun b => col b = 1) w1 w2) (hn : NetAt (recol col w1 1) 1 w2 p s') :
    M2 w p s' X w2 ∧ ∀ i, X i → w2.heap[i]? = w1.heap[i]? := by
  refine ⟨⟨recol col w1 1, hn, ?_, fun i hi => ?_, fun i hi => ?_⟩, fun i hi => hg.block i (h4 i hi).1 (by rw [(h4 i hi).2]; decide)⟩
  · exact (Mine.done h2 h3 hg hn).bel
  · rw [rec_ext col w1 1 i (Nat.lt_of_lt_of_le hi h2.size)]; exact h3 i hi
  · exact ⟨Nat.lt_of_lt_of_le (h4 i hi).1 hg.size, by rw [rec_ext col w1 1 i (h4 i hi).1]; exact (h4 i hi).2⟩
theorem m2_send (A : Option Addr) (cap : Nat) (l : List Nat) (h : M2 w p s X w1) (hw : IsWay f t) (hb : BL w1 A l.length l) (hnone : A = none → l.length = 0) (hl : l.length ≤ 100000) (hcn : s.lost < 1000000) :
    Calls Try.prog 20 #[.pointer (some ⟨p, 0, none⟩), .int .i64 f, .int .i64 t, .slice A l.length cap] w1 fun e w' => e = .returned (.int .i64 (sndE s (wn f t))) ∧ M2 w p (sndS s (wn f t) l) X w' ∧ ∀ i, X i → w'.heap[i]? = w1.heap[i]? := by
  obtain ⟨col, h1, h2, h3, h4⟩ := h
  exact (send_ok A cap l w1 h1 hw hb hnone hl hcn).mono fun e w' hd => ⟨hd.1, M2.done h2 h3 h4 hd.2.1 hd.2.2⟩
theorem m2_twice (i : Nat) (h : M2 w p s X w1) (hw : IsWay f t) (hi : i < (s.row (wn f t)).length) :
    Calls Try.prog 21 #[.pointer (some ⟨p, 0, none⟩), .int .i64 f, .int .i64 t, .int .i64 i] w1 fun e w' => e = .returned (.int .i64 (twE s (wn f t))) ∧ M2 w p (twS s (wn f t) i) X w' ∧ ∀ i, X i → w'.heap[i]? = w1.heap[i]? := by
  obtain ⟨col, h1, h2, h3, h4⟩ := h
  exact (twice_ok i w1 h1 hw hi).mono fun e w' hd => ⟨hd.1, M2.done h2 h3 h4 hd.2.1 hd.2.2⟩
theorem m2_spoil (i : Nat) (a : Int) (y : Nat) (h : M2 w p s X w1) (hw : IsWay f t) (hi : i < (s.row (wn f t)).length) (hy : y < 256) :
    Calls Try.prog 23 #[.pointer (some ⟨p, 0, none⟩), .int .i64 f, .int .i64 t, .int .i64 i, .int .i64 a, .int .u8 y] w1 fun e w' => e = .returned (.int .i64 (spE (pkt s (wn f t) i) a y)) ∧ M2 w p (spS s (wn f t) i a y) X w' ∧ ∀ i, X i → w'.heap[i]? = w1.heap[i]? := by
  obtain ⟨col, h1, h2, h3, h4⟩ := h
  exact (spoil_ok i a y w1 h1 hw hi hy).mono fun e w' hd => ⟨hd.1, M2.done h2 h3 h4 hd.2.1 hd.2.2⟩
theorem m2_look (i : Nat) (h : M2 w p s X w1) (hw : IsWay f t) (hi : i < (s.row (wn f t)).length) :
    Calls Try.prog 17 #[.pointer (some ⟨p, 0, none⟩), .int .i64 f, .int .i64 t, .int .i64 i] w1 (Looked w1 (pkt s (wn f t) i)) := by
  obtain ⟨col, h1, h2, h3, h4⟩ := h
  exact look_ok i w1 h1 hw hi
theorem m2_take (i : Nat) (h : M2 w p s X w1) (hw : IsWay f t) (hi : i < (s.row (wn f t)).length) :
    Calls Try.prog 24 #[.pointer (some ⟨p, 0, none⟩), .int .i64 f, .int .i64 t, .int .i64 i] w1 fun e w' => ∃ A cp, e = .returned (.tuple #[.agg #[.slice A (pkt s (wn f t) i).1.length cp, .bool (pkt s (wn f t) i).2], .int .i64 0]) ∧ BL w' A (pkt s (wn f t) i).1.length (pkt s (wn f t) i).1 ∧ Mine w p (delS s (wn f t) i) w' := by
  obtain ⟨col, h1, h2, h3, h4⟩ := h
  exact (take_ok i w1 h1 hw hi).mono fun e w' ⟨A, cp, he, hb, hg, hn⟩ => ⟨A, cp, he, hb, Mine.done h2 h3 hg hn⟩
end
/-- the states of the call's net -/
def s1 (l : List Nat) : Ns := addS nsZ 23 (l, false)
def s2 (l : List Nat) : Ns := addS (s1 l) 23 (l, false)
theorem row1 (l : List Nat) : (s1 l).row 23 = [(l, false)] := rfl
theorem row2 (l : List Nat) : (s2 l).row 23 = [(l, false), (l, false)] := rfl
theorem row3 (l : List Nat) (a : Int) (y : Nat) : ∃ x, (spS (s2 l) 23 1 a y).row 23 = [(l, false), x] := by
  unfold spS
  split
  · exact ⟨_, rfl⟩
  · exact ⟨_, rfl⟩
theorem own_store {w : World} {A : Option Addr} {n c : Nat} {l : List Nat} (h : Own w 0 (.slice A n c) n l) {i y : Nat} (hi : i < n) (hy : y < 256) : ∃ g, A = some ⟨g, 0, none⟩ ∧ w.cell? ⟨g, i, none⟩ = some (.int .u8 (nth l i)) ∧ w.frozen? ⟨g, i, none⟩ = false ∧ nth l i < 256 ∧ g < w.heap.size ∧ Own (w.setCell ⟨g, i, none⟩ (.int .u8 y)) 0 (.slice A n c) n (l.set i y) := by
  obtain ⟨A', c', e, _, _, _, hA, hb⟩ := h.form
  cases e
  obtain ⟨g, off, rfl, hc⟩ := hb.at hi
  obtain ⟨g', e'⟩ := hA _ rfl
  obtain rfl : off = 0 := by cases e'; rfl
  rw [Nat.zero_add] at hc
  have hl : i < l.length := by rw [h.1]; exact hi
  refine ⟨g, rfl, hc, h.2.2.2.frozenAt i, h.2.1 _ (nth_mem hl), World.block_lt_of_cell? _ _ hc, by rw [List.length_set]; exact h.1, fun x hx => ?_, h.2.2.1, ?_⟩
  · rcases List.mem_or_eq_of_mem_set hx with hx | rfl
    · exact h.2.1 x hx
    · exact hy
  · rw [ub_set]; exact (h.2.2.2.stored i (.int .u8 y)).1
set_option maxRecDepth 100000 in
set_option maxHeartbeats 400000 in
theorem owns_great (A : Option Addr) (L cap : Nat) (a : Int) (y : Nat) (w : World) (hL9 : L ≤ 9223372036854775807) (hL : 2000 < L) :
    Calls Try.prog 6 #[.slice A L cap, .int .i64 a, .int .u8 y] w fun e w' => e = .returned (.bool true) ∧ Below w.heap.size w w' := by
  have hL' : (2000 : Int) < L := by omega
  go_enter Try.func6, Try.ntmps6
  go_wp2_with (fail)
  refine (new_any w).mono ?_
  rintro e w1 hN
  obtain rfl := hN.1
  have hB := Lib.hid hN.2.1
  clear hN
  go_wp2
  go_ret
  exact ⟨rfl, hB.out⟩
set_option maxRecDepth 100000 in
set_option maxHeartbeats 2000000 in
theorem owns_small (A : Option Addr) (cap : Nat) (l : List Nat) (a : Int) (y : Nat) (w : World) (hb : BL w A l.length l) (hL : l.length ≤ 2000) (hy : y < 256) :
    Calls Try.prog 6 #[.slice A l.length cap, .int .i64 a, .int .u8 y] w fun e w' => e = .returned (.bool true) ∧ Below w.heap.size w w' := by
  obtain ⟨i0, hi, hz0, hz1, hz2⟩ := info_parts bytes8
  have hL' : ¬ (2000 : Int) < l.length := by omega
  have hw : Hid (IsWay 1 2) := Lib.hid (by decide)
  replace hb := Lib.hid hb
  go_enter Try.func6, Try.ntmps6
  go_wp2_with (fail)
  refine (new_any w).mono ?_
  rintro e w1 hN
  obtain rfl := hN.1
  have hM1 := Lib.hid (M2.of (Mine.new hN))
  clear hN
  have hm := Lib.hid (Own.made w1 w1.heap.size (Nat.le_refl _) [] (by simp) (by simp) #[] rfl)
  have hb1 := Lib.hid (hb.out.below (trans0 hM1.out.bel (al0 w1 (.cells #[] 5))))
  go_wp2_with (at_builtin; (refine wpList_app rfl _ _ 30 rfl w1.heap.size i0 Try.underlying30 hi hz0 hz1 hz2 _ 0 [] rfl hm.out A l.length cap l rfl hb1.out ?c1 ?c2 ?_))
  case c1 => omega
  case c2 => simp
  intro v2 w2 hown2 hg2
  have hB2 := hm.out.grown (al0 w1 (.cells #[] 5)) hg2 (by simp)
  have hM2 := Lib.hid (hM1.out.add hB2 (Y := fun b => v2.ownBlock = some b) (fun b e => own_ge hown2 e))
  obtain ⟨A2, c2, rfl, p1, p2, p3, p4, hb2⟩ := hown2.form
  have ho2 := Lib.hid (own_lo hown2)
  have hA2 := Lib.hid (fun e => own_nil ho2.out e)
  have hlo := Lib.hid (show ∀ b, (Value.slice A2 l.length c2).ownBlock = some b → w.heap.size ≤ b from fun b e => Nat.le_trans hM1.out.bel.size (own_ge hown2 e).1)
  replace hb2 := Lib.hid hb2
  clear hown2 hg2 hB2 hm hb1 p3 p4 hM1
  have hsd := m2_send A2 c2 l hM2.out hw.out hb2.out hA2.out (by omega) (by decide)
  change Calls _ _ _ _ (fun e w' => e = .returned (.int .i64 0) ∧ M2 w w.heap.size (s1 l) (fun b => False ∨ (Value.slice A2 l.length c2).ownBlock = some b) w' ∧ _) at hsd
  replace hsd := Lib.hid hsd
  clear hM2 hb2
  go_wp2_with (fail)
  refine hsd.out.mono ?_
  rintro e w3 ⟨rfl, hM3, hk3⟩
  have ho3 := Lib.hid (own_blk ho2.out fun b e => hk3 b (.inr e))
  have htw := m2_twice 0 hM3 hw.out (by show 0 < ((s1 l).row 23).length; rw [row1]; simp)
  change Calls _ _ #[_, _, _, .int .i64 0] _ (fun e w' => e = .returned (.int .i64 0) ∧ M2 w w.heap.size (s2 l) (fun b => False ∨ (Value.slice A2 l.length c2).ownBlock = some b) w' ∧ _) at htw
  replace htw := Lib.hid htw
  clear hM3 hk3 ho2 hsd
  go_wp2_with (fail)
  refine htw.out.mono ?_
  rintro e w4 ⟨rfl, hM4, hk4⟩
  have ho4 := Lib.hid (own_blk ho3.out fun b e => hk4 b (.inr e))
  have hsp := m2_spoil 1 a y hM4 hw.out (by show 1 < ((s2 l).row 23).length; rw [row2]; simp) hy
  change Calls _ _ #[_, _, _, .int .i64 1, _, _] _ (fun e w' => e = .returned (.int .i64 (spE (l, false) a y)) ∧ M2 w w.heap.size (spS (s2 l) 23 1 a y) (fun b => False ∨ (Value.slice A2 l.length c2).ownBlock = some b) w' ∧ _) at hsp
  obtain ⟨x3, hx3⟩ := row3 l a y
  have hE : Hid (spE (l, false) a y = if a < 0 ∨ (l.length : Int) ≤ a ∨ (y : Int) = 0 then 1 else 0) := Lib.hid (by unfold spE; simp)
  generalize spS (s2 l) 23 1 a y = s3 at *
  generalize spE (l, false) a y = E at *
  replace hsp := Lib.hid hsp
  replace hx3 := Lib.hid hx3
  clear hM4 hk4 ho3 htw
  go_wp2_with (fail)
  refine hsp.out.mono ?_
  rintro e w5 ⟨rfl, hM5, hk5⟩
  have ho5 := Lib.hid (own_blk ho4.out fun b e => hk5 b (.inr e))
  have hpk : pkt s3 23 0 = (l, false) := by unfold pkt; rw [hx3.out]; rfl
  have hlk := m2_look 0 hM5 hw.out (by show 0 < (s3.row 23).length; rw [hx3.out]; simp)
  change Calls _ _ #[_, _, _, .int .i64 0] _ (Looked w5 (pkt s3 23 0)) at hlk
  rw [hpk] at hlk
  replace hlk := Lib.hid hlk
  have hM5' := Lib.hid hM5
  replace hpk := Lib.hid hpk
  clear hM5 hk5 ho4 hsp
  go_wp2_with (fail)
  refine hlk.out.mono ?_
  rintro e w6 ⟨A6, c6, rfl, ho6, hB6⟩
  -- beside it: the bytes that were sent, and those that were looked at
  obtain ⟨w7, hw7⟩ : ∃ w7, w6.alloc (.cells #[.slice A6 l.length c6, .bool false] 45) = w7 := ⟨_, rfl⟩
  have hB7 : Below w6.heap.size w6 w7 := by rw [← hw7]; exact al0 _ _
  have hB57 : Below w5.heap.size w5 w7 := trans0 hB6 hB7
  have hs67 : w6.heap.size < w7.heap.size := by rw [← hw7]; simp
  have ho6l := own_lo ho6
  have ho7p := Lib.hid (own_blk ho6l fun b e => hB7.block b (own_ge ho6l e).2)
  have ho7m := Lib.hid (own_blk ho5.out fun b e => hB57.block b (own_ge ho5.out e).2)
  have hM7 := Lib.hid (hM5'.out.add hB57 (Y := fun b => (Value.slice A6 l.length c6).ownBlock = some b) (fun b e => ⟨(own_ge ho6 e).1, Nat.lt_trans (own_ge ho6 e).2 hs67⟩))
  have hcp : w7.cell? ⟨w6.heap.size, 0, none⟩ = some (.slice A6 l.length c6) := by
    rw [← hw7]
    exact cell_of_row _ _ 0 #[.slice A6 l.length c6, .bool false] 45 (0, 0) (heap_alloc_new w6 _)
  have hap : Hid (∀ b, (Value.slice A2 l.length c2).ownBlock = some b → (Value.slice A6 l.length c6).ownBlock ≠ some b ∧ b ≠ w6.heap.size) := Lib.hid fun b e => by
    have h1 := (own_ge ho5.out e).2
    have h2 := hB6.size
    refine ⟨fun e2 => ?_, by omega⟩
    have := (own_ge ho6 e2).1
    omega
  have hap6 : Hid (∀ b, (Value.slice A6 l.length c6).ownBlock = some b → b ≠ w6.heap.size ∧ w.heap.size ≤ b) := Lib.hid fun b e => by
    have h1 := own_ge ho6 e
    have h2 := hM5'.out.bel.size
    exact ⟨by omega, by omega⟩
  replace hcp := Lib.hid hcp
  replace hw7 := Lib.hid hw7
  clear hB6 hB7 hB57 ho6 ho6l ho5 hM5' hlk
  have hlmax := p2
  clear p1 p2 hs67
  go_wp2_with (fail)
  rw [hw7.out]
  go_loopw [49] (fun i wr => ∃ (k : Nat) (l' : List Nat), k ≤ l.length ∧ i = .int .i64 k ∧ Hid (Cg (fun b => (Value.slice A2 l.length c2).ownBlock = some b) w7 wr) ∧ Hid (Own wr 0 (.slice A2 l.length c2) l.length l')) (fun i _ => l.length - (intOf i).toNat)
  case atStart => exact ⟨0, l, by omega, rfl, Cg.refl _ _, ho7m.out⟩
  case round =>
    obtain ⟨k, l', hk, rfl, hC, hO⟩ := hrel
    by_cases hlt : k < l.length
    · have hkI : (k : Int) < (l.length : Int) := by omega
      have h255 : nth l' k ^^^ 255 < 256 := Nat.xor_lt_two_pow (n := 8) (by
        have hk' : k < l'.length := by rw [hO.out.1]; exact hlt
        exact hO.out.2.1 _ (nth_mem hk')) (by decide)
      obtain ⟨g, rfl, z0, z1, z2, z3, z4⟩ := own_store hO.out hlt h255
      have hx : bits .xor .u8 (nth l' k : Int) 255 = ((nth l' k ^^^ 255 : Nat) : Int) := u8_xor_nat _ 255 z2 (by decide)
      have hC2 := Lib.hid (hC.out.setCell (p := ⟨g, k, none⟩) (show (Value.slice (some ⟨g, 0, none⟩) l.length c2).ownBlock = some g from rfl) (.int .u8 (nth l' k ^^^ 255 : Nat)))
      replace z4 := Lib.hid z4
      clear hC hO z3 h255 ho7m ho7p hM7 hcp hap hap6
      generalize nth l' k ^^^ 255 = Y at *
      generalize nth l' k = Z at *
      go_wp2
      go_roundw
      case rel => exact ⟨k + 1, l'.set k Y, by omega, by go_num, hC2, z4⟩
      case measure => simp [intOf]; omega
    · obtain rfl : k = l.length := by omega
      have hM8 := Lib.hid (hM7.out.cg (Y := fun b => (Value.slice A2 l.length c2).ownBlock = some b) (fun b e => ⟨.inl (.inr e), hlo.out b e⟩) hC.out)
      have ho8p := Lib.hid (own_blk ho7p.out fun b e => hC.out.block b (own_ge ho7p.out e).2 (fun e2 => (hap.out b e2).1 e))
      have hcl := World.block_lt_of_cell? _ _ hcp.out
      have hcp8 : wr.cell? ⟨w6.heap.size, 0, none⟩ = some (.slice A6 l.length c6) := (World.cell?_of_block (a := ⟨w6.heap.size, 0, none⟩) (hC.out.block w6.heap.size hcl (fun e => (hap.out _ e).2 rfl))).trans hcp.out
      clear hC hO hM7 ho7p ho7m hcp hap hlt hk hcl hw7
      generalize wr = w8 at *
      go_wp2
      replace hcp8 := Lib.hid hcp8
      go_loopw [62] (fun i wr => ∃ (k : Nat) (l' : List Nat), k ≤ l.length ∧ i = .int .i64 k ∧ Hid (Cg (fun b => (Value.slice A6 l.length c6).ownBlock = some b) w8 wr) ∧ Hid (Own wr 0 (.slice A6 l.length c6) l.length l')) (fun i _ => l.length - (intOf i).toNat)
      case atStart => exact ⟨0, l, by omega, rfl, Cg.refl _ _, ho8p.out⟩
      case round =>
        obtain ⟨k, l', hk, rfl, hC, hO⟩ := hrel
        have hcl := World.block_lt_of_cell? _ _ hcp8.out
        have hcp9 : wr.cell? ⟨w6.heap.size, 0, none⟩ = some (.slice A6 l.length c6) := (World.cell?_of_block (a := ⟨w6.heap.size, 0, none⟩) (hC.out.block w6.heap.size hcl (fun e => (hap6.out _ e).1 rfl))).trans hcp8.out
        clear hcl
        by_cases hlt : k < l.length
        · have hkI : (k : Int) < (l.length : Int) := by omega
          have h255 : nth l' k ^^^ 255 < 256 := Nat.xor_lt_two_pow (n := 8) (by
            have hk' : k < l'.length := by rw [hO.out.1]; exact hlt
            exact hO.out.2.1 _ (nth_mem hk')) (by decide)
          obtain ⟨g, rfl, z0, z1, z2, z3, z4⟩ := own_store hO.out hlt h255
          have hx : bits .xor .u8 (nth l' k : Int) 255 = ((nth l' k ^^^ 255 : Nat) : Int) := u8_xor_nat _ 255 z2 (by decide)
          have hC2 := Lib.hid (hC.out.setCell (p := ⟨g, k, none⟩) (show (Value.slice (some ⟨g, 0, none⟩) l.length c6).ownBlock = some g from rfl) (.int .u8 (nth l' k ^^^ 255 : Nat)))
          replace z4 := Lib.hid z4
          clear hC hO z3 h255 hM8 ho8p hcp8 hap6
          generalize nth l' k ^^^ 255 = Y at *
          generalize nth l' k = Z at *
          go_wp2
          go_roundw
          case rel => exact ⟨k + 1, l'.set k Y, by omega, by go_num, hC2, z4⟩
          case measure => simp [intOf]; omega
        · obtain rfl : k = l.length := by omega
          have hM9 := hM8.out.cg (Y := fun b => (Value.slice A6 l.length c6).ownBlock = some b) (fun b e => ⟨.inr e, (hap6.out b e).2⟩) hC.out
          have htk := m2_take 0 hM9 hw.out (by show 0 < (s3.row 23).length; rw [hx3.out]; simp)
          change Calls _ _ #[_, _, _, .int .i64 0] _ (fun e w' => ∃ A cp, e = .returned (.tuple #[.agg #[.slice A (pkt s3 23 0).1.length cp, .bool (pkt s3 23 0).2], .int .i64 0]) ∧ BL w' A (pkt s3 23 0).1.length (pkt s3 23 0).1 ∧ Mine w w.heap.size (delS s3 23 0) w') at htk
          rw [hpk.out] at htk
          replace htk := Lib.hid htk
          clear hM9 hM8 ho8p hC hO hcp8 hcp9 hlt hk hap6
          go_wp2_with (fail)
          refine htk.out.mono ?_
          rintro e w10 ⟨A10, c10, rfl, hb10, hM10⟩
          obtain ⟨w11, hw11⟩ : ∃ w11, w10.alloc (.cells #[.slice A10 l.length c10, .bool false] 45) = w11 := ⟨_, rfl⟩
          have hB11 : Below w10.heap.size w10 w11 := by rw [← hw11]; exact al0 _ _
          have hb11 := hb10.below hB11
          have hM11 := hM10.below hB11
          have d0 : w11.cell? ⟨w10.heap.size, 0, none⟩ = some (.slice A10 l.length c10) := by
            rw [← hw11]
            exact cell_of_row _ _ 0 #[.slice A10 l.length c10, .bool false] 45 (0, 0) (heap_alloc_new w10 _)
          have d1 : w11.cell? ⟨w10.heap.size, 1, none⟩ = some (.bool false) := by
            rw [← hw11]
            exact cell_of_row _ _ 1 #[.slice A10 l.length c10, .bool false] 45 (0, 0) (heap_alloc_new w10 _)
          have dl := World.block_lt_of_cell? _ _ d0
          replace hb11 := Lib.hid hb11
          replace hM11 := Lib.hid hM11
          replace hw11 := Lib.hid hw11
          replace d0 := Lib.hid d0
          replace d1 := Lib.hid d1
          clear hb10 hM10 hB11 htk
          go_wp2_with (fail)
          rw [hw11.out]
          refine (awake_any w11).mono ?_
          rintro e w12 ⟨rfl, hB12⟩
          have e0 := (hB12.cell (p := ⟨w10.heap.size, 0, none⟩) dl).trans d0.out
          have e1 := (hB12.cell (p := ⟨w10.heap.size, 1, none⟩) dl).trans d1.out
          have hsm := Lib.hid (same_any A10 l.length c10 l A l.length cap w12 (hb11.out.below hB12) (hb.out.below (trans0 hM11.out.bel hB12)))
          have hfin := Lib.hid (trans0 hM11.out.bel hB12)
          clear hB12 hb11 hM11 hw11 d0 d1 dl hpk hx3
          by_cases a1 : a < 0
          · obtain rfl : E = 1 := by rw [hE.out, if_pos (.inl a1)]
            clear hE
            go_wp2_with (go_at_call 18; ((with_reducible refine (hsm.out).mono ?_); rintro e w' ⟨rfl, rfl⟩))
            go_ret
            exact ⟨rfl, hfin.out⟩
          by_cases a2 : (l.length : Int) ≤ a
          · obtain rfl : E = 1 := by rw [hE.out, if_pos (.inr (.inl a2))]
            have a1' : 0 ≤ a := by omega
            clear hE a1
            go_wp2_with (go_at_call 18; ((with_reducible refine (hsm.out).mono ?_); rintro e w' ⟨rfl, rfl⟩))
            go_ret
            exact ⟨rfl, hfin.out⟩
          by_cases a3 : (y : Int) = 0
          · obtain rfl : E = 1 := by rw [hE.out, if_pos (.inr (.inr a3))]
            have a1' : 0 ≤ a := by omega
            have a2' : a < l.length := by omega
            have a3' : ((y : Int) != 0) = false := by rw [bne_eq_false_iff_eq]; exact a3
            clear hE a1 a2 a3
            go_wp2_with (go_at_call 18; ((with_reducible refine (hsm.out).mono ?_); rintro e w' ⟨rfl, rfl⟩))
            go_ret
            exact ⟨rfl, hfin.out⟩
          · obtain rfl : E = 0 := by rw [hE.out, if_neg (by omega)]
            have a1' : 0 ≤ a := by omega
            have a2' : a < l.length := by omega
            have a3' : ((y : Int) != 0) = true := by rw [bne_iff_ne]; exact a3
            clear hE a1 a2 a3
            go_wp2_with (go_at_call 18; ((with_reducible refine (hsm.out).mono ?_); rintro e w' ⟨rfl, rfl⟩))
            go_ret
            exact ⟨rfl, hfin.out⟩
theorem owns_any (A : Option Addr) (n cap : Nat) (l : List Nat) (a y : Int) (w : World) (hb : BL w A n l) (hy0 : 0 ≤ y) (hy : y < 256) :
    Calls Try.prog 6 #[.slice A n cap, .int .i64 a, .int .u8 y] w fun e w' => e = .returned (.bool true) ∧ Below w.heap.size w w' := by
  obtain ⟨z, rfl⟩ : ∃ z : Nat, y = z := ⟨y.toNat, by omega⟩
  have h1 := hb.1
  subst h1
  by_cases h : l.length ≤ 2000
  · exact owns_small A cap l a z w hb h (by omega)
  · exact owns_great A l.length cap a z w hb.2.1 (by omega)
end Go.Proofs.Ytggoaglcffdcnaa.netV
