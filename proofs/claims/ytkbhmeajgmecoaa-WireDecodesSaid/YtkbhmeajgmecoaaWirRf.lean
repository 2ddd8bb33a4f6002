/- The document's reader: commands. -/
import Derived.Test.YtkbhmeajgmecoaaWirRe
namespace Go.Proofs.Ytkbhmeajgmecoaa.wirRf
open Go.ChangeShapes Go.WideShapes Go.ChangeAt Go.RowKit Go.Deep
open numM rowA byt numA numB numC numN numD numE wirM wirA wirL wirP wirQ wirR wirDa wirDb wirDf wirDg wirDh wirDi wirRa wirRb wirRc wirRd wirRe

theorem MT.grown {w w' : World} {mb B b : Nat} {m : Ms} {t : At} {v : Value} {n : Nat} {xs : List Value} (h : MT w mb B m t) (hB : mb < B) (hg : w.grownBy w' v.ownBlock) (ho : w.ownsRow b 3 1 v n xs) (hb : B ≤ b) : MT w' mb B m t :=
  ⟨h.row.of_block (hg.block mb h.row.lt (fun e => by have := (World.ownsRow.lt ho mb e.symm).1; omega)),
    own_blk h.vs (fun k e => hg.block k (World.ownsRow.lt h.vs k e).2 (fun q => rows_ne h.vs ho (by decide) k e q.symm)),
    own_blk h.ns (fun k e => hg.block k (World.ownsRow.lt h.ns k e).2 (fun q => rows_ne h.ns ho (by decide) k e q.symm))⟩
theorem infoI : (Try.prog.info? 3).map (fun i => (i.zero, i.size, i.bytes)) = some (some (.int .i64 0), 1, 8) := by kernel_rfl
theorem neq_cmd (c : Cm) (w : World) :
    (binOp .neq 26 (.agg (cc c)) (.agg #[.int .i64 0, .int .i64 0, .int .i64 0, .int .i64 0, .int .i64 0, .string ⟨#[]⟩])).run Try.prog w = .ok (.bool (decide (c ≠ Cm.nought))) w := by
  obtain ⟨a, b, d, e, f, s⟩ := c
  have size_zero : s.toList = [] ↔ s = ⟨#[]⟩ := by
    rw [ByteArray.toList_eq]
    constructor
    · intro h
      cases s with
      | mk d => simp at h; rw [h]
    · rintro rfl; rfl
  unfold Cm.nought
  go_simp
  by_cases h1 : a = 0 <;> by_cases h2 : b = 0 <;> by_cases h3 : d = 0 <;> by_cases h4 : e = 0 <;> by_cases h5 : f = 0 <;> by_cases h6 : s = ⟨#[]⟩ <;> simp [h1, h2, h3, h4, h5, h6]
def iv (xs : List Int) : List Value := xs.map fun x => .int .i64 x
theorem five {xs : List Int} (h : xs.length = 5) : ∃ a b c d e, xs = [a, b, c, d, e] := by
  match xs, h with
  | [a, b, c, d, e], _ => exact ⟨a, b, c, d, e, rfl⟩
/-- the command's six cells are stored -/
theorem MT.cmd {w : World} {mb B : Nat} {m : Ms} {t : At} (h : MT w mb B m t) (hB : mb < B) (c : Cm) :
    MT ((((((w.setCell ⟨mb, 8, none⟩ (.int .i64 c.kind)).setCell ⟨mb, 9, none⟩ (.int .i64 c.dc)).setCell ⟨mb, 10, none⟩ (.int .i64 c.shard)).setCell ⟨mb, 11, none⟩ (.int .i64 c.node)).setCell ⟨mb, 12, none⟩ (.int .i64 c.mode)).setCell ⟨mb, 13, none⟩ (.string c.key)) mb B { m with cmd := c } t := by
  have g1 := h.set (m' := { m with cmd := { m.cmd with kind := c.kind } }) hB 8 (.int .i64 c.kind) rfl rfl (j14 rfl rfl rfl rfl rfl rfl rfl rfl rfl rfl rfl rfl rfl rfl)
  have g2 := g1.set (m' := { m with cmd := { m.cmd with kind := c.kind, dc := c.dc } }) hB 9 (.int .i64 c.dc) rfl rfl (j14 rfl rfl rfl rfl rfl rfl rfl rfl rfl rfl rfl rfl rfl rfl)
  have g3 := g2.set (m' := { m with cmd := { m.cmd with kind := c.kind, dc := c.dc, shard := c.shard } }) hB 10 (.int .i64 c.shard) rfl rfl (j14 rfl rfl rfl rfl rfl rfl rfl rfl rfl rfl rfl rfl rfl rfl)
  have g4 := g3.set (m' := { m with cmd := { m.cmd with kind := c.kind, dc := c.dc, shard := c.shard, node := c.node } }) hB 11 (.int .i64 c.node) rfl rfl (j14 rfl rfl rfl rfl rfl rfl rfl rfl rfl rfl rfl rfl rfl rfl)
  have g5 := g4.set (m' := { m with cmd := { m.cmd with kind := c.kind, dc := c.dc, shard := c.shard, node := c.node, mode := c.mode } }) hB 12 (.int .i64 c.mode) rfl rfl (j14 rfl rfl rfl rfl rfl rfl rfl rfl rfl rfl rfl rfl rfl rfl)
  exact g5.set (m' := { m with cmd := c }) hB 13 (.string c.key) rfl rfl (j14 rfl rfl rfl rfl rfl rfl rfl rfl rfl rfl rfl rfl rfl rfl)
/-- the five numbers lie at g -/
abbrev SK (u mb g : Nat) (a b d e f : Int) (w : World) : Prop :=
  w.cell? ⟨g, 0, none⟩ = some (.int .i64 a) ∧ w.cell? ⟨g, 1, none⟩ = some (.int .i64 b) ∧ w.cell? ⟨g, 2, none⟩ = some (.int .i64 d) ∧ w.cell? ⟨g, 3, none⟩ = some (.int .i64 e) ∧ w.cell? ⟨g, 4, none⟩ = some (.int .i64 f) ∧ g < w.heap.size ∧ g ≠ mb ∧ g ≠ u
theorem SK.block {u mb g : Nat} {a b d e f : Int} {w w' : World} (h : SK u mb g a b d e f w) (hb : w'.heap[g]? = w.heap[g]?) (hs : w.heap.size ≤ w'.heap.size) : SK u mb g a b d e f w' := by
  have c : ∀ i, w'.cell? ⟨g, i, none⟩ = w.cell? ⟨g, i, none⟩ := fun i => World.cell?_of_block (a := ⟨g, i, none⟩) hb
  obtain ⟨h0, h1, h2, h3, h4, h5, h6, h7⟩ := h
  exact ⟨(c 0).trans h0, (c 1).trans h1, (c 2).trans h2, (c 3).trans h3, (c 4).trans h4, Nat.lt_of_lt_of_le h5 hs, h6, h7⟩
theorem SK.gr {u mb g : Nat} {a b d e f : Int} {w w' : World} (h : SK u mb g a b d e f w) (hg : Gr u w w') : SK u mb g a b d e f w' :=
  h.block (hg.block g h.2.2.2.2.2.1 h.2.2.2.2.2.2.2) hg.size
theorem SK.set1 {u mb g : Nat} {a b d e f : Int} {w : World} (h : SK u mb g a b d e f w) (i : Nat) (x : Value) : SK u mb g a b d e f (w.setCell ⟨mb, i, none⟩ x) :=
  h.block (Below.heap_setCell w ⟨mb, i, none⟩ x g h.2.2.2.2.2.2.1) (by rw [World.size_setCell]; exact Nat.le_refl _)
theorem SK.set6 {u mb g : Nat} {a b d e f : Int} {w : World} (h : SK u mb g a b d e f w) (x0 x1 x2 x3 x4 x5 : Value) :
    SK u mb g a b d e f ((((((w.setCell ⟨mb, 8, none⟩ x0).setCell ⟨mb, 9, none⟩ x1).setCell ⟨mb, 10, none⟩ x2).setCell ⟨mb, 11, none⟩ x3).setCell ⟨mb, 12, none⟩ x4).setCell ⟨mb, 13, none⟩ x5) :=
  (((((h.set1 8 x0).set1 9 x1).set1 10 x2).set1 11 x3).set1 12 x4).set1 13 x5
set_option maxRecDepth 100000 in
set_option maxHeartbeats 1000000 in
theorem part_7 {u mb B : Nat} {W w : World} {m : Ms} {t : At} {l : List Nat} (v : Int) (hv : v = 1 ∨ v = 2) (hs : SAt w u (.ok l)) (hm : MT w mb B m t) (hu : u < mb) (hmb : mb < B) (hB : B ≤ w.heap.size) (hW : Below W.heap.size W w) (hWu : W.heap.size ≤ u) :
    Calls Try.prog 41 #[.pointer (some ⟨u, 0, none⟩), .int .i64 v, .int .i64 7, .pointer (some ⟨mb, 0, none⟩)] w (PR u mb B W v 7 m l) := by
  have hfin : Hid (∀ (w' : World) (s s' : Except Nat (List Nat)) (xs : List Int) (key : ByteArray), on (.ok l) (rRow (fun _ => 0) (fun _ => rNum v) 0 5) = on s (R.ret xs) → on s (rTxt v 16) = on s' (R.ret key) → SAt w' u s' → MT w' mb B { m with cmd := cm5 xs key } t → Below W.heap.size W w' → PR u mb B W v 7 m l (.returned (.bool (decide (cm5 xs key ≠ Cm.nought)))) w') := Lib.hid fun w' s s' xs key h1 h2 h3 h4 h5 => by
    refine ⟨s', { m with cmd := cm5 xs key }, t, _, rfl, h3, h4, ?_, h5, fun h => by omega, fun h => by omega⟩
    show on (.ok l) ((rCmdD v).seq _) = _
    rw [cmd_row, seq_assoc, on_then h1, seq_assoc, on_then h2]; rfl
  have hs := Lib.hid (hs.alloc (.cells #[] 3))
  have hm := Lib.hid (hm.gr ((Gr.refl u w).alloc (.cells #[] 3)) (by omega) (by omega))
  have hW := Lib.hid (hW.alloc hW.size (.cells #[] 3))
  have ho : Hid ((w.alloc (.cells #[] 3)).ownsRow w.heap.size 3 1 (.slice (some ⟨w.heap.size, 0, none⟩) 0 0) 0 (iv [])) := Lib.hid ⟨rfl, .inr ⟨w.heap.size, 0, #[], rfl, Nat.le_refl _, heap_alloc_new _ _, Nat.le_refl _, Nat.zero_le _, rfl, rfl⟩⟩
  have hB1 : B ≤ (w.alloc (.cells #[] 3)).heap.size := Nat.le_trans hB (by simp)
  obtain ⟨i0, hi, hz0, hz1, hz2⟩ := info_parts infoI
  go_enter Try.func41, Try.ntmps41
  go_wp2
  generalize w.alloc (.cells #[] 3) = w1 at *
  go_loopw [15, 16] (fun lv i wr => ∃ (k : Nat) (xs : List Int) (s : Except Nat (List Nat)), i = .int .i64 k ∧ k ≤ 5 ∧ xs.length = k ∧ Hid (wr.ownsRow w.heap.size 3 1 lv k (iv xs)) ∧ Hid (Ch (.ok l) (fun _ => 0) (fun _ => rNum v) 5 s 0 k xs) ∧ Hid (MT wr mb B m t) ∧ Hid (SAt wr u s) ∧ Hid (Below W.heap.size W wr) ∧ B ≤ wr.heap.size ∧ Hid (w.heap.size ≤ wr.heap.size)) (fun _ i _ => 5 - (intOf i).toNat)
  case atStart => exact ⟨0, [], .ok l, rfl, by omega, rfl, ho, Lib.hid (Ch.start _ _ _ _), hm, hs, hW, hB1, Lib.hid (Nat.le_of_lt (World.ownsRow.lt ho.out w.heap.size rfl).2)⟩
  case round =>
    clear hs hm hW ho hB1
    obtain ⟨k, xs, s, rfl, hk, hxl, hO, hC, hM, hS, hW, hBr, hwr⟩ := hrel
    obtain ⟨A, c, rfl, -, -⟩ := own_form hO.out
    by_cases hlt : k < 5
    · have hx := Lib.hid (on_num (v := v) hS.out.lt256)
      replace hx : Hid (on s (rNum v) = _) := Lib.hid (hx.out.trans (by rw [lim_on]))
      have hnm := Lib.hid (number_s v hv 1 wr hS.out (by omega) (by omega))
      clear hS hfin
      go_wp2_with (fail)
      refine hnm.out.mono ?_
      rintro e w2 ⟨rfl, hs2, hg2⟩
      replace hM := Lib.hid (hM.out.gr hg2 (show u < B by omega) (by omega))
      replace hW := Lib.hid (hW.out.trans (hg2.below hW.out.size hWu))
      replace hBr : B ≤ w2.heap.size := Nat.le_trans hBr hg2.size
      replace hwr := Lib.hid (Nat.le_trans hwr.out hg2.size)
      replace hO := Lib.hid (own_gr hO.out hg2 (show u < w.heap.size by omega))
      have hms := Lib.hid (most_s (vl 0 (on s (rn v 1))) 255 1 (by decide) (by decide) w2 hs2)
      clear hs2 hg2 hnm
      unfold wirRb.vU
      generalize vl 0 (on s (rn v 1)) = y at *
      generalize stt (on s (rn v 1)) = s2 at *
      go_wp2_with (fail)
      refine hms.out.mono ?_
      rintro e w3 ⟨rfl, hs3, hg3⟩
      replace hM := Lib.hid (hM.out.gr hg3 (show u < B by omega) (by omega))
      replace hW := Lib.hid (hW.out.trans (hg3.below hW.out.size hWu))
      replace hBr : B ≤ w3.heap.size := Nat.le_trans hBr hg3.size
      replace hwr := Lib.hid (Nat.le_trans hwr.out hg3.size)
      replace hO := Lib.hid (own_gr hO.out hg3 (show u < w.heap.size by omega))
      replace hs3 := Lib.hid hs3
      clear hg3 hms
      unfold vN
      generalize vl 0 (on s2 (rMost y 255 1)) = x at *
      generalize stt (on s2 (rMost y 255 1)) = s3 at *
      go_wp2_with (at_builtin; refine wpList_gen rfl (.tmp 190) (.tmp 196) 56 rfl w.heap.size 3 i0 _ 1 8 Try.underlying56 hi hz0 hz1 hz2 rfl (by decide) (.slice A k c) k _ (by rfl) (hO.out.alloc _) (some ⟨_, 0, none⟩) 1 1 [.int .i64 x] (by rfl) rfl (stand_new _ _ _ _) (by intro u hu; rw [List.mem_singleton.1 hu]; rfl) (by unfold maxLen; omega) (by omega) (Nat.le_trans hwr.out (by simp)) ?_; intro A9 c9 w9 hr9 hg9 hat9)
      have hlt3 := World.ownsRow.lt hO.out
      have hO9 : Hid (w9.ownsRow w.heap.size 3 1 (.slice A9 (k + 1) c9) (k + 1) (iv (xs ++ [(x : Int)]))) := Lib.hid (by unfold iv; rw [List.map_append]; exact hr9)
      have hM9 := Lib.hid (MT.grown (hM.out.gr ((Gr.refl u w3).alloc (.cells #[.int .i64 x] 3)) (show u < B by omega) (by omega)) hmb hg9 (hO.out.alloc _) hB)
      have hS9 := Lib.hid (SAt.grown (hs3.out.alloc (.cells #[.int .i64 x] 3)) hg9 (fun q e => by have := (hlt3 q e).1; omega))
      have hW9 := Lib.hid ((hW.out.alloc hW.out.size (.cells #[.int .i64 x] 3)).grown hg9 (by have := hW.out.size; simp; omega) (fun q e => by have := (hlt3 q e).1; omega))
      have hB9 : B ≤ w9.heap.size := Nat.le_trans hBr (Nat.le_trans (by simp) hg9.size)
      have hw9 := Lib.hid (Nat.le_trans hwr.out (Nat.le_trans (by simp) hg9.size))
      have hC9 := Lib.hid (hC.out.step hlt hx.out)
      clear hlt3 hr9 hg9 hat9 hO hM hs3 hW hC hx hwr
      go_wp2
      go_roundw
      case rel => exact ⟨k + 1, _, s3, by go_num, by omega, by rw [List.length_append, hxl]; rfl, hO9, hC9, hM9, hS9, hW9, hB9, hw9⟩
      case measure => simp [intOf]; omega
    · obtain rfl : k = 5 := by omega
      obtain ⟨a, b, d, e, f, rfl⟩ := five hxl
      obtain ⟨g, cap, cur, hA, -, -, -, -, -, -⟩ := hO.out.2.resolve_left (by rintro ⟨-, h⟩; cases h)
      injection hA with hA1 hA2 hA3
      subst hA1
      have hcs := World.ownsRow.cells hO.out (g := g) rfl
      have c0 : wr.cell? ⟨g, 0, none⟩ = some (.int .i64 a) := by have := hcs 0 _ rfl; rwa [add_plain] at this
      have c1 : wr.cell? ⟨g, 1, none⟩ = some (.int .i64 b) := by have := hcs 1 _ rfl; rwa [add_plain] at this
      have c2 : wr.cell? ⟨g, 2, none⟩ = some (.int .i64 d) := by have := hcs 2 _ rfl; rwa [add_plain] at this
      have c3 : wr.cell? ⟨g, 3, none⟩ = some (.int .i64 e) := by have := hcs 3 _ rfl; rwa [add_plain] at this
      have c4 : wr.cell? ⟨g, 4, none⟩ = some (.int .i64 f) := by have := hcs 4 _ rfl; rwa [add_plain] at this
      obtain ⟨hg1, hg2⟩ := World.ownsRow.lt hO.out g rfl
      have htx : Hid (Calls Try.prog 75 #[.pointer (some ⟨u, 0, none⟩), .int .i64 v, .int .i64 16] wr.drew (Sd u wirRb.vS ⟨#[]⟩ wr.drew (on s (rTxt v 16)))) := Lib.hid (text_s v hv 16 wr.drew (hS.out.below (Below.refl _ _).drew) (by omega))
      have hMd := Lib.hid (hM.out.gr (Gr.of_below (Below.refl _ _).drew) (show u < B by omega) (by omega))
      have hWd := Lib.hid hW.out.drew
      have hdone := Lib.hid (hC.out.done (.inl (by omega)))
      have hK : Hid (SK u mb g a b d e f wr.drew) := Lib.hid ⟨c0, c1, c2, c3, c4, hg2, by omega, by omega⟩
      clear hS hM hW hO hC hcs hwr hBr hA2 hA3 c0 c1 c2 c3 c4
      go_wp2
      go_region_held3 (SK u mb g a b d e f)
        (first | with_reducible exact hK.out | with_reducible assumption | with_reducible exact SK.gr (by assumption) (by assumption) | with_reducible exact SK.set6 (by assumption) _ _ _ _ _ _ | fail)
        (first
          | (go_at_call 75; ((with_reducible refine htx.out.mono ?_); rintro e3 w3 ⟨rfl, hs3, hg3⟩; have hM3 := Lib.hid (hMd.out.gr hg3 (show u < B by omega) (by omega)); have hW3 := Lib.hid (hWd.out.trans (hg3.below hWd.out.size hWu)); replace hs3 := Lib.hid hs3; unfold wirRb.vS; have f0 := hM3.out.row.frozen; have k8 : w3.cell? ⟨mb, 8, none⟩ = some (.int .i64 m.cmd.kind) := hM3.out.row.cell (i := 8) (by omega); have k9 : w3.cell? ⟨mb, 9, none⟩ = some (.int .i64 m.cmd.dc) := hM3.out.row.cell (i := 9) (by omega); have k10 : w3.cell? ⟨mb, 10, none⟩ = some (.int .i64 m.cmd.shard) := hM3.out.row.cell (i := 10) (by omega); have k11 : w3.cell? ⟨mb, 11, none⟩ = some (.int .i64 m.cmd.node) := hM3.out.row.cell (i := 11) (by omega); have k12 : w3.cell? ⟨mb, 12, none⟩ = some (.int .i64 m.cmd.mode) := hM3.out.row.cell (i := 12) (by omega); have k13 : w3.cell? ⟨mb, 13, none⟩ = some (.string m.cmd.key) := hM3.out.row.cell (i := 13) (by omega))) | fail)
      all_goals
        have hE := Lib.hid (hfin.out _ s (stt (on s (rTxt v 16))) [a, b, d, e, f] (vl ⟨#[]⟩ (on s (rTxt v 16))) hdone.out (on_self s (rTxt v 16) ⟨#[]⟩) (((((((hs3.out.put (p := ⟨mb, 8, none⟩) hu (.int .i64 a)).put (p := ⟨mb, 9, none⟩) hu (.int .i64 b)).put (p := ⟨mb, 10, none⟩) hu (.int .i64 d)).put (p := ⟨mb, 11, none⟩) hu (.int .i64 e)).put (p := ⟨mb, 12, none⟩) hu (.int .i64 f)).put (p := ⟨mb, 13, none⟩) hu (.string (vl ⟨#[]⟩ (on s (rTxt v 16))))))
          (wirRf.MT.cmd hM3.out hmb (cm5 [a, b, d, e, f] (vl ⟨#[]⟩ (on s (rTxt v 16)))))
          (((((((hW3.out.setCell (p := ⟨mb, 8, none⟩) (by show W.heap.size ≤ mb; omega) (.int .i64 a)).setCell (p := ⟨mb, 9, none⟩) (by show W.heap.size ≤ mb; omega) (.int .i64 b)).setCell (p := ⟨mb, 10, none⟩) (by show W.heap.size ≤ mb; omega) (.int .i64 d)).setCell (p := ⟨mb, 11, none⟩) (by show W.heap.size ≤ mb; omega) (.int .i64 e)).setCell (p := ⟨mb, 12, none⟩) (by show W.heap.size ≤ mb; omega) (.int .i64 f)).setCell (p := ⟨mb, 13, none⟩) (by show W.heap.size ≤ mb; omega) (.string (vl ⟨#[]⟩ (on s (rTxt v 16)))))))
        generalize vl ⟨#[]⟩ (on s (rTxt v 16)) = key at *
        have hnq : ∀ w' : World, (binOp .neq 26 (.agg #[.int .i64 a, .int .i64 b, .int .i64 d, .int .i64 e, .int .i64 f, .string key]) (.agg #[.int .i64 0, .int .i64 0, .int .i64 0, .int .i64 0, .int .i64 0, .string ⟨#[]⟩])).run Try.prog w' = .ok (.bool (decide (cm5 [a, b, d, e, f] key ≠ Cm.nought))) w' := fun w' => neq_cmd ⟨a, b, d, e, f, key⟩ w'
        generalize decide (cm5 [a, b, d, e, f] key ≠ Cm.nought) = bb at *
        clear hM3 hs3 hW3 hfin htx hMd hWd hdone
        go_wp2
        go_ret
        exact hE.out
end Go.Proofs.Ytkbhmeajgmecoaa.wirRf
