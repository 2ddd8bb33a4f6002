/- The document's Take and Lose. -/
import Derived.Test.YtggoaglcffdcnaaNetRa
namespace Go.Proofs.Ytggoaglcffdcnaa.netRb
open Go.ChangeShapes Go.WideShapes Go.ChangeAt Go.RowKit Go.Deep
open numM rowA byt numA numB numC netA netB netC netE netG netS netL netP netQ netR netRa

theorem row_ne {w : World} {p q n k : Nat} {t e : TypeId} {f g : Nat → Value} (h : w.rowIs p t n f) (ho : w.rowIs q e k g) (hne : t ≠ e) : p ≠ q := by
  obtain ⟨c, hc, -, -⟩ := h
  obtain ⟨c2, hc2, -, -⟩ := ho
  rintro rfl
  rw [hc] at hc2
  simp at hc2
  exact hne hc2.2
section
variable {col : Nat → Nat} {c : Nat} {w w1 w2 w3 w4 w6 : World} {q : Nat} {v : Value} {ds : List DP} {lost : Nat} {d : Dn} {f t : Int}
theorem row4_cells {w : World} {b : Nat} {x0 x1 x2 x3 : Value} (h : w.rowIs b 66 4 (fun i => if i = 0 then x0 else if i = 1 then x1 else if i = 2 then x2 else x3)) :
    w.cell? ⟨b, 0, none⟩ = some x0 ∧ w.cell? ⟨b, 1, none⟩ = some x1 ∧ w.cell? ⟨b, 2, none⟩ = some x2 ∧ w.cell? ⟨b, 3, none⟩ = some x3 :=
  ⟨h.cell (i := 0) (by omega), h.cell (i := 1) (by omega), h.cell (i := 2) (by omega), h.cell (i := 3) (by omega)⟩
/-- A packet is gone. -/
theorem doc_del (h : DocIs col c w q v ds d.lost) (hk : ds.map DP.k = d.row) {j : Nat} (hj : j < ds.length) (hB : Below w.heap.size w w6) {v' : Value}
    (hrow : w6.ownsRow 0 66 4 v' (ds.length - 1) (fl DP.cs (ds.eraseIdx j))) (hv : ∀ b, v'.ownBlock = some b → w.heap.size ≤ b) :
    Cg (fun b => col b = c) w (w6.setCell ⟨q, 0, none⟩ v') ∧ DocIs (recol col w c) c (w6.setCell ⟨q, 0, none⟩ v') q v' (ds.eraseIdx j) (delD d j).lost ∧ (ds.eraseIdx j).map DP.k = (delD d j).row := by
  have hsub : ∀ x ∈ ds.eraseIdx j, x ∈ ds := fun x hx => List.mem_of_mem_eraseIdx hx
  have hle := h.le
  obtain ⟨h1, h2⟩ := h.put (w2 := w6) ⟨hB.os, hB.tape, hB.output, hB.size, fun k hk _ => hB.block k hk⟩ (ds' := ds.eraseIdx j) (by rw [List.length_eraseIdx, if_pos hj]; exact hrow) (fun b e => .inr (hv b e)) (fun x hx => own_blk (h.byt x (hsub x hx)) fun b e => hB.block b (h.blt (hsub x hx) e))
    (fun x hx b e => .inr (h.cb x (hsub x hx) b e)) (fun x hx => h.ok x (hsub x hx)) (by rw [List.length_eraseIdx, if_pos hj]; omega) (fun x hx => h.bl x (hsub x hx))
  refine ⟨h1, h2, ?_⟩
  show (ds.eraseIdx j).map DP.k = d.row.eraseIdx j
  rw [← hk, List.eraseIdx_eq_take_drop_succ, List.eraseIdx_eq_take_drop_succ, List.map_append, List.map_take, List.map_drop]
/-- What the document's Take answers. -/
def DTook (col : Nat → Nat) (c q : Nat) (d' : Dn) (x : Dk) (w : World) (e : Ending) (w' : World) : Prop :=
  ∃ A cp, e = .returned (.tuple #[.agg (c4 x A cp), .int .i64 0]) ∧ Own w' w.heap.size (.slice A x.b.length cp) x.b.length x.b ∧ Cg (fun b => col b = c) w w' ∧ DocAt (recol col w c) c w' q d'
set_option maxRecDepth 100000 in
set_option maxHeartbeats 2000000 in
theorem dtake_ok {i j : Nat} {x : Dk} (w : World) (h : DocAt col c w q d) (hw : IsWay f t) (hj : idx f t d.row i = some j) (hx : d.row[j]? = some x) (hi9 : (i : Int) ≤ 9223372036854775807) :
    Calls Try.prog 27 #[.pointer (some ⟨q, 0, none⟩), .int .i64 f, .int .i64 t, .int .i64 i] w (DTook col c q (delD d j) x w) := by
  obtain ⟨w1, hw1⟩ : ∃ w1, w.alloc (.cells #[.int .i64 0, .int .i64 0, .slice none 0 0, .bool false] 66) = w1 := ⟨_, rfl⟩
  have hB1 : Below w.heap.size w w1 := by rw [← hw1]; exact al0 _ _
  have hz1 := Lib.hid (show Z4 w.heap.size w1 by rw [← hw1]; exact Z4.new w)
  have hs1 : Hid (w1.heap.size = w.heap.size + 1) := Lib.hid (by rw [← hw1]; simp)
  have hlk := Lib.hid (dlook_ok w1 (h.below hB1) hw hj hx hi9)
  have hfn := Lib.hid (fun w' (hB : Below w.heap.size w w') => find_ok w' (h.below hB) hw hj hi9)
  obtain ⟨v, ds, m, hI, hk, hm, rfl, hln⟩ := doc_open h hx
  obtain ⟨i0, hi0, hz0, hz2, hz3⟩ := info_parts infoK
  replace hB1 := Lib.hid hB1
  replace hw1 := Lib.hid hw1
  have hjl := (List.getElem?_eq_some_iff.1 hm).1
  have hle := hI.le
  clear h hw hj hx hln
  go_enter Try.func27, Try.ntmps27
  go_wp2_with (fail)
  rw [hw1.out]
  refine hlk.out.mono ?_
  rintro e w2 ⟨A2, cp2, rfl, ho2, hB2⟩
  obtain ⟨w3, hw3⟩ : ∃ w3, w2.alloc (.cells #[.int .i64 m.k.f, .int .i64 m.k.t, .slice A2 m.k.b.length cp2, .bool m.k.sp] 66) = w3 := ⟨_, rfl⟩
  have hB3 : Below w2.heap.size w2 w3 := by rw [← hw3]; exact al0 _ _
  have hb3 := box4 w2 (.int .i64 m.k.f) (.int .i64 m.k.t) (.slice A2 m.k.b.length cp2) (.bool m.k.sp)
  rw [hw3] at hb3
  have hB13 : Below w.heap.size w w3 := trans0 (trans0 hB1.out hB2) hB3
  have ho3 := own_blk ho2 fun b e => hB3.block b (own_ge ho2 e).2
  have hI3 := hI.mid hB13
  have hz3' := (hz1.out.below hB2).below hB3
  obtain ⟨g, cp, rfl, hgl, -, -, -, -, hgq, hcp, hcp9⟩ := hI3.at_ hm
  obtain ⟨k0, -, kf, -, -⟩ := hI3.cells
  have hqlt := hI3.row.lt
  have hs2 : w2.heap.size < w3.heap.size := hb3.lt
  have hs12 : w1.heap.size ≤ w2.heap.size := hB2.size
  have hf3 := Lib.hid (hfn.out w3 hB13)
  -- the row without it, made anew
  obtain ⟨w4, hw4⟩ : ∃ w4, w3.alloc (.cells #[] 66) = w4 := ⟨_, rfl⟩
  have hB4 : Below w3.heap.size w3 w4 := by rw [← hw4]; exact al0 _ _
  have hm4 : w4.ownsRow w3.heap.size 66 4 (.slice (some ⟨w3.heap.size, 0, none⟩) 0 0) 0 [] := by rw [← hw4]; exact World.ownsRow_made w3 #[] 0 (Nat.le_refl _) (by decide) rfl
  have hst1 : ∀ wx, Below w3.heap.size w3 wx → Stand wx (some ⟨g, 0, none⟩) j (fl DP.cs (ds.take j)) := fun wx hB => .inr ⟨_, rfl, fun a u hu => by
    have ha := (List.getElem?_eq_some_iff.1 hu).1
    rw [fl_take DP.cs_len] at hu
    rw [fl_take DP.cs_len, List.length_take] at ha
    rw [List.getElem?_take_of_lt (by omega)] at hu
    rw [add_plain, Nat.zero_add, hB.cell (p := ⟨g, a, none⟩) hgl, hI3.own.cellAt a (by rw [← fl_len DP.cs_len ds]; omega)]
    exact hu⟩
  obtain ⟨AD, hAD, hst2⟩ : ∃ AD, (if cp = j + 1 then some (⟨g, 0, none⟩ : Addr) else some ⟨g, (j + 1) * 4, none⟩) = some AD ∧ ∀ wx, Below w3.heap.size w3 wx → Stand wx (some AD) (ds.length - (j + 1)) (fl DP.cs (ds.drop (j + 1))) := by
    by_cases e : cp = j + 1
    · refine ⟨⟨g, 0, none⟩, if_pos e, fun wx hB => .inl (by omega)⟩
    · refine ⟨⟨g, (j + 1) * 4, none⟩, if_neg e, fun wx hB => .inr ⟨_, rfl, fun a u hu => ?_⟩⟩
      have ha := (List.getElem?_eq_some_iff.1 hu).1
      rw [fl_len DP.cs_len, List.length_drop] at ha
      rw [fl_drop DP.cs_len, List.getElem?_drop] at hu
      rw [add_plain, hB.cell (p := ⟨g, (j + 1) * 4 + a, none⟩) hgl, hI3.own.cellAt _ (by omega)]
      exact hu
  have hl1 : (fl DP.cs (ds.take j)).length = j * 4 := by rw [fl_len DP.cs_len, List.length_take, Nat.min_eq_left (by omega)]
  have hl2 : (fl DP.cs (ds.drop (j + 1))).length = (ds.length - (j + 1)) * 4 := by rw [fl_len DP.cs_len, List.length_drop]
  have hS : Hid (∀ w6 A6 c6 x0 x1 x2 x3, Below w3.heap.size w3 w6 → w6.ownsRow w3.heap.size 66 4 (.slice A6 (ds.length - 1) c6) (ds.length - 1) (fl DP.cs (ds.take j) ++ fl DP.cs (ds.drop (j + 1))) →
      DTook col c q (delD d j) m.k w (.returned (.tuple #[.agg (c4 m.k A2 cp2), .int .i64 0])) (((((w6.setCell ⟨q, 0, none⟩ (.slice A6 (ds.length - 1) c6)).setCell ⟨w.heap.size, 0, none⟩ x0).setCell ⟨w.heap.size, 1, none⟩ x1).setCell ⟨w.heap.size, 2, none⟩ x2).setCell ⟨w.heap.size, 3, none⟩ x3)) := Lib.hid fun w6 A6 c6 x0 x1 x2 x3 hB6 hr6 => by
    obtain ⟨g1, g2, g3⟩ := doc_del hI3 hk hjl hB6 (v' := .slice A6 (ds.length - 1) c6) (by rw [List.eraseIdx_eq_take_drop_succ, fl_app]; exact own_low hr6) (fun b e => (hr6.lt b e).1)
    have hM : Cg (fun b => b = w.heap.size) (w6.setCell ⟨q, 0, none⟩ (.slice A6 (ds.length - 1) c6)) (((((w6.setCell ⟨q, 0, none⟩ (.slice A6 (ds.length - 1) c6)).setCell ⟨w.heap.size, 0, none⟩ x0).setCell ⟨w.heap.size, 1, none⟩ x1).setCell ⟨w.heap.size, 2, none⟩ x2).setCell ⟨w.heap.size, 3, none⟩ x3) :=
      Cg.setCell (M := fun b => b = w.heap.size) (Cg.setCell (M := fun b => b = w.heap.size) (Cg.setCell (M := fun b => b = w.heap.size) (Cg.setCell (M := fun b => b = w.heap.size) (Cg.refl _ _) (p := ⟨w.heap.size, 0, none⟩) rfl _) (p := ⟨w.heap.size, 1, none⟩) rfl _) (p := ⟨w.heap.size, 2, none⟩) rfl _) (p := ⟨w.heap.size, 3, none⟩) rfl _
    have hsz : w.heap.size < w3.heap.size := by have := hs1.out; omega
    refine ⟨A2, cp2, rfl, own4 (own_blk ((ho3.more (by have := hs1.out; omega)) : Own w3 w.heap.size _ _ _) fun b e => ?_) (fun e => ?_) _ _ _ _, (mid_cg hB13 g1).trans hM (fun b hb e => by omega), .slice A6 (ds.length - 1) c6, ds.eraseIdx j, dmid_back hB13.size (g2.other hM (fun b hb hc e => ?_) (Ext.refl _ _)), g3⟩
    · have hb := own_ge ho3 e
      exact (Below.heap_setCell _ ⟨q, 0, none⟩ _ b (fun e2 => row_apart hI3.row ho3.2.2.2 (by decide) (by rw [e]; exact congrArg some e2))).trans (hB6.block b hb.2)
    · have := (own_ge ho3 e).1
      have := hs1.out
      omega
    · subst e
      rw [rec_ext _ _ _ _ hsz] at hc
      exact mid_ne (Nat.le_refl _) hc
  have hls := Lib.hid (show ds.length ≤ maxLen by unfold maxLen; omega)
  have hfar : Hid (∀ w6, Below w3.heap.size w3 w6 → (w6.cell? ⟨q, 0, none⟩ = some (.slice (some ⟨g, 0, none⟩) ds.length cp) ∧ w6.frozen? ⟨q, 0, none⟩ = false) ∧ Z4 w.heap.size w6 ∧ w6.rowIs w2.heap.size 66 4 (fun i => if i = 0 then .int .i64 m.k.f else if i = 1 then .int .i64 m.k.t else if i = 2 then .slice A2 m.k.b.length cp2 else .bool m.k.sp) ∧ q < w6.heap.size) := Lib.hid fun w6 hB =>
    ⟨⟨(hB.cell (p := ⟨q, 0, none⟩) hqlt).trans k0, (hB.frozen (p := ⟨q, 0, none⟩) hqlt).trans kf⟩, hz3'.below hB, hb3.of_block (hB.block _ hs2), Nat.lt_of_lt_of_le hqlt hB.size⟩
  have hcp1 : j ≤ cp := by omega
  have hcp2 : j + 1 ≤ ds.length := by omega
  have hjw : IntKind.i64.wrap ((j : Int) + 1) = (j : Int) + 1 := wrap_in _ (by omega) (by omega)
  replace hst1 := Lib.hid (hst1 w4 hB4)
  replace hst2 := Lib.hid hst2
  replace hm4 := Lib.hid hm4
  replace hl1 := Lib.hid hl1
  replace hl2 := Lib.hid hl2
  replace hB4 := Lib.hid hB4
  obtain ⟨⟨y0, y1⟩, -, -, ql4⟩ := hfar.out w4 hB4.out
  have ne1 : w.heap.size ≠ q := fun e => row_ne hz3' hI3.row (by decide) e
  have ne2 : w2.heap.size ≠ q := fun e => row_ne hb3 hI3.row (by decide) e
  clear hI hI3 hlk hfn hB1 hw1 hB2 hB13 ho2 ho3 hz1 hz3' hb3 hk hm
  have e9 : Hid (j + (ds.length - (j + 1)) = ds.length - 1) := Lib.hid (by omega)
  generalize ds.length = n at *
  generalize hxs : fl DP.cs (ds.take j) = xs at *
  generalize hys : fl DP.cs (ds.drop (j + 1)) = ys at *
  have ho1 := Lib.hid (show ∀ u ∈ xs, u.oneCell' = true from by rw [← hxs]; exact fl_all DP.cs_one _)
  have ho4 := Lib.hid (show ∀ u ∈ ys, u.oneCell' = true from by rw [← hys]; exact fl_all DP.cs_one _)
  clear hxs hys
  have hs3 : w3.heap.size ≤ w4.heap.size := hB4.out.size
  have hSS := hS.out
  rw [← e9.out] at hSS
  replace hSS := Lib.hid hSS
  unfold c4 at *
  dsimp only
  go_wp2_with (first
    | (go_at_call 40; ((with_reducible refine (hf3.out).mono ?_); rintro e w' ⟨rfl, rfl⟩))
    | (at_builtin; refine wpList_gen rfl (.tmp 35) (.tmp 41) 26 rfl w3.heap.size 66 i0 _ 4 48 Try.underlying26 hi0 hz0 hz2 hz3 rfl (by decide) _ 0 [] (by rfl) hm4.out (some ⟨g, 0, none⟩) j cp xs (by rfl) hl1.out hst1.out ho1.out (by have := hls.out; unfold maxLen at *; omega) (by omega) hs3 ?_; intro A5 c5 w5 hr5 hg5 hat5; simp only [Nat.zero_add, List.nil_append] at hr5; have hB5 := Lib.hid (hB4.out.grown hg5 hs3 (fun k e => by cases e; exact Nat.le_refl _)); have hr5' := Lib.hid hr5; obtain ⟨⟨y5, y6⟩, -, -, ql5⟩ := hfar.out w5 hB5.out; have hst5 := Lib.hid (hst2.out w5 hB5.out); have hs5 := hB5.out.size; clear hr5 hg5 hat5)
    | (at_builtin; refine wpList_gen rfl (.tmp 44) (.tmp 51) 26 rfl w3.heap.size 66 i0 _ 4 48 Try.underlying26 hi0 hz0 hz2 hz3 rfl (by decide) (.slice A5 j c5) j xs (by rfl) hr5'.out (some AD) (n - (j + 1)) (cp - (j + 1)) ys (by rfl) hl2.out hst5.out ho4.out (by have := hls.out; unfold maxLen at *; omega) (by omega) hs5 ?_; intro A6 c6 w6 hr6 hg6 hat6; have hB6 := Lib.hid (hB5.out.grown hg6 hs5 (fun k e => (hr5'.out.lt k e).1)); have hr6' := Lib.hid hr6; obtain ⟨⟨y7, y8⟩, hz6, hb6, ql6⟩ := hfar.out w6 hB6.out; obtain ⟨⟨z0, z1, z2, z3⟩, z4, z5, z6, z7⟩ := hz6.cells; obtain ⟨b0, b1, b2, b3⟩ := row4_cells hb6; have ne3 := ne2; clear hr6 hg6 hat6 hz6 hb6))
  refine bodyPost_ret (v := .tuple #[.agg #[.int .i64 m.k.f, .int .i64 m.k.t, .slice A2 m.k.b.length cp2, .bool m.k.sp], .int .i64 0]) ?_ rfl (hSS.out _ _ _ _ _ _ _ hB6.out hr6'.out)
  simp [results, Try.results27, go_sem, z0, z1, z2, z3]
end
end Go.Proofs.Ytggoaglcffdcnaa.netRb
