/- The document's Lose, Twice and Back. -/
import Derived.Test.YtggoaglcffdcnaaNetRb
namespace Go.Proofs.Ytggoaglcffdcnaa.netRc
open Go.ChangeShapes Go.WideShapes Go.ChangeAt Go.RowKit Go.Deep
open numM rowA byt numA numB numC netA netB netC netE netG netS netL netP netQ netR netRa netRb

section
variable {col : Nat → Nat} {c : Nat} {w w1 w2 w3 wa : World} {q : Nat} {d : Dn} {f t : Int}
theorem recol_twice (hs : w.heap.size ≤ wa.heap.size) (h : DocAt (recol (recol col w c) wa c) c w2 q d) : DocAt (recol col w c) c w2 q d := by
  obtain ⟨v, ds, h, e⟩ := h
  refine ⟨v, ds, h.recolor fun k _ e => ?_, e⟩
  by_cases h1 : k < wa.heap.size
  · rwa [rec_ext _ wa c k h1] at e
  · exact rec_new (by omega)
set_option maxRecDepth 100000 in
set_option maxHeartbeats 400000 in
theorem dlose_ok {i j : Nat} {x : Dk} (w : World) (h : DocAt col c w q d) (hw : IsWay f t) (hj : idx f t d.row i = some j) (hx : d.row[j]? = some x) (hi9 : (i : Int) ≤ 9223372036854775807) (hcn : d.lost < 1000000) :
    Calls Try.prog 28 #[.pointer (some ⟨q, 0, none⟩), .int .i64 f, .int .i64 t, .int .i64 i] w (DDid col c q 0 (lostD (delD d j)) w) := by
  have htk := Lib.hid (dtake_ok w h hw hj hx hi9)
  have hS : Hid (∀ w2, Cg (fun b => col b = c) w w2 → DocAt (recol col w c) c w2 q (delD d j) → w2.cell? ⟨q, 1, none⟩ = some (.int .i64 d.lost) ∧ w2.frozen? ⟨q, 1, none⟩ = false ∧ DDid col c q 0 (lostD (delD d j)) w (.returned (.int .i64 (0 : Nat))) (w2.setCell ⟨q, 1, none⟩ (.int .i64 (d.lost + 1 : Nat)))) := Lib.hid fun w2 hg hd => by
    have hc := hd.lost
    obtain ⟨g1, g2⟩ := doc_lost hd
    obtain ⟨v, ds, hI, -⟩ := hd
    exact ⟨hc, hI.cells.2.2.2.1, rfl, hg.trans g1 (fun b hb e => by rwa [rec_ext col w c b hb] at e), recol_twice hg.size g2⟩
  have e2 : ((d.lost + 1 : Nat) : Int) = (d.lost : Int) + 1 := by omega
  rw [e2] at hS
  have hn9 : d.lost < 1000000 := hcn
  clear h hw hj hx e2 hcn
  generalize d.lost = n at *
  go_enter Try.func28, Try.ntmps28
  go_wp2_with (fail)
  refine htk.out.mono ?_
  rintro e w2 ⟨A2, c2, rfl, -, hg, hd⟩
  obtain ⟨w3, hw3⟩ : ∃ w3, w2.alloc (.cells #[.int .i64 x.f, .int .i64 x.t, .slice A2 x.b.length c2, .bool x.sp] 66) = w3 := ⟨_, rfl⟩
  have hB23 : Below w2.heap.size w2 w3 := by rw [← hw3]; exact al0 _ _
  obtain ⟨y0, y1, hT⟩ := hS.out w3 (hg.then hB23) (hd.below hB23)
  replace hT := Lib.hid hT
  clear hg hd htk hS hB23
  unfold c4
  go_wp2
  go_ret
  exact hT.out
/-- A packet that was made since w stands last. -/
theorem dadd_from (hC : Cg (fun b => col b = c) w wa) (h : DocAt (recol col w c) c wa q d) (x : Dk) (A2 : Option Addr) (c2 : Nat) (ho : Own wa w.heap.size (.slice A2 x.b.length c2) x.b.length x.b) (hn : d.row.length < 100000) (hok : x.f ≤ 20 ∧ x.t ≤ 20 ∧ x.f ≠ x.t) (hbl : x.b.length ≤ 100000) :
    ∃ A' c' n xs, wa.cell? ⟨q, 0, none⟩ = some (.slice A' n c') ∧ q < wa.heap.size ∧ wa.ownsRow 0 66 4 (.slice A' n c') n xs ∧ n < 100000 ∧
      (∀ wb w9, Below wa.heap.size wa wb → wb.grownBy w9 (Value.slice A' n c').ownBlock → w9.cell? ⟨q, 0, none⟩ = some (.slice A' n c') ∧ w9.frozen? ⟨q, 0, none⟩ = false) ∧
      ∀ wb w9 A9 c9, Below wa.heap.size wa wb → w9.ownsRow 0 66 4 (.slice A9 (n + 1) c9) (n + 1) (xs ++ [.int .i64 x.f, .int .i64 x.t, .slice A2 x.b.length c2, .bool x.sp]) → wb.grownBy w9 (Value.slice A' n c').ownBlock →
        ((Value.slice A9 (n + 1) c9).ownBlock = (Value.slice A' n c').ownBlock ∨ (Value.slice A9 (n + 1) c9).ownBlock = some wb.heap.size) →
        DDid col c q 0 (addD d x) w (.returned (.int .i64 (0 : Nat))) (w9.setCell ⟨q, 0, none⟩ (.slice A9 (n + 1) c9)) := by
  obtain ⟨v, ds, hI, hk⟩ := h
  have hln : ds.length = d.row.length := by rw [← hk, List.length_map]
  obtain ⟨k0, -, k2, -, A', c', rfl, -, -⟩ := hI.cells
  refine ⟨A', c', ds.length, fl DP.cs ds, k0, hI.row.lt, hI.own, by omega, fun wb w9 hB hg => ?_, fun wb w9 A9 c9 hB hr hg hat => ?_⟩
  · have h2 := hI.below hB
    have hr : w9.rowIs q 28 2 (cQ (.slice A' ds.length c') d.lost) := h2.row.of_block (hg.block q h2.row.lt (fun e => row_apart h2.row h2.own (by decide) e.symm))
    exact ⟨hr.cell (i := 0) (by omega), hr.frozen 0⟩
  · have hgw : wa.grownBy w9 (Value.slice A' ds.length c').ownBlock := grown_of hB hg
    obtain ⟨g1, g2⟩ := doc_add hI hk ⟨x, A2, c2⟩ hgw hr (fun b e => by
        rcases hat with h1 | h1
        · rw [h1] at e; exact .inl e
        · rw [h1] at e; cases e; exact .inr hB.size) (own_blk (own_lo ho) fun b e => hgw.block b (own_ge ho e).2 (fun e2 => own_apart hI.own ho.2.2.2 (by decide) e2.symm e)) (fun b e => .inr (rec_new (own_ge ho e).1)) hok hbl (by omega)
    exact ⟨rfl, hC.trans g1 (fun b hb e => by rwa [rec_ext col w c b hb] at e), recol_twice hC.size g2⟩
def twDE (d : Dn) (f t : Int) : Nat := if 48 ≤ cnt f t d.row then 9 else 0
def twD (d : Dn) (f t : Int) (x : Dk) : Dn := if 48 ≤ cnt f t d.row then d else addD d x
set_option maxRecDepth 100000 in
set_option maxHeartbeats 1000000 in
theorem dtwice_ok {i j : Nat} {x : Dk} (w : World) (h : DocAt col c w q d) (hw : IsWay f t) (hj : idx f t d.row i = some j) (hx : d.row[j]? = some x) (hi9 : (i : Int) ≤ 9223372036854775807) (hrn : d.row.length < 100000) :
    Calls Try.prog 29 #[.pointer (some ⟨q, 0, none⟩), .int .i64 f, .int .i64 t, .int .i64 i] w (DDid col c q (twDE d f t) (twD d f t x) w) := by
  have hlk := Lib.hid (dlook_ok w h hw hj hx hi9)
  have hle := Lib.hid (fun w' (hB : Below w.heap.size w w') => dlen_any f t w' (h.below hB))
  have hcc := cnt_le f t d.row
  obtain ⟨v0, ds0, m0, hI0, -, hm0, hmx, -⟩ := doc_open h hx
  have hok0 := hI0.ok m0 (List.mem_of_getElem? hm0)
  have hbl0 := hI0.bl m0 (List.mem_of_getElem? hm0)
  rw [hmx] at hok0 hbl0
  clear hI0 hm0 hmx
  obtain ⟨i0, hi0, hz0, hz1, hz2⟩ := info_parts infoK
  by_cases hfull : 48 ≤ cnt f t d.row
  · have hfI : (48 : Int) ≤ (cnt f t d.row : Int) := by omega
    have hS := Lib.hid (show ∀ w', Below w.heap.size w w' → DDid col c q (twDE d f t) (twD d f t x) w (.returned (.int .i64 9)) w' from fun w' hB => ⟨by unfold twDE; rw [if_pos hfull]; rfl, Cg.of_below _ hB, by unfold twD; rw [if_pos hfull]; exact (h.ext (rec_ext col w c)).below hB⟩)
    clear h hw hj hx hfull hcc hok0
    generalize cnt f t d.row = N at *
    go_enter Try.func29, Try.ntmps29
    go_wp2_with (fail)
    refine hlk.out.mono ?_
    rintro e w2 ⟨A2, c2, rfl, -, hB2⟩
    obtain ⟨w3, hw3⟩ : ∃ w3, w2.alloc (.cells #[.int .i64 x.f, .int .i64 x.t, .slice A2 x.b.length c2, .bool x.sp] 66) = w3 := ⟨_, rfl⟩
    have hB3 : Below w.heap.size w w3 := by rw [← hw3]; exact trans0 hB2 (al0 _ _)
    have hl3 := Lib.hid (hle.out w3 hB3)
    have hT := Lib.hid (hS.out w3 hB3)
    clear hB2 hB3 hle hS hlk
    unfold c4
    go_wp2_with (go_at_call 13; ((with_reducible refine (hl3.out).mono ?_); rintro e w' ⟨rfl, rfl⟩))
    go_ret
    exact hT.out
  · have hfI : ¬ (48 : Int) ≤ (cnt f t d.row : Int) := by omega
    have hE : Hid (twDE d f t = 0 ∧ twD d f t x = addD d x) := Lib.hid ⟨if_neg hfull, if_neg hfull⟩
    have hA := Lib.hid (fun wa A2 c2 (hB : Below w.heap.size w wa) ho => dadd_from (Cg.of_below (fun b => col b = c) hB) ((h.ext (rec_ext col w c)).below hB) x A2 c2 ho hrn hok0 hbl0)
    clear h hw hj hx hfull hcc hok0
    generalize cnt f t d.row = N at *
    go_enter Try.func29, Try.ntmps29
    go_wp2_with (fail)
    refine hlk.out.mono ?_
    rintro e w2 ⟨A2, c2, rfl, ho2, hB2⟩
    obtain ⟨w3, hw3⟩ : ∃ w3, w2.alloc (.cells #[.int .i64 x.f, .int .i64 x.t, .slice A2 x.b.length c2, .bool x.sp] 66) = w3 := ⟨_, rfl⟩
    have hB23 : Below w2.heap.size w2 w3 := by rw [← hw3]; exact al0 _ _
    have hB3 : Below w.heap.size w w3 := trans0 hB2 hB23
    have hb3 := box4 w2 (.int .i64 x.f) (.int .i64 x.t) (.slice A2 x.b.length c2) (.bool x.sp)
    rw [hw3] at hb3
    obtain ⟨b0, b1, b2, b3⟩ := row4_cells hb3
    have bl := hb3.lt
    have hl3 := Lib.hid (hle.out w3 hB3)
    obtain ⟨A', c', n, xs, z0, zl, zo, zn, zf, zd⟩ := hA.out w3 A2 c2 hB3 (own_blk ho2 fun b e => hB23.block b (own_ge ho2 e).2)
    have hls := Lib.hid (show n + 1 ≤ maxLen by unfold maxLen; omega)
    replace zo := Lib.hid zo
    replace zf := Lib.hid zf
    replace zd := Lib.hid zd
    clear hB2 hB3 hle hlk ho2 hB23 hA hb3
    unfold c4
    go_wp2_with (go_at_call 13; ((with_reducible refine (hl3.out).mono ?_); rintro e w' ⟨rfl, rfl⟩))
    go_region_law (refine step_gen rfl (.tmp 34) (.tmp 36) 26 rfl 0 66 i0 _ 4 48 Try.underlying26 hi0 hz0 hz1 hz2 rfl (by decide) _ n xs (by rfl) (World.ownsRow.alloc zo.out _) (some ⟨_, 0, none⟩) 1 1 [_, _, _, _] (by rfl) rfl (stand_new _ _ _ _) (by intro u hu; simp only [List.mem_cons, List.not_mem_nil, or_false] at hu; rcases hu with rfl | rfl | rfl | rfl <;> rfl) hls.out (by omega) (Nat.zero_le _) ?_; intro A9 c9 w9 hr9 hg9 hat9; obtain ⟨q2, q3⟩ := zf.out _ _ (al0 _ _) (undrewG hg9))
    all_goals
      go_wp2
      go_ret
      obtain ⟨q1, q2⟩ := hE.out
      rw [q1, q2]
      exact zd.out _ _ _ _ (al0 _ _) hr9 (undrewG hg9) hat9
def backD (d : Dn) (j : Nat) (x : Dk) : Dn := addD (delD d j) x
set_option maxRecDepth 100000 in
set_option maxHeartbeats 1000000 in
theorem dback_ok {i j : Nat} {x : Dk} (w : World) (h : DocAt col c w q d) (hw : IsWay f t) (hj : idx f t d.row i = some j) (hx : d.row[j]? = some x) (hi9 : (i : Int) ≤ 9223372036854775807) (hrn : d.row.length < 100000) :
    Calls Try.prog 30 #[.pointer (some ⟨q, 0, none⟩), .int .i64 f, .int .i64 t, .int .i64 i] w (DDid col c q 0 (backD d j x) w) := by
  have htk := Lib.hid (dtake_ok w h hw hj hx hi9)
  obtain ⟨v0, ds0, m0, hI0, -, hm0, hmx, -⟩ := doc_open h hx
  have hok0 := hI0.ok m0 (List.mem_of_getElem? hm0)
  have hbl0 := hI0.bl m0 (List.mem_of_getElem? hm0)
  rw [hmx] at hok0 hbl0
  clear hI0 hm0 hmx
  obtain ⟨i0, hi0, hz0, hz1, hz2⟩ := info_parts infoK
  have hrn2 : (delD d j).row.length < 100000 := by
    show (d.row.eraseIdx j).length < _
    have := List.length_eraseIdx_le d.row j
    omega
  have hA := Lib.hid (fun wa A2 c2 (hC : Cg (fun b => col b = c) w wa) (hd : DocAt (recol col w c) c wa q (delD d j)) ho => dadd_from hC hd x A2 c2 ho hrn2 hok0 hbl0)
  clear h hw hj hx hok0
  go_enter Try.func30, Try.ntmps30
  go_wp2_with (fail)
  refine htk.out.mono ?_
  rintro e w2 ⟨A2, c2, rfl, ho2, hC2, hd2⟩
  obtain ⟨w3, hw3⟩ : ∃ w3, w2.alloc (.cells #[.int .i64 x.f, .int .i64 x.t, .slice A2 x.b.length c2, .bool x.sp] 66) = w3 := ⟨_, rfl⟩
  have hB23 : Below w2.heap.size w2 w3 := by rw [← hw3]; exact al0 _ _
  have hb3 := box4 w2 (.int .i64 x.f) (.int .i64 x.t) (.slice A2 x.b.length c2) (.bool x.sp)
  rw [hw3] at hb3
  obtain ⟨b0, b1, b2, b3⟩ := row4_cells hb3
  have bl := hb3.lt
  obtain ⟨A', c', n, xs, z0, zl, zo, zn, zf, zd⟩ := hA.out w3 A2 c2 (hC2.then hB23) (hd2.below hB23) (own_blk ho2 fun b e => hB23.block b (own_ge ho2 e).2)
  have hls := Lib.hid (show n + 1 ≤ maxLen by unfold maxLen; omega)
  replace zo := Lib.hid zo
  replace zf := Lib.hid zf
  replace zd := Lib.hid zd
  clear hC2 hd2 htk ho2 hB23 hA hb3
  unfold c4
  go_wp2
  go_region_law (refine step_gen rfl (.tmp 25) (.tmp 27) 26 rfl 0 66 i0 _ 4 48 Try.underlying26 hi0 hz0 hz1 hz2 rfl (by decide) _ n xs (by rfl) (World.ownsRow.alloc zo.out _) (some ⟨_, 0, none⟩) 1 1 [_, _, _, _] (by rfl) rfl (stand_new _ _ _ _) (by intro u hu; simp only [List.mem_cons, List.not_mem_nil, or_false] at hu; rcases hu with rfl | rfl | rfl | rfl <;> rfl) hls.out (by omega) (Nat.zero_le _) ?_; intro A9 c9 w9 hr9 hg9 hat9; obtain ⟨q2, q3⟩ := zf.out _ _ (al0 _ _) (undrewG hg9))
  all_goals
    go_wp2
    go_ret
    exact zd.out _ _ _ _ (al0 _ _) hr9 (undrewG hg9) hat9
end
end Go.Proofs.Ytggoaglcffdcnaa.netRc
