/- What each kind of move does to what the law keeps. -/
import Derived.Test.YthiadkpndemeeaaLnkS
namespace Go.Proofs.Ythiadkpndemeeaa.lnkT
open Go.ChangeShapes Go.WideShapes Go.ChangeAt Go.RowKit Go.Deep
open numM rowA byt numA numB numC lnkA lnkB lnkC lnkD lnkE lnkF lnkG lnkH lnkI lnkJ lnkP lnkL lnkQ lnkR lnkS

theorem info64 : (Try.prog.info? 75).map (fun i => (i.zero, i.size, i.bytes)) = some (some (.agg #[.int .i64 0, .int .i64 0, .int .i64 0, .int .i64 0, .slice none 0 0, .bool false]), 6, 64) := by kernel_rfl
section
variable {col : Nat → Nat} {w0 w : World} {t : Nat} {x : Tw} {pa pb : Nat} {vr vs vc : Value} {css : List (List Value)} {xs xc : List Value}
/-- The block of t stays while one of the rows grows. -/
theorem far (h : TwoIs col w0 w t x pa pb vr vs vc css xs xc) {wa w3 : World} (hB : Below w.heap.size w wa) {v : Value} (hv : v = vr ∨ v = vs ∨ v = vc) (hg : wa.grownBy w3 v.ownBlock) : w3.rowIs t 52 5 (cT pa pb vr vs vc) := by
  have h2 := h.below hB
  refine h2.blk.of_block (hg.block t h2.blk.lt (fun e => ?_))
  rcases hv with rfl | rfl | rfl
  · exact row_apart h2.blk h2.row.1 (by decide) e.symm
  · exact row_apart h2.blk h2.sent.1 (by decide) e.symm
  · exact row_apart h2.blk h2.came.1 (by decide) e.symm
theorem addSent (h : TwoIs col w0 w t x pa pb vr vs vc css xs xc) {A : Option Addr} {c : Nat} {l : List Nat} (hd : Dat col w (.slice A l.length c) l) {wa w3 : World} {v' : Value} (hB : Below w.heap.size w wa) (hr : w3.ownsRow 0 29 1 v' (x.sent.length + 1) (xs ++ [.slice A l.length c])) (hg : wa.grownBy w3 vs.ownBlock)
    (hat : v'.ownBlock = vs.ownBlock ∨ v'.ownBlock = some wa.heap.size) : TwoAt w0 (w3.setCell ⟨t, 3, none⟩ v') t { x with sent := x.sent ++ [l] } := by
  have h2 := h.below hB
  obtain ⟨e1, e2, e3, e4⟩ := app_col h2.fresh h2.sent.2 hg hr hat
  have hd2 := hd.go (Chg.of_below col 99 hB) (by decide) (Ext.refl _ _)
  refine ⟨_, pa, pb, vr, v', vc, css, _, xc, h2.stored (d := 5) (by decide) e3 e1 e2 ({ x with sent := x.sent ++ [l] }) rfl rfl (h2.row.other e3 (by decide) e1) (h2.rowd.go e3 (by decide) e1) ⟨?_, e4⟩ ((h2.sentd.go e3 (by decide) e1).snoc (hd2.go e3 (by decide) e1)) (h2.came.other e3 (by decide) e1) (h2.camed.go e3 (by decide) e1) 3 v' (fun j hj => ?_)⟩
  · rw [List.length_append]; exact hr
  · have : j = 0 ∨ j = 1 ∨ j = 2 ∨ j = 3 ∨ j = 4 := by omega
    rcases this with rfl | rfl | rfl | rfl | rfl <;> rfl
theorem addCame (h : TwoIs col w0 w t x pa pb vr vs vc css xs xc) {us : List Value} {ls : List (List Nat)} (hd : Dats col w us ls) {w3 : World} {v' : Value} (hr : w3.ownsRow 0 29 1 v' (x.came.length + ls.length) (xc ++ us)) (hg : w.grownBy w3 vc.ownBlock)
    (hat : v'.ownBlock = vc.ownBlock ∨ v'.ownBlock = some w.heap.size) : TwoAt w0 (w3.setCell ⟨t, 4, none⟩ v') t { x with came := x.came ++ ls } := by
  obtain ⟨e1, e2, e3, e4⟩ := app_col h.fresh h.came.2 hg hr hat
  refine ⟨_, pa, pb, vr, vs, v', css, xs, _, h.stored (d := 6) (by decide) e3 e1 e2 ({ x with came := x.came ++ ls }) rfl rfl (h.row.other e3 (by decide) e1) (h.rowd.go e3 (by decide) e1) (h.sent.other e3 (by decide) e1) (h.sentd.go e3 (by decide) e1) ⟨?_, e4⟩ (Dats.app (hd.go e3 (by decide) e1) (h.camed.go e3 (by decide) e1)) 4 v' (fun j hj => ?_)⟩
  · rw [List.length_append]; exact hr
  · have : j = 0 ∨ j = 1 ∨ j = 2 ∨ j = 3 ∨ j = 4 := by omega
    rcases this with rfl | rfl | rfl | rfl | rfl <;> rfl
theorem addRow (h : TwoIs col w0 w t x pa pb vr vs vc css xs xc) {cs : List Value} {f : Fm × Bool} (hd : Wy col w cs f) {wa w3 : World} {v' : Value} (hB : Below w.heap.size w wa) (hr : w3.ownsRow 0 75 6 v' (x.row.length + 1) (css.flatten ++ cs)) (hg : wa.grownBy w3 vr.ownBlock)
    (hat : v'.ownBlock = vr.ownBlock ∨ v'.ownBlock = some wa.heap.size) : TwoAt w0 (w3.setCell ⟨t, 2, none⟩ v') t { x with row := x.row ++ [f] } := by
  have h2 := h.below hB
  obtain ⟨e1, e2, e3, e4⟩ := app_col h2.fresh h2.row.2 hg hr hat
  have hd2 := hd.go (Chg.of_below col 99 hB) (by decide) (Ext.refl _ _)
  refine ⟨_, pa, pb, v', vs, vc, css ++ [cs], xs, xc, h2.stored (d := 4) (by decide) e3 e1 e2 ({ x with row := x.row ++ [f] }) rfl rfl ⟨?_, e4⟩ (Wys.app (vs2 := [cs]) (ls2 := [f]) (show Wys _ _ [cs] [f] from ⟨hd2.go e3 (by decide) e1, trivial⟩) (h2.rowd.go e3 (by decide) e1)) (h2.sent.other e3 (by decide) e1) (h2.sentd.go e3 (by decide) e1) (h2.came.other e3 (by decide) e1) (h2.camed.go e3 (by decide) e1) 2 v' (fun j hj => ?_)⟩
  · rw [List.length_append, List.flatten_append]; simpa using hr
  · have : j = 0 ∨ j = 1 ∨ j = 2 ∨ j = 3 ∨ j = 4 := by omega
    rcases this with rfl | rfl | rfl | rfl | rfl <;> rfl
/-- Another row, made since. -/
theorem setRow (h : TwoIs col w0 w t x pa pb vr vs vc css xs xc) {css' : List (List Value)} {row' : List (Fm × Bool)} (hd : Wys col w css' row') {w3 : World} {v' : Value} (hB : Below w.heap.size w w3) (hr : w3.ownsRow w.heap.size 75 6 v' row'.length css'.flatten) :
    TwoAt w0 (w3.setCell ⟨t, 2, none⟩ v') t { x with row := row' } := by
  have hr0 : w3.ownsRow 0 75 6 v' row'.length css'.flatten := own_le hr (Nat.zero_le _)
  have e1 : Ext w col (paintB col v' 4) := fun k hk => by
    unfold paintB
    rw [if_neg (fun e => by have := (hr.lt k e).1; omega)]
  have e2 : Fresh (paintB col v' 4) w3 := fun k hk => by
    unfold paintB
    rw [if_neg (fun e => by have := (hr.lt k e).2; omega)]
    exact h.fresh k (by have := hB.size; omega)
  have e3 : Chg col 4 w w3 := Chg.of_below _ _ hB
  refine ⟨_, pa, pb, v', vs, vc, css', xs, xc, h.stored (d := 4) (by decide) e3 e1 e2 ({ x with row := row' }) rfl rfl ⟨hr0, fun k e => if_pos e⟩ (hd.go e3 (by decide) e1) (h.sent.other (Chg.of_below _ 99 hB) (by decide) e1) (h.sentd.go e3 (by decide) e1) (h.came.other e3 (by decide) e1) (h.camed.go e3 (by decide) e1) 2 v' (fun j hj => ?_)⟩
  have : j = 0 ∨ j = 1 ∨ j = 2 ∨ j = 3 ∨ j = 4 := by omega
  rcases this with rfl | rfl | rfl | rfl | rfl <;> rfl
end
/-! ### What is told of bodies: the last test -/
theorem LQ.take {w : World} {A : Option Addr} {n k : Nat} {ls : List (List Nat)} (h : LQ w A n ls) (hk : k ≤ n) : LQ w A k (ls.take k) := by
  refine ⟨by have := h.1; omega, fun i hi => ?_⟩
  have e : lth (ls.take k) i = lth ls i := by
    unfold lth
    rw [List.getD_eq_getElem?_getD, List.getD_eq_getElem?_getD, List.getElem?_take_of_lt hi]
  rw [e]
  exact h.2 i (by omega)
set_option maxRecDepth 100000 in
set_option maxHeartbeats 1000000 in
theorem sames_q (A : Option Addr) (n c : Nat) (B : Option Addr) (d : Nat) (ls : List (List Nat)) (w : World) (h1 : LQ w A n ls) (h2 : LQ w B n ls) :
    Calls Try.prog 16 #[.slice A n c, .slice B n d] w fun e w' => e = .returned (.bool true) ∧ ∃ m, w' = w.drewN m := by
  have hn := h1.1
  replace h1 := Lib.hid h1
  replace h2 := Lib.hid h2
  go_enter Try.func16, Try.ntmps16
  go_wp2
  go_loopw [5] (fun i wr => ∃ k : Nat, k ≤ n ∧ i = .int .i64 k ∧ Hid (∃ m, wr = w.drewN m)) (fun i _ => n - (intOf i).toNat)
  case atStart => exact ⟨0, by omega, rfl, 0, rfl⟩
  case round =>
    obtain ⟨k, hk, rfl, hB⟩ := hrel
    have hBel : Below w.heap.size w wr.drew := by obtain ⟨m, rfl⟩ := hB.out; exact (lnkI.below_drewN w m).drew
    by_cases hlt : k < n
    · obtain ⟨b, off, B1, c1, rfl, k0, hb⟩ := (h1.out.below hBel).2 k hlt
      obtain ⟨b', off', B2, c2, rfl, l0, hb'⟩ := (h2.out.below hBel).2 k hlt
      have e1 := run_str (P := Try.prog) 29 5 9 Try.underlying29 Try.underlying5 Try.underlying9 c1 hb
      have e2 := run_str (P := Try.prog) 29 5 9 Try.underlying29 Try.underlying5 Try.underlying9 c2 hb'
      have k0' : wr.cell? ⟨b, off + k, none⟩ = some (.slice B1 (lth ls k).length c1) := k0
      have l0' : wr.cell? ⟨b', off' + k, none⟩ = some (.slice B2 (lth ls k).length c2) := l0
      have hBd : Hid (∃ m, wr.drew = w.drewN m) := Lib.hid (by obtain ⟨m, e⟩ := hB.out; exact ⟨m + 1, by rw [e]; rfl⟩)
      clear hb hb' k0 l0 hB hBel
      generalize lth ls k = F at *
      generalize strOf F = T at *
      go_wp2
      go_region
      go_wp2
      go_roundw
      case rel => exact ⟨k + 1, by omega, by go_num, hBd⟩
      case measure => simp [intOf]; omega
    · obtain rfl : k = n := by omega
      clear hBel
      go_wp2
      go_ret
      exact ⟨rfl, hB.out⟩
end Go.Proofs.Ythiadkpndemeeaa.lnkT
