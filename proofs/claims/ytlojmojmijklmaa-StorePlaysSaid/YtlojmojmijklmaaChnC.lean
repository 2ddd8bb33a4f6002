/- The contracts of IndexFunc with the two closures, and of placeFor. -/
import Derived.Test.YtlojmojmijklmaaChnR
set_option linter.unusedVariables false
namespace Go.Proofs.Ytlojmojmijklmaa.chnC
open Go.ChangeShapes Go.WideShapes Go.ChangeAt Go.RowKit Go.Deep
open opV chnM gen chnA chnB chnR

/-- a mark lies in block b -/
abbrev K3 (b : Nat) (v : Ver) (w : World) : Prop := w.cell? ⟨b, 0, none⟩ = some (.int .u64 v.ts) ∧ w.cell? ⟨b, 1, none⟩ = some (.int .i64 v.dc) ∧ w.cell? ⟨b, 2, none⟩ = some (.int .i64 v.tx)
theorem K3.below {b : Nat} {v : Ver} {w w1 : World} (h : K3 b v w) (hb : Below w.heap.size w w1) : K3 b v w1 := ⟨keep_cell hb h.1, keep_cell hb h.2.1, keep_cell hb h.2.2⟩
theorem same_clo (b : Nat) (v x : Ver) (w : World) (h : K3 b v w) :
    Calls Try.prog 63 #[.agg #[.string x.key, .string x.val, .bool x.gone, .int .u64 x.ts, .int .i64 x.dc, .int .i64 x.tx], .pointer (some ⟨b, 0, none⟩)] w fun e w' => e = .returned (.bool (same x v)) ∧ Below w.heap.size w w' := by
  have h1 := V6.new w x 35
  have hb := h.below (al0 w (.cells #[.string x.key, .string x.val, .bool x.gone, .int .u64 x.ts, .int .i64 x.dc, .int .i64 x.tx] 35))
  have hB := al0 w (.cells #[.string x.key, .string x.val, .bool x.gone, .int .u64 x.ts, .int .i64 x.dc, .int .i64 x.tx] 35)
  obtain ⟨W, hW⟩ : ∃ W, w.alloc (.cells #[.string x.key, .string x.val, .bool x.gone, .int .u64 x.ts, .int .i64 x.dc, .int .i64 x.tx] 35) = W := ⟨_, rfl⟩
  rw [hW] at h1 hb hB
  have hS : Hid ((V6 w.heap.size 0 x W.drew ∧ K3 b v W.drew) ∧ Below w.heap.size w W.drew) := Lib.hid ⟨⟨h1, hb⟩, hB.drew⟩
  have hq := eql_mark x v
  replace hW := Lib.hid hW
  clear h h1 hb hB
  go_enter Try.func63, Try.ntmps63
  go_wp2
  rw [hW.out]
  go_region_held3 (fun w' => (V6 w.heap.size 0 x w' ∧ K3 b v w') ∧ Below w.heap.size w w')
    (first | with_reducible exact hS.out | with_reducible assumption | with_reducible exact ⟨⟨V6.below (And.left (And.left (by assumption))) (by assumption), K3.below (And.right (And.left (by assumption))) (by assumption)⟩, trans0 (And.right (by assumption)) (by assumption)⟩ | fail)
    (first
      | (go_at_call 55; ((with_reducible refine (of_any _ _).mono ?_); rintro e w' ⟨rfl, hB⟩)) | fail)
  all_goals
    rename_i hHeld
    go_wp2
    go_ret
    exact ⟨rfl, hHeld.2⟩
theorem first_clo (b : Nat) (v x : Ver) (w : World) (h : V6 b 0 v w) :
    Calls Try.prog 64 #[.agg #[.string x.key, .string x.val, .bool x.gone, .int .u64 x.ts, .int .i64 x.dc, .int .i64 x.tx], .pointer (some ⟨b, 0, none⟩)] w fun e w' => e = .returned (.bool (lt v x)) ∧ Below w.heap.size w w' := by
  have hB := al0 w (.cells #[.string x.key, .string x.val, .bool x.gone, .int .u64 x.ts, .int .i64 x.dc, .int .i64 x.tx] 35)
  obtain ⟨c0, c1, c2, c3, c4, c5⟩ := h.below hB
  have h1 := V6.new w x 35
  obtain ⟨d0, d1, d2, d3, d4, d5⟩ := h1
  replace hB := Lib.hid hB
  clear h
  go_enter Try.func64, Try.ntmps64
  go_wp2_with (go_at_call 53; ((with_reducible refine (below_any v x _).mono ?_); rintro e w' ⟨rfl, hB'⟩))
  go_ret
  exact ⟨rfl, trans0 hB.out hB'⟩
set_option maxRecDepth 100000 in
set_option maxHeartbeats 1000000 in
theorem same_ix (A : Option Addr) (c : Nat) (l : List Ver) (b : Nat) (v : Ver) (w : World) (h : HV w A c l) (hv : K3 b v w) :
    Calls Try.prog 62 #[.slice A l.length c, .func (.func 63) #[] #[.pointer (some ⟨b, 0, none⟩)]] w fun e w' =>
      e = .returned (.int .i64 (ixf (fun x => same x v) l)) ∧ Below w.heap.size w w' := by
  have hle := Lib.hid h.le
  have htop := h.top
  have hl9 : l.length ≤ 9223372036854775807 := Nat.le_trans h.le h.top
  clear htop
  obtain ⟨p, hp⟩ : ∃ p : Ver → Bool, (fun x => same x v) = p := ⟨_, rfl⟩
  rw [hp]
  have hpx := Lib.hid (fun x => congrFun hp x)
  clear hp
  obtain ⟨r, hr⟩ : ∃ r, ixf p l = r := ⟨_, rfl⟩
  rw [hr]
  replace hr := Lib.hid hr
  go_enter Try.func62, Try.ntmps62
  go_wp2
  go_loopw [5, 8] (fun _ i wr => ∃ j : Nat, j ≤ l.length ∧ i = .int .i64 j ∧ Hid (∀ i, i < j → p (nt l i) = false) ∧ Hid (Below w.heap.size w wr)) (fun _ i _ => l.length - (intOf i).toNat)
  case atStart => exact ⟨0, by omega, rfl, Lib.hid (fun i hi => by omega), Lib.hid (Below.refl _ _)⟩
  case round =>
    obtain ⟨j, hj, rfl, hs, hB⟩ := hrel
    by_cases hlt : j < l.length
    · obtain ⟨pb, po, rfl, hpb, hc⟩ := (h.below hB.out).at hlt
      obtain ⟨c0, c1, c2, c3, c4, c5⟩ := hc
      have hcall := Lib.hid (same_clo b v (nt l j) wr (hv.below hB.out))
      have hq := hpx.out (nt l j)
      cases hpq : p (nt l j) with
      | true =>
        have hfin := Lib.hid (idx_eq p l j hlt hpq hs.out)
        rw [hpq] at hq
        rw [hq] at hcall
        have hix := Lib.hid (show ixf p l = (j : Int) by unfold ixf; rw [if_pos (by rw [hfin.out]; exact hlt), hfin.out])
        clear hq hpq hs hfin
        generalize nt l j = x at *
        go_wp2_with (go_at_call 63; ((with_reducible refine (hcall.out).mono ?_); rintro e w' ⟨rfl, hB'⟩))
        go_ret
        exact ⟨by rw [← hr.out, hix.out]; rfl, trans0 hB.out hB'⟩
      | false =>
        have hs' := Lib.hid (show ∀ i, i < j + 1 → p (nt l i) = false from fun i hi => by
          by_cases e : i = j
          · rw [e]; exact hpq
          · exact hs.out i (by omega))
        rw [hpq] at hq
        rw [hq] at hcall
        clear hq hpq hs
        generalize nt l j = x at *
        go_wp2_with (go_at_call 63; ((with_reducible refine (hcall.out).mono ?_); rintro e w' ⟨rfl, hB'⟩))
        have hB2 := Lib.hid (trans0 hB.out hB')
        clear hB'
        go_roundw
        case rel => exact ⟨j + 1, by omega, by go_num, hs', hB2⟩
        case measure => simp [intOf]; omega
    · obtain rfl : j = l.length := by omega
      have hix := Lib.hid (show ixf p l = -1 by unfold ixf; rw [if_neg (by rw [idx_all p l hs.out]; omega)])
      clear hs
      go_wp2
      go_ret
      exact ⟨by rw [← hr.out, hix.out]; rfl, hB.out⟩
set_option maxRecDepth 100000 in
set_option maxHeartbeats 1000000 in
theorem first_ix (A : Option Addr) (c : Nat) (l : List Ver) (b : Nat) (v : Ver) (w : World) (h : HV w A c l) (hv : V6 b 0 v w) :
    Calls Try.prog 62 #[.slice A l.length c, .func (.func 64) #[] #[.pointer (some ⟨b, 0, none⟩)]] w fun e w' =>
      e = .returned (.int .i64 (ixf (fun x => lt v x) l)) ∧ Below w.heap.size w w' := by
  have hle := Lib.hid h.le
  have htop := h.top
  have hl9 : l.length ≤ 9223372036854775807 := Nat.le_trans h.le h.top
  clear htop
  obtain ⟨p, hp⟩ : ∃ p : Ver → Bool, (fun x => lt v x) = p := ⟨_, rfl⟩
  rw [hp]
  have hpx := Lib.hid (fun x => congrFun hp x)
  clear hp
  obtain ⟨r, hr⟩ : ∃ r, ixf p l = r := ⟨_, rfl⟩
  rw [hr]
  replace hr := Lib.hid hr
  go_enter Try.func62, Try.ntmps62
  go_wp2
  go_loopw [5, 8] (fun _ i wr => ∃ j : Nat, j ≤ l.length ∧ i = .int .i64 j ∧ Hid (∀ i, i < j → p (nt l i) = false) ∧ Hid (Below w.heap.size w wr)) (fun _ i _ => l.length - (intOf i).toNat)
  case atStart => exact ⟨0, by omega, rfl, Lib.hid (fun i hi => by omega), Lib.hid (Below.refl _ _)⟩
  case round =>
    obtain ⟨j, hj, rfl, hs, hB⟩ := hrel
    by_cases hlt : j < l.length
    · obtain ⟨pb, po, rfl, hpb, hc⟩ := (h.below hB.out).at hlt
      obtain ⟨c0, c1, c2, c3, c4, c5⟩ := hc
      have hcall := Lib.hid (first_clo b v (nt l j) wr (hv.below hB.out))
      have hq := hpx.out (nt l j)
      cases hpq : p (nt l j) with
      | true =>
        have hfin := Lib.hid (idx_eq p l j hlt hpq hs.out)
        rw [hpq] at hq
        rw [hq] at hcall
        have hix := Lib.hid (show ixf p l = (j : Int) by unfold ixf; rw [if_pos (by rw [hfin.out]; exact hlt), hfin.out])
        clear hq hpq hs hfin
        generalize nt l j = x at *
        go_wp2_with (go_at_call 64; ((with_reducible refine (hcall.out).mono ?_); rintro e w' ⟨rfl, hB'⟩))
        go_ret
        exact ⟨by rw [← hr.out, hix.out]; rfl, trans0 hB.out hB'⟩
      | false =>
        have hs' := Lib.hid (show ∀ i, i < j + 1 → p (nt l i) = false from fun i hi => by
          by_cases e : i = j
          · rw [e]; exact hpq
          · exact hs.out i (by omega))
        rw [hpq] at hq
        rw [hq] at hcall
        clear hq hpq hs
        generalize nt l j = x at *
        go_wp2_with (go_at_call 64; ((with_reducible refine (hcall.out).mono ?_); rintro e w' ⟨rfl, hB'⟩))
        have hB2 := Lib.hid (trans0 hB.out hB')
        clear hB'
        go_roundw
        case rel => exact ⟨j + 1, by omega, by go_num, hs', hB2⟩
        case measure => simp [intOf]; omega
    · obtain rfl : j = l.length := by omega
      have hix := Lib.hid (show ixf p l = -1 by unfold ixf; rw [if_neg (by rw [idx_all p l hs.out]; omega)])
      clear hs
      go_wp2
      go_ret
      exact ⟨by rw [← hr.out, hix.out]; rfl, hB.out⟩
end Go.Proofs.Ytlojmojmijklmaa.chnC
