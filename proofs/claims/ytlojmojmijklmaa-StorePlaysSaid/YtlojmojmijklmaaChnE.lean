/- The contracts of SameVers, great, Seen and At, in the program and in the document's own answer; awake. -/
import Derived.Test.YtlojmojmijklmaaChnD
set_option linter.unusedVariables false
namespace Go.Proofs.Ytlojmojmijklmaa.chnE
open Go.ChangeShapes Go.WideShapes Go.ChangeAt Go.RowKit Go.Deep
open opV chnM gen chnA chnB chnR chnC chnD

/-! ### A box of a version, which may be written -/
abbrev R6 (b : Nat) (v : Ver) (w : World) : Prop := w.rowIs b 35 6 (fun i => (cL v).getD i undef)
abbrev put6 (w : World) (b : Nat) (v : Ver) : World := (((((w.setCell ⟨b, 0, none⟩ (.string v.key)).setCell ⟨b, 1, none⟩ (.string v.val)).setCell ⟨b, 2, none⟩ (.bool v.gone)).setCell ⟨b, 3, none⟩ (.int .u64 v.ts)).setCell ⟨b, 4, none⟩ (.int .i64 v.dc)).setCell ⟨b, 5, none⟩ (.int .i64 v.tx)
section
variable {b B : Nat} {v u : Ver} {w w0 w1 : World}
theorem R6.v6 (h : R6 b v w) : V6 b 0 v w := ⟨h.cell (i := 0) (by omega), h.cell (i := 1) (by omega), h.cell (i := 2) (by omega), h.cell (i := 3) (by omega), h.cell (i := 4) (by omega), h.cell (i := 5) (by omega)⟩
theorem R6.fz (h : R6 b v w) : w.frozen? ⟨b, 0, none⟩ = false ∧ w.frozen? ⟨b, 1, none⟩ = false ∧ w.frozen? ⟨b, 2, none⟩ = false ∧ w.frozen? ⟨b, 3, none⟩ = false ∧ w.frozen? ⟨b, 4, none⟩ = false ∧ w.frozen? ⟨b, 5, none⟩ = false :=
  ⟨h.frozen 0, h.frozen 1, h.frozen 2, h.frozen 3, h.frozen 4, h.frozen 5⟩
theorem R6.below (h : R6 b v w) (hB : Below w.heap.size w w1) : R6 b v w1 := h.of_block (hB.block b h.lt)
theorem six {i : Nat} (hi : i < 6) : i = 0 ∨ i = 1 ∨ i = 2 ∨ i = 3 ∨ i = 4 ∨ i = 5 := by omega
theorem R6.new (w : World) (v : Ver) : R6 w.heap.size v (w.alloc (.cells #[.string v.key, .string v.val, .bool v.gone, .int .u64 v.ts, .int .i64 v.dc, .int .i64 v.tx] 35)) := by
  have h := World.rowIs_alloc w #[.string v.key, .string v.val, .bool v.gone, .int .u64 v.ts, .int .i64 v.dc, .int .i64 v.tx] 35 (fun i => (cL v).getD i undef) (fun i hi => ?_)
  · exact h
  · rcases six (i := i) (by simpa using hi) with rfl | rfl | rfl | rfl | rfl | rfl <;> rfl
theorem R6.put (h : R6 b u w) (v : Ver) : R6 b v (put6 w b v) :=
  ((((((h.set 0 _).set 1 _).set 2 _).set 3 _).set 4 _).set 5 _).congr fun i hi => by rcases six hi with rfl | rfl | rfl | rfl | rfl | rfl <;> rfl
theorem put6_below (h : Below B w0 w) (hb : B ≤ b) (v : Ver) : Below B w0 (put6 w b v) :=
  (((((h.setCell (p := ⟨b, 0, none⟩) hb _).setCell (p := ⟨b, 1, none⟩) hb _).setCell (p := ⟨b, 2, none⟩) hb _).setCell (p := ⟨b, 3, none⟩) hb _).setCell (p := ⟨b, 4, none⟩) hb _).setCell (p := ⟨b, 5, none⟩) hb _
end
set_option maxRecDepth 100000 in
set_option maxHeartbeats 1000000 in
theorem samevers (a : Option Addr) (c : Nat) (l : List Ver) (b : Option Addr) (d : Nat) (k : List Ver) (w : World) (h1 : HV w a c l) (h2 : HV w b d k) :
    Calls Try.prog 23 #[.slice a l.length c, .slice b k.length d] w fun e w' => e = .returned (.bool (decide (l = k))) ∧ Below w.heap.size w w' := by
  by_cases hn : l.length = k.length
  · have hn9 : l.length ≤ 9223372036854775807 := Nat.le_trans h1.le h1.top
    have hx := Lib.hid (fun h => nt_ext (l := l) (k := k) hn h)
    have hy : Hid (l = k → ∀ i, nt l i = nt k i) := Lib.hid (fun h i => by rw [h])
    have hat := Lib.hid (fun (j : Nat) (wr : World) (hj : j < l.length) (hB : Below w.heap.size w wr) => (h2.below hB).at (i := j) (by omega))
    replace h1 := Lib.hid h1
    clear h2
    obtain ⟨r, hr⟩ : ∃ r, decide (l = k) = r := ⟨_, rfl⟩
    rw [hr, ← hn]
    replace hr := Lib.hid hr
    replace hn := Lib.hid hn
    go_enter Try.func23, Try.ntmps23
    go_wp2
    go_loopw [5] (fun i wr => ∃ j : Nat, j ≤ l.length ∧ i = .int .i64 j ∧ Hid (∀ i, i < j → nt l i = nt k i) ∧ Hid (Below w.heap.size w wr)) (fun i _ => l.length - (intOf i).toNat)
    case atStart => exact ⟨0, by omega, rfl, Lib.hid (fun i hi => by omega), Lib.hid (Below.refl _ _)⟩
    case round =>
      obtain ⟨j, hj, rfl, hs, hB⟩ := hrel
      by_cases hlt : j < l.length
      · obtain ⟨p, o, rfl, hp, hc⟩ := (h1.out.below hB.out).at hlt
        obtain ⟨p', o', rfl, hp', hc'⟩ := hat.out j wr hlt hB.out
        obtain ⟨c0, c1, c2, c3, c4, c5⟩ := hc
        obtain ⟨d0, d1, d2, d3, d4, d5⟩ := hc'
        have hq := neq_ver (nt l j) (nt k j)
        by_cases he : nt l j = nt k j
        · have hs' := Lib.hid (show ∀ i, i < j + 1 → nt l i = nt k i from fun i hi => by
            by_cases hij : i = j
            · rw [hij]; exact he
            · exact hs.out i (by omega))
          rw [decide_eq_true he] at hq
          clear he hs
          generalize nt l j = x at *
          generalize nt k j = y at *
          go_wp2
          go_quiet (fail)
          have hB' := Lib.hid (bdrN nq hB.out)
          clear hB hq
          go_wp2
          go_roundw
          case rel => exact ⟨j + 1, by omega, by go_num, hs', hB'⟩
          case measure => simp [intOf]; omega
        · have hf : r = false := by rw [← hr.out]; exact decide_eq_false (fun h => he (hy.out h j))
          subst hf
          rw [decide_eq_false he] at hq
          clear he hs
          generalize nt l j = x at *
          generalize nt k j = y at *
          go_wp2
          go_quiet (fail)
          have hB' := Lib.hid (bdrN nq hB.out)
          clear hB hq
          go_wp2
          go_ret
          exact ⟨rfl, hB'.out⟩
      · obtain rfl : j = l.length := by omega
        have ht : r = true := by rw [← hr.out]; exact decide_eq_true (hx.out hs.out)
        subst ht
        clear hs
        go_wp2
        go_ret
        exact ⟨rfl, hB.out⟩
  · have hne : ((l.length : Int) != (k.length : Int)) = true := by rw [bne_iff_ne]; omega
    rw [decide_eq_false (fun h => hn (by rw [h]))]
    clear hn h1 h2
    go_enter Try.func23, Try.ntmps23
    go_wp2
    go_ret
    exact ⟨rfl, Below.refl _ _⟩
theorem seen_yes {l : List Ver} {s : Int} {j : Nat} (hs : (nt l j).ts ≤ s) (h : snn l s j = -1) : snn l s (j + 1) = (j : Nat) := by
  show (if _ then _ else _) = _
  rw [if_pos ⟨hs, .inl (by omega)⟩]
theorem seen_lt {l : List Ver} {s : Int} {j k : Nat} (hs : (nt l j).ts ≤ s) (h : snn l s j = (k : Nat)) (hl : lt (nt l k) (nt l j) = true) : snn l s (j + 1) = (j : Nat) := by
  show (if _ then _ else _) = _
  rw [if_pos ⟨hs, .inr (by rw [h]; exact hl)⟩]
theorem seen_ge {l : List Ver} {s : Int} {j k : Nat} (h : snn l s j = (k : Nat)) (hl : lt (nt l k) (nt l j) = false) : snn l s (j + 1) = (k : Nat) := by
  show (if _ then _ else _) = _
  rw [if_neg, h]
  rintro ⟨h1, h2 | h2⟩
  · omega
  · rw [h] at h2
    change lt (nt l k) (nt l j) = true at h2
    rw [hl] at h2; cases h2
theorem seen_no {l : List Ver} {s : Int} {j : Nat} (hs : ¬ (nt l j).ts ≤ s) : snn l s (j + 1) = snn l s j := by
  show (if _ then _ else _) = _
  rw [if_neg (fun h => hs h.1)]
set_option maxRecDepth 100000 in
set_option maxHeartbeats 2000000 in
theorem seen_any (A : Option Addr) (c : Nat) (l : List Ver) (sn : Int) (w : World) (h : HV w A c l) :
    Calls Try.prog 57 #[.slice A l.length c, .int .u64 sn] w fun e w' => e = .returned (.int .i64 (snA l sn)) ∧ Below w.heap.size w w' := by
  have hl9 : l.length ≤ 9223372036854775807 := Nat.le_trans h.le h.top
  replace h := Lib.hid h
  go_enter Try.func57, Try.ntmps57
  go_wp2
  go_loopw [5, 6] (fun s i wr => ∃ j : Nat, j ≤ l.length ∧ s = .int .i64 (snn l sn j) ∧ i = .int .i64 j ∧ Hid (Below w.heap.size w wr)) (fun _ i _ => l.length - (intOf i).toNat)
  case atStart => exact ⟨0, by omega, rfl, rfl, Lib.hid (Below.refl _ _)⟩
  case round =>
    obtain ⟨j, hj, rfl, rfl, hB⟩ := hrel
    by_cases hlt : j < l.length
    · obtain ⟨pb, po, rfl, hpb, hc⟩ := (h.out.below hB.out).at hlt
      have hjI : (j : Int) < (l.length : Int) := by omega
      by_cases hts : (nt l j).ts ≤ sn
      · rcases seen_spec l sn j with ⟨h1, -⟩ | ⟨k, h1, hkj, -⟩
        · have e2 := Lib.hid (seen_yes hts h1)
          have hBx := Lib.hid (trans0 hB.out (Below.refl _ _))
          rw [h1]
          obtain ⟨c0, c1, c2, c3, c4, c5⟩ := hc
          clear h1
          generalize nt l j = x at *
          go_wp2
          go_quiet (fail)
          have hB' := Lib.hid (bdrN nq hBx.out)
          clear hB hBx
          go_wp2
          go_roundw
          case rel => exact ⟨j + 1, by omega, by rw [e2.out], by go_num, hB'⟩
          case measure => simp [intOf]; omega
        · obtain ⟨pb2, po2, ea, -, hck⟩ := (h.out.below hB.out).at (show k < l.length by omega)
          simp only [Option.some.injEq, Addr.mk.injEq, and_true] at ea
          obtain ⟨rfl, rfl⟩ := ea
          have hk0 : (0 : Int) ≤ (k : Int) := by omega
          have hkI : (k : Int) < (l.length : Int) := by omega
          have hS : Hid (S2 pb (po + k * 6) pb (po + j * 6) (nt l k) (nt l j) wr.drew ∧ Below wr.heap.size wr wr.drew) := Lib.hid ⟨⟨hck, hc⟩, below_drew _⟩
          rw [h1]
          obtain ⟨c0, c1, c2, c3, c4, c5⟩ := hc
          clear hck
          cases hl : lt (nt l k) (nt l j) with
          | true =>
            have e2 := Lib.hid (seen_lt hts h1 hl)
            have hbl := Lib.hid (rless_any (nt l k) (nt l j))
            rw [hl] at hbl
            clear h1 hl
            generalize nt l j = x at *
            generalize nt l k = y at *
            go_wp2
            go_region_held3 (fun w' => S2 pb (po + k * 6) pb (po + j * 6) y x w' ∧ Below wr.heap.size wr w')
              (first | with_reducible exact hS.out | with_reducible assumption | with_reducible exact ⟨S2.below (And.left (by assumption)) (by assumption), trans0 (And.right (by assumption)) (by assumption)⟩ | fail)
              (first
                | (go_at_call 56; ((with_reducible refine (hbl.out _).mono ?_); rintro e w' ⟨rfl, hB9⟩)) | fail)
            all_goals
              rename_i hHeld
              have hB' := Lib.hid (trans0 hB.out hHeld.2)
              clear hB hHeld
              go_wp2
              go_roundw
              case rel => exact ⟨j + 1, by omega, by rw [e2.out], by go_num, hB'⟩
              case measure => simp [intOf]; omega
          | false =>
            have e2 := Lib.hid (seen_ge h1 hl)
            have hbl := Lib.hid (rless_any (nt l k) (nt l j))
            rw [hl] at hbl
            clear h1 hl
            generalize nt l j = x at *
            generalize nt l k = y at *
            go_wp2
            go_region_held3 (fun w' => S2 pb (po + k * 6) pb (po + j * 6) y x w' ∧ Below wr.heap.size wr w')
              (first | with_reducible exact hS.out | with_reducible assumption | with_reducible exact ⟨S2.below (And.left (by assumption)) (by assumption), trans0 (And.right (by assumption)) (by assumption)⟩ | fail)
              (first
                | (go_at_call 56; ((with_reducible refine (hbl.out _).mono ?_); rintro e w' ⟨rfl, hB9⟩)) | fail)
            all_goals
              rename_i hHeld
              have hB' := Lib.hid (trans0 hB.out hHeld.2)
              clear hB hHeld
              go_wp2
              go_roundw
              case rel => exact ⟨j + 1, by omega, by rw [e2.out], by go_num, hB'⟩
              case measure => simp [intOf]; omega
      · have e2 := Lib.hid (seen_no hts)
        have hBx := Lib.hid (trans0 hB.out (Below.refl _ _))
        have hd := decide_eq_false hts
        obtain ⟨c0, c1, c2, c3, c4, c5⟩ := hc
        clear hts
        generalize nt l j = x at *
        generalize snn l sn j = q at *
        go_wp2
        go_quiet (fail)
        have hB' := Lib.hid (bdrN nq hBx.out)
        clear hB hBx
        go_wp2
        go_roundw
        case rel => exact ⟨j + 1, by omega, by rw [e2.out], by go_num, hB'⟩
        case measure => simp [intOf]; omega
    · obtain rfl : j = l.length := by omega
      go_wp2
      go_ret
      exact ⟨rfl, hB.out⟩
set_option maxRecDepth 100000 in
set_option maxHeartbeats 2000000 in
theorem at_any (A : Option Addr) (c : Nat) (l : List Ver) (sn : Int) (w : World) (h0 : HV w A c l) :
    Calls Try.prog 33 #[.slice A l.length c, .int .u64 sn] w fun e w' => e = .returned (.tuple #[vv (atV l sn), .bool (atB l sn)]) ∧ Below w.heap.size w w' := by
  have hl9 : l.length ≤ 9223372036854775807 := Nat.le_trans h0.le h0.top
  obtain ⟨W, hW⟩ : ∃ W, w.alloc (.cells #[.string { data := #[] }, .string { data := #[] }, .bool false, .int .u64 0, .int .i64 0, .int .i64 0] 35) = W := ⟨_, rfl⟩
  have hz : Hid (R6 w.heap.size default W) := Lib.hid (by rw [← hW]; exact R6.new w default)
  have hBW := Lib.hid (show Below w.heap.size w W by rw [← hW]; exact al0 _ _)
  have h := Lib.hid (h0.below hBW.out)
  replace hW := Lib.hid hW
  replace h0 := Lib.hid h0
  obtain ⟨V, hV⟩ : ∃ V, atV l sn = V := ⟨_, rfl⟩
  obtain ⟨Bq, hBq⟩ : ∃ Bq, atB l sn = Bq := ⟨_, rfl⟩
  rw [hV, hBq]
  replace hV := Lib.hid hV
  replace hBq := Lib.hid hBq
  go_enter Try.func33, Try.ntmps33
  go_wp2
  rw [hW.out]
  go_loopw [6, 11] (fun s i wr => ∃ j : Nat, j ≤ l.length ∧ s = .int .i64 (snn l sn j) ∧ i = .int .i64 j ∧ Hid (Below W.heap.size W wr)) (fun _ i _ => l.length - (intOf i).toNat)
  case atStart => exact ⟨0, by omega, rfl, rfl, Lib.hid (Below.refl _ _)⟩
  case round =>
    obtain ⟨j, hj, rfl, rfl, hB⟩ := hrel
    by_cases hlt : j < l.length
    · obtain ⟨pb, po, rfl, hpb, hc⟩ := (h.out.below hB.out).at hlt
      have hjI : (j : Int) < (l.length : Int) := by omega
      by_cases hts : (nt l j).ts ≤ sn
      · rcases seen_spec l sn j with ⟨h1, -⟩ | ⟨k, h1, hkj, -⟩
        · have e2 := Lib.hid (seen_yes hts h1)
          have hBx := Lib.hid (trans0 hB.out (al0 wr (.cells #[.string (nt l j).key, .string (nt l j).val, .bool (nt l j).gone, .int .u64 (nt l j).ts, .int .i64 (nt l j).dc, .int .i64 (nt l j).tx] 35)))
          rw [h1]
          obtain ⟨c0, c1, c2, c3, c4, c5⟩ := hc
          clear h1
          generalize nt l j = x at *
          go_wp2
          go_quiet (fail)
          have hB' := Lib.hid (bdrN nq hBx.out)
          clear hB hBx
          go_wp2
          go_roundw
          case rel => exact ⟨j + 1, by omega, by rw [e2.out], by go_num, hB'⟩
          case measure => simp [intOf]; omega
        · obtain ⟨pb2, po2, ea, -, hck⟩ := (h.out.below hB.out).at (show k < l.length by omega)
          simp only [Option.some.injEq, Addr.mk.injEq, and_true] at ea
          obtain ⟨rfl, rfl⟩ := ea
          have hk0 : (0 : Int) ≤ (k : Int) := by omega
          have hkI : (k : Int) < (l.length : Int) := by omega
          have hal := al0 wr (.cells #[.string (nt l j).key, .string (nt l j).val, .bool (nt l j).gone, .int .u64 (nt l j).ts, .int .i64 (nt l j).dc, .int .i64 (nt l j).tx] 35)
          have hbx := V6.new wr (nt l j) 35
          obtain ⟨W1, hW1⟩ : ∃ W1, wr.alloc (.cells #[.string (nt l j).key, .string (nt l j).val, .bool (nt l j).gone, .int .u64 (nt l j).ts, .int .i64 (nt l j).dc, .int .i64 (nt l j).tx] 35) = W1 := ⟨_, rfl⟩
          rw [hW1] at hal hbx
          have hS : Hid (S2 pb (po + k * 6) wr.heap.size 0 (nt l k) (nt l j) W1.drew ∧ Below wr.heap.size wr W1.drew) := Lib.hid ⟨⟨V6.below hck hal.drew, hbx⟩, hal.drew⟩
          rw [h1]
          obtain ⟨c0, c1, c2, c3, c4, c5⟩ := hc
          replace hW1 := Lib.hid hW1
          clear hal hbx hck
          cases hl : lt (nt l k) (nt l j) with
          | true =>
            have e2 := Lib.hid (seen_lt hts h1 hl)
            have hbl := Lib.hid (below_any (nt l k) (nt l j))
            rw [hl] at hbl
            clear h1 hl
            generalize nt l j = x at *
            generalize nt l k = y at *
            go_wp2
            rw [hW1.out]
            go_region_held3 (fun w' => S2 pb (po + k * 6) wr.heap.size 0 y x w' ∧ Below wr.heap.size wr w')
              (first | with_reducible exact hS.out | with_reducible assumption | with_reducible exact ⟨S2.below (And.left (by assumption)) (by assumption), trans0 (And.right (by assumption)) (by assumption)⟩ | fail)
              (first
                | (go_at_call 53; ((with_reducible refine (hbl.out _).mono ?_); rintro e w' ⟨rfl, hB9⟩)) | fail)
            all_goals
              rename_i hHeld
              have hB' := Lib.hid (trans0 hB.out hHeld.2)
              clear hB hHeld
              go_wp2
              go_roundw
              case rel => exact ⟨j + 1, by omega, by rw [e2.out], by go_num, hB'⟩
              case measure => simp [intOf]; omega
          | false =>
            have e2 := Lib.hid (seen_ge h1 hl)
            have hbl := Lib.hid (below_any (nt l k) (nt l j))
            rw [hl] at hbl
            clear h1 hl
            generalize nt l j = x at *
            generalize nt l k = y at *
            go_wp2
            rw [hW1.out]
            go_region_held3 (fun w' => S2 pb (po + k * 6) wr.heap.size 0 y x w' ∧ Below wr.heap.size wr w')
              (first | with_reducible exact hS.out | with_reducible assumption | with_reducible exact ⟨S2.below (And.left (by assumption)) (by assumption), trans0 (And.right (by assumption)) (by assumption)⟩ | fail)
              (first
                | (go_at_call 53; ((with_reducible refine (hbl.out _).mono ?_); rintro e w' ⟨rfl, hB9⟩)) | fail)
            all_goals
              rename_i hHeld
              have hB' := Lib.hid (trans0 hB.out hHeld.2)
              clear hB hHeld
              go_wp2
              go_roundw
              case rel => exact ⟨j + 1, by omega, by rw [e2.out], by go_num, hB'⟩
              case measure => simp [intOf]; omega
      · have e2 := Lib.hid (seen_no hts)
        have hBx := Lib.hid (trans0 hB.out (al0 wr (.cells #[.string (nt l j).key, .string (nt l j).val, .bool (nt l j).gone, .int .u64 (nt l j).ts, .int .i64 (nt l j).dc, .int .i64 (nt l j).tx] 35)))
        have hd := decide_eq_false hts
        obtain ⟨c0, c1, c2, c3, c4, c5⟩ := hc
        clear hts
        generalize nt l j = x at *
        generalize snn l sn j = q at *
        go_wp2
        go_quiet (fail)
        have hB' := Lib.hid (bdrN nq hBx.out)
        clear hB hBx
        go_wp2
        go_roundw
        case rel => exact ⟨j + 1, by omega, by rw [e2.out], by go_num, hB'⟩
        case measure => simp [intOf]; omega
    · obtain rfl : j = l.length := by omega
      have hR := hz.out.below hB.out
      have hBw := Lib.hid (trans0 hBW.out hB.out)
      rcases seen_spec l sn l.length with ⟨h1, -⟩ | ⟨k, h1, hk, -⟩
      · have e1 : snA l sn = -1 := h1
        have hb : atB l sn = false := by unfold atB; rw [e1]; rfl
        have hv : atV l sn = default := by unfold atV; rw [if_neg (by omega)]
        have hRp := hR.put default
        have hfin := Lib.hid (put6_below hBw.out (Nat.le_refl _) default)
        obtain rfl : Bq = false := by rw [← hBq.out, hb]
        obtain rfl : V = default := by rw [← hV.out, hv]
        rw [h1]
        obtain ⟨z0, z1, z2, z3, z4, z5⟩ := hR.v6
        obtain ⟨f0, f1, f2, f3, f4, f5⟩ := hR.fz
        have hRp := Lib.hid hRp
        clear hR hB e1 h1 hb hv
        go_wp2
        change bodyPost _ _ _ _ _ (put6 wr w.heap.size default)
        have hRq := hRp.out
        have hfq := hfin.out
        clear hRp hfin z0 z1 z2 z3 z4 z5 f0 f1 f2 f3 f4 f5
        generalize put6 wr w.heap.size default = w9 at *
        obtain ⟨y0, y1, y2, y3, y4, y5⟩ := hRq.v6
        refine bodyPost_ret (v := .tuple #[vv default, .bool false]) ?_ rfl ⟨rfl, hfq⟩
        clear hRq hfq
        simp only [default, Inhabited.default] at y0 y1 y2 y3 y4 y5
        simp [results, Try.results33, go_sem, y0, y1, y2, y3, y4, y5, default, Inhabited.default]
      · have e1 : snA l sn = (k : Nat) := h1
        have hb : atB l sn = true := by unfold atB; rw [e1]; exact decide_eq_true (by omega)
        have hv : atV l sn = nt l k := by unfold atV; rw [if_pos (by omega), e1]; rfl
        obtain ⟨pb, po, rfl, hpb, hc⟩ := (h.out.below hB.out).at hk
        have hk0 : (0 : Int) ≤ (k : Int) := by omega
        have hkI : (k : Int) < (l.length : Int) := by omega
        obtain rfl : Bq = true := by rw [← hBq.out, hb]
        rw [show nt l k = V by rw [← hV.out, hv]] at hc
        rw [h1]
        obtain ⟨c0, c1, c2, c3, c4, c5⟩ := hc
        have hRp := hR.put V
        have hfin := Lib.hid (put6_below hBw.out (Nat.le_refl _) V)
        obtain ⟨z0, z1, z2, z3, z4, z5⟩ := hR.v6
        obtain ⟨f0, f1, f2, f3, f4, f5⟩ := hR.fz
        have hRp := Lib.hid hRp
        clear hR hB e1 h1 hb hv
        go_wp2
        change bodyPost _ _ _ _ _ (put6 wr w.heap.size V)
        have hRq := hRp.out
        have hfq := hfin.out
        clear hRp hfin z0 z1 z2 z3 z4 z5 f0 f1 f2 f3 f4 f5
        generalize put6 wr w.heap.size V = w9 at *
        obtain ⟨y0, y1, y2, y3, y4, y5⟩ := hRq.v6
        refine bodyPost_ret (v := .tuple #[vv V, .bool true]) ?_ rfl ⟨rfl, hfq⟩
        clear hRq hfq
        simp [results, Try.results33, go_sem, y0, y1, y2, y3, y4, y5]
end Go.Proofs.Ytlojmojmijklmaa.chnE
