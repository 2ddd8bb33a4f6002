/- The contracts of SameVers, great, Seen and At, in the program and in the document's own answer; awake. -/
import Derived.Test.YtafocefbpkcoaaaOrdR
set_option linter.unusedVariables false
namespace Go.Proofs.Ytafocefbpkcoaaa.chnE
open Go.ChangeShapes Go.WideShapes Go.ChangeAt Go.RowKit Go.Deep
open opV chnM gen chnA chnR

/-! ### A box of a version, which may be written -/
abbrev R6 (b : Nat) (v : Ver) (w : World) : Prop := w.rowIs b 64 6 (fun i => (cL v).getD i undef)
abbrev put6 (w : World) (b : Nat) (v : Ver) : World := (((((w.setCell ⟨b, 0, none⟩ (.string v.key)).setCell ⟨b, 1, none⟩ (.string v.val)).setCell ⟨b, 2, none⟩ (.bool v.gone)).setCell ⟨b, 3, none⟩ (.int .u64 v.ts)).setCell ⟨b, 4, none⟩ (.int .i64 v.dc)).setCell ⟨b, 5, none⟩ (.int .i64 v.tx)
section
variable {b B : Nat} {v u : Ver} {w w0 w1 : World}
theorem R6.v6 (h : R6 b v w) : V6 b 0 v w := ⟨h.cell (i := 0) (by omega), h.cell (i := 1) (by omega), h.cell (i := 2) (by omega), h.cell (i := 3) (by omega), h.cell (i := 4) (by omega), h.cell (i := 5) (by omega)⟩
theorem R6.fz (h : R6 b v w) : w.frozen? ⟨b, 0, none⟩ = false ∧ w.frozen? ⟨b, 1, none⟩ = false ∧ w.frozen? ⟨b, 2, none⟩ = false ∧ w.frozen? ⟨b, 3, none⟩ = false ∧ w.frozen? ⟨b, 4, none⟩ = false ∧ w.frozen? ⟨b, 5, none⟩ = false :=
  ⟨h.frozen 0, h.frozen 1, h.frozen 2, h.frozen 3, h.frozen 4, h.frozen 5⟩
theorem R6.below (h : R6 b v w) (hB : Below w.heap.size w w1) : R6 b v w1 := h.of_block (hB.block b h.lt)
theorem six {i : Nat} (hi : i < 6) : i = 0 ∨ i = 1 ∨ i = 2 ∨ i = 3 ∨ i = 4 ∨ i = 5 := by omega
theorem R6.new (w : World) (v : Ver) : R6 w.heap.size v (w.alloc (.cells #[.string v.key, .string v.val, .bool v.gone, .int .u64 v.ts, .int .i64 v.dc, .int .i64 v.tx] 64)) := by
  have h := World.rowIs_alloc w #[.string v.key, .string v.val, .bool v.gone, .int .u64 v.ts, .int .i64 v.dc, .int .i64 v.tx] 64 (fun i => (cL v).getD i undef) (fun i hi => ?_)
  · exact h
  · rcases six (i := i) (by simpa using hi) with rfl | rfl | rfl | rfl | rfl | rfl <;> rfl
theorem R6.put (h : R6 b u w) (v : Ver) : R6 b v (put6 w b v) :=
  ((((((h.set 0 _).set 1 _).set 2 _).set 3 _).set 4 _).set 5 _).congr fun i hi => by rcases six hi with rfl | rfl | rfl | rfl | rfl | rfl <;> rfl
theorem put6_below (h : Below B w0 w) (hb : B ≤ b) (v : Ver) : Below B w0 (put6 w b v) :=
  (((((h.setCell (p := ⟨b, 0, none⟩) hb _).setCell (p := ⟨b, 1, none⟩) hb _).setCell (p := ⟨b, 2, none⟩) hb _).setCell (p := ⟨b, 3, none⟩) hb _).setCell (p := ⟨b, 4, none⟩) hb _).setCell (p := ⟨b, 5, none⟩) hb _
end
set_option maxRecDepth 100000 in
set_option maxHeartbeats 1000000 in
theorem samevers (a : Option Addr) (c : Nat) (l : List Ver) (b : Option Addr) (d : Nat) (k : List Ver) (w : World) (h1 : HV w a c l) (h2 : HV w b d k) :
    Calls Try.prog 20 #[.slice a l.length c, .slice b k.length d] w fun e w' => e = .returned (.bool (decide (l = k))) ∧ Below w.heap.size w w' := by
  by_cases hn : l.length = k.length
  · have hn9 : l.length ≤ 9223372036854775807 := Nat.le_trans h1.le h1.top
    have hx := Lib.hid (fun h => nt_ext (l := l) (k := k) hn h)
    have hy : Hid (l = k → ∀ i, nt l i = nt k i) := Lib.hid (fun h i => by rw [h])
    have hat := Lib.hid (fun (j : Nat) (wr : World) (hj : j < l.length) (hB : Below w.heap.size w wr) => (h2.below hB).at (i := j) (by omega))
    replace h1 := Lib.hid h1
    clear h2
    obtain ⟨r, hr⟩ : ∃ r, decide (l = k) = r := ⟨_, rfl⟩
    rw [hr, ← hn]
    replace hr := Lib.hid hr
    replace hn := Lib.hid hn
    go_enter Try.func20, Try.ntmps20
    go_wp2
    go_loopw [5] (fun i wr => ∃ j : Nat, j ≤ l.length ∧ i = .int .i64 j ∧ Hid (∀ i, i < j → nt l i = nt k i) ∧ Hid (Below w.heap.size w wr)) (fun i _ => l.length - (intOf i).toNat)
    case atStart => exact ⟨0, by omega, rfl, Lib.hid (fun i hi => by omega), Lib.hid (Below.refl _ _)⟩
    case round =>
      obtain ⟨j, hj, rfl, hs, hB⟩ := hrel
      by_cases hlt : j < l.length
      · obtain ⟨p, o, rfl, hp, hc⟩ := (h1.out.below hB.out).at hlt
        obtain ⟨p', o', rfl, hp', hc'⟩ := hat.out j wr hlt hB.out
        obtain ⟨c0, c1, c2, c3, c4, c5⟩ := hc
        obtain ⟨d0, d1, d2, d3, d4, d5⟩ := hc'
        have hq := neq_ver (nt l j) (nt k j)
        by_cases he : nt l j = nt k j
        · have hs' := Lib.hid (show ∀ i, i < j + 1 → nt l i = nt k i from fun i hi => by
            by_cases hij : i = j
            · rw [hij]; exact he
            · exact hs.out i (by omega))
          rw [decide_eq_true he] at hq
          clear he hs
          generalize nt l j = x at *
          generalize nt k j = y at *
          go_wp2
          go_quiet (fail)
          have hB' := Lib.hid (bdrN nq hB.out)
          clear hB hq
          go_wp2
          go_roundw
          case rel => exact ⟨j + 1, by omega, by go_num, hs', hB'⟩
          case measure => simp [intOf]; omega
        · have hf : r = false := by rw [← hr.out]; exact decide_eq_false (fun h => he (hy.out h j))
          subst hf
          rw [decide_eq_false he] at hq
          clear he hs
          generalize nt l j = x at *
          generalize nt k j = y at *
          go_wp2
          go_quiet (fail)
          have hB' := Lib.hid (bdrN nq hB.out)
          clear hB hq
          go_wp2
          go_ret
          exact ⟨rfl, hB'.out⟩
      · obtain rfl : j = l.length := by omega
        have ht : r = true := by rw [← hr.out]; exact decide_eq_true (hx.out hs.out)
        subst ht
        clear hs
        go_wp2
        go_ret
        exact ⟨rfl, hB.out⟩
  · have hne : ((l.length : Int) != (k.length : Int)) = true := by rw [bne_iff_ne]; omega
    rw [decide_eq_false (fun h => hn (by rw [h]))]
    clear hn h1 h2
    go_enter Try.func20, Try.ntmps20
    go_wp2
    go_ret
    exact ⟨rfl, Below.refl _ _⟩
end Go.Proofs.Ytafocefbpkcoaaa.chnE
