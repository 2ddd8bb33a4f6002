/- The contract of same of two rows of commits. -/
import Derived.Test.YtipnmgihbpbonaaOrdE2
set_option linter.unusedVariables false
set_option linter.unusedSimpArgs false
set_option maxRecDepth 100000
namespace Go.Proofs.Ytipnmgihbpbonaa.ordE3
open Go.ChangeShapes Go.WideShapes Go.ChangeAt Go.RowKit Go.Deep
open opV chnM gen chnA chnR chnE ordA ordB ordC ordM ordL ordD ordE2

/-- a row of commits that may be read, their versions too -/
structure RR2 (w : World) (A : Option Addr) (c : Nat) (l : List MR) : Prop where
  row : HR w A c l
  vs : ∀ m ∈ l, HV w m.A m.c m.vs
theorem RR2.below {w w1 : World} {A : Option Addr} {c : Nat} {l : List MR} (h : RR2 w A c l) (hB : Below w.heap.size w w1) : RR2 w1 A c l := ⟨h.row.below hB, fun m hm => (h.vs m hm).below hB⟩
set_option maxHeartbeats 2000000 in
theorem same_any (a : Option Addr) (c : Nat) (l : List MR) (b : Option Addr) (d : Nat) (k : List MR) (w : World) (h1 : RR2 w a c l) (h2 : RR2 w b d k) :
    Calls Try.prog 18 #[.slice a l.length c, .slice b k.length d] w fun e w' => e = .returned (.bool (decide (l.map MR.r = k.map MR.r))) ∧ Below w.heap.size w w' := by
  by_cases hn : l.length = k.length
  · have hn9 : l.length ≤ 9223372036854775807 := Nat.le_trans h1.row.le h1.row.top
    have hx : Hid ((∀ i, i < l.length → sameR (nt l i) (nt k i) = true) → l.map MR.r = k.map MR.r) := Lib.hid (fun h => nt_ext (by simp [hn]) (fun i hi => by
      rw [List.length_map] at hi
      rw [nt_map hi, nt_map (by omega)]
      exact of_decide_eq_true (h i hi)))
    have hy : Hid (l.map MR.r = k.map MR.r → ∀ i, i < l.length → sameR (nt l i) (nt k i) = true) := Lib.hid (fun h i hi => decide_eq_true (by rw [← nt_map hi, h, nt_map (by omega)]))
    have hat := Lib.hid (fun (j : Nat) (wr : World) (hj : j < l.length) (hB : Below w.heap.size w wr) => (h2.row.below hB).at (i := j) (by omega))
    have hsa := Lib.hid (fun (j : Nat) (wr : World) (hj : j < l.length) (hB : Below w.heap.size w wr) => rsame_any (nt l j) (nt k j) wr ((h1.vs _ (nt_mem hj)).below hB) ((h2.vs _ (nt_mem (by omega))).below hB))
    replace h1 := Lib.hid h1
    clear h2
    obtain ⟨r, hr⟩ : ∃ r, decide (l.map MR.r = k.map MR.r) = r := ⟨_, rfl⟩
    rw [hr, ← hn]
    replace hr := Lib.hid hr
    replace hn := Lib.hid hn
    go_enter Try.func18, Try.ntmps18
    go_wp2
    go_loopw [13] (fun i wr => ∃ j : Nat, j ≤ l.length ∧ i = .int .i64 j ∧ Hid (∀ i, i < j → sameR (nt l i) (nt k i) = true) ∧ Hid (Below w.heap.size w wr)) (fun i _ => l.length - (intOf i).toNat)
    case atStart => exact ⟨0, by omega, rfl, Lib.hid (fun i hi => by omega), Lib.hid (Below.refl _ _)⟩
    case round =>
      obtain ⟨j, hj, rfl, hs, hB⟩ := hrel
      by_cases hlt : j < l.length
      · obtain ⟨p, o, rfl, hp, hc⟩ := (h1.out.row.below hB.out).at hlt
        obtain ⟨p', o', rfl, hp', hc'⟩ := hat.out j wr hlt hB.out
        have hjI : (j : Int) < (l.length : Int) := by omega
        have hS : Hid (D2 p (o + j * 4) p' (o' + j * 4) (nt l j) (nt k j) wr.drew ∧ Below wr.heap.size wr wr.drew) := Lib.hid ⟨⟨hc, hc'⟩, below_drew _⟩
        have hcall := Lib.hid (fun w' (hB2 : Below wr.heap.size wr w') => hsa.out j w' hlt (trans0 hB.out hB2))
        cases he : sameR (nt l j) (nt k j) with
        | true =>
          have hs' := Lib.hid (show ∀ i, i < j + 1 → sameR (nt l i) (nt k i) = true from fun i hi => by
            by_cases hij : i = j
            · rw [hij]; exact he
            · exact hs.out i (by omega))
          rw [he] at hcall
          clear he hs
          generalize nt l j = x at *
          generalize nt k j = y at *
          obtain ⟨c0, c1, c2, c3⟩ := hc
          obtain ⟨d0, d1, d2, d3⟩ := hc'
          go_wp2
          go_region_held3 (fun w' => D2 p (o + j * 4) p' (o' + j * 4) x y w' ∧ Below wr.heap.size wr w')
            (first | with_reducible exact hS.out | with_reducible assumption | with_reducible exact ⟨D2.below (And.left (by assumption)) (by assumption), trans0 (And.right (by assumption)) (by assumption)⟩ | fail)
            (first
              | (go_at_call 23; ((with_reducible refine (hcall.out _ hS.out.2).mono ?_); rintro e w' ⟨rfl, hB9⟩)) | fail)
          all_goals
            rename_i hHeld
            have hB' := Lib.hid (trans0 hB.out hHeld.2)
            clear hB hHeld hS hcall
            go_wp2
            go_roundw
            case rel => exact ⟨j + 1, by omega, by go_num, hs', hB'⟩
            case measure => simp [intOf]; omega
        | false =>
          have hf : r = false := by rw [← hr.out]; exact decide_eq_false (fun h => by have := hy.out h j hlt; rw [he] at this; cases this)
          subst hf
          rw [he] at hcall
          clear he hs
          generalize nt l j = x at *
          generalize nt k j = y at *
          obtain ⟨c0, c1, c2, c3⟩ := hc
          obtain ⟨d0, d1, d2, d3⟩ := hc'
          go_wp2
          go_region_held3 (fun w' => D2 p (o + j * 4) p' (o' + j * 4) x y w' ∧ Below wr.heap.size wr w')
            (first | with_reducible exact hS.out | with_reducible assumption | with_reducible exact ⟨D2.below (And.left (by assumption)) (by assumption), trans0 (And.right (by assumption)) (by assumption)⟩ | fail)
            (first
              | (go_at_call 23; ((with_reducible refine (hcall.out _ hS.out.2).mono ?_); rintro e w' ⟨rfl, hB9⟩)) | fail)
          all_goals
            rename_i hHeld
            have hB' := Lib.hid (trans0 hB.out hHeld.2)
            clear hB hHeld hS hcall
            go_wp2
            go_ret
            exact ⟨rfl, hB'.out⟩
      · obtain rfl : j = l.length := by omega
        have ht : r = true := by rw [← hr.out]; exact decide_eq_true (hx.out hs.out)
        subst ht
        clear hs
        go_wp2
        go_ret
        exact ⟨rfl, hB.out⟩
  · have hne : ((l.length : Int) != (k.length : Int)) = true := by rw [bne_iff_ne]; omega
    rw [decide_eq_false (fun h => hn (by have := congrArg List.length h; simpa using this))]
    clear hn h1 h2
    go_enter Try.func18, Try.ntmps18
    go_wp2
    go_ret
    exact ⟨rfl, Below.refl _ _⟩
end Go.Proofs.Ytipnmgihbpbonaa.ordE3
