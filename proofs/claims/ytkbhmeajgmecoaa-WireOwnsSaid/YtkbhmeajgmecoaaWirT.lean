/- The contract of the document's own Same, of any messages; Same of any bytes. -/
import Derived.Test.YtkbhmeajgmecoaaWirS
namespace Go.Proofs.Ytkbhmeajgmecoaa.wirT
open Go.ChangeShapes Go.WideShapes Go.ChangeAt Go.RowKit
open numM numN rowA byt numA numB numC numD numE wirM wirA wirB wirD wirE wirF wirP wirQ wirR wirS

theorem nth_ext {l k : List Nat} (hn : l.length = k.length) (h : ∀ i, i < l.length → nth l i = nth k i) : l = k := by
  apply List.ext_getElem hn
  intro i h1 h2
  have := h i h1
  unfold nth at this
  rw [List.getD_eq_getElem?_getD, List.getD_eq_getElem?_getD, List.getElem?_eq_getElem h1, List.getElem?_eq_getElem h2] at this
  exact this

set_option maxRecDepth 100000 in
set_option maxHeartbeats 1000000 in
theorem same_vec (kind : Int) (id n ts : Nat) (lo hi : ByteArray) (vers vers' : List Vr) (vec vec' : List Nat) (cmd : Cm) (t u : At) (w : World) (h1 : HM w ⟨kind, id, n, ts, lo, hi, vers, vec, cmd⟩ t) (h2 : HM w ⟨kind, id, n, ts, lo, hi, vers', vec', cmd⟩ u) (hn : vec.length = vec'.length) :
    Calls Try.prog 21 #[.agg (cm ⟨kind, id, n, ts, lo, hi, vers, vec, cmd⟩ t), .agg (cm ⟨kind, id, n, ts, lo, hi, vers', vec', cmd⟩ u)] w (Tells w (decide ((⟨kind, id, n, ts, lo, hi, vers, vec, cmd⟩ : Ms) = ⟨kind, id, n, ts, lo, hi, vers', vec', cmd⟩))) := by
  have hW : Below w.heap.size w ((w.alloc (.cells (cm ⟨kind, id, n, ts, lo, hi, vers, vec, cmd⟩ t) 28)).alloc (.cells (cm ⟨kind, id, n, ts, lo, hi, vers', vec', cmd⟩ u) 28)) := trans0 (alloc_below _ _) (alloc_below _ _)
  have v1 := Lib.hid (h1.vers.below hW)
  have v2 := Lib.hid (h2.vers.below hW)
  have n1 := h1.vec.below hW
  have n2 := h2.vec.below hW
  have hn9 : vec.length ≤ 9223372036854775807 := n1.2.1
  have hq := nql_cmd cmd cmd
  rw [decide_eq_true rfl] at hq
  replace n1 : Hid (NL _ t.na vec.length vec) := Lib.hid n1
  replace n2 : Hid (NL _ u.na vec.length vec') := Lib.hid (by rw [hn]; exact n2)
  have hx := Lib.hid (fun h => nth_ext (l := vec) (k := vec') hn h)
  have hy : Hid (vec = vec' → ∀ i, nth vec i = nth vec' i) := Lib.hid (fun h i => by rw [h])
  obtain ⟨va, vc, na, nc⟩ := t
  obtain ⟨va', vc', na', nc'⟩ := u
  have hb1 := Box.new w (cm ⟨kind, id, n, ts, lo, hi, vers, vec, cmd⟩ ⟨va, vc, na, nc⟩) 28
  have hb1' := Lib.hid (hb1.alloc (.cells (cm ⟨kind, id, n, ts, lo, hi, vers', vec', cmd⟩ ⟨va', vc', na', nc'⟩) 28))
  have hb2 := Box.new (w.alloc (.cells (cm ⟨kind, id, n, ts, lo, hi, vers, vec, cmd⟩ ⟨va, vc, na, nc⟩) 28)) (cm ⟨kind, id, n, ts, lo, hi, vers', vec', cmd⟩ ⟨va', vc', na', nc'⟩) 28
  have hs1 : (w.alloc (.cells (cm ⟨kind, id, n, ts, lo, hi, vers, vec, cmd⟩ ⟨va, vc, na, nc⟩) 28)).heap.size = w.heap.size + 1 := by simp
  rw [hs1] at hb2
  replace hb2 := Lib.hid hb2
  replace hW := Lib.hid hW
  have hneq : (((vec.length : Nat) : Int) != ((vec'.length : Nat) : Int)) = false := by rw [bne_eq_false_iff_eq, hn]
  replace hn := Lib.hid hn
  obtain ⟨r, hr⟩ : ∃ r, decide ((⟨kind, id, n, ts, lo, hi, vers, vec, cmd⟩ : Ms) = ⟨kind, id, n, ts, lo, hi, vers', vec', cmd⟩) = r := ⟨_, rfl⟩
  rw [hr]
  have hr' : Hid (r = (decide (vers = vers') && decide (vec = vec'))) := Lib.hid (by rw [← hr, ← Bool.decide_and, decide_eq_decide]; simp)
  clear h1 h2 hb1 hs1 hr
  go_enter Try.func21, Try.ntmps21
  go_wp2
  generalize ((w.alloc (.cells (cm ⟨kind, id, n, ts, lo, hi, vers, vec, cmd⟩ ⟨va, vc, na, nc⟩) 28)).alloc (.cells (cm ⟨kind, id, n, ts, lo, hi, vers', vec', cmd⟩ ⟨va', vc', na', nc'⟩) 28)) = W at *
  obtain ⟨-, -, -, -, -, -, c6, c7, -⟩ := hb1'.out.msg
  obtain ⟨-, -, -, -, -, -, d6, d7, -⟩ := hb2.out.msg
  clear hq hneq
  go_loopw [5] (fun i wr => ∃ j q : Nat, j ≤ vec.length ∧ i = .int .i64 j ∧ wr = W.drewN q ∧ Hid (∀ i, i < j → nth vec i = nth vec' i)) (fun i _ => vec.length - (intOf i).toNat)
  case atStart => exact ⟨0, 0, by omega, rfl, rfl, Lib.hid (fun i hi => by omega)⟩
  case round =>
    obtain ⟨j, q, hj, rfl, rfl, hs⟩ := hrel
    by_cases hlt : j < vec.length
    · obtain ⟨p, o, rfl, hp, hc⟩ := n1.out.at hlt
      obtain ⟨p', o', rfl, hp', hc'⟩ := n2.out.at hlt
      have hlt' : j < vec'.length := by have := hn.out; omega
      by_cases he : nth vec j = nth vec' j
      · have hs' := Lib.hid (show ∀ i, i < j + 1 → nth vec i = nth vec' i from fun i hi => by
          by_cases hij : i = j
          · rw [hij]; exact he
          · exact hs.out i (by omega))
        have hne : ((nth vec j : Int) != (nth vec' j : Int)) = false := by rw [bne_eq_false_iff_eq]; omega
        clear he hs
        generalize nth vec j = x at *
        generalize nth vec' j = y at *
        go_wp2
        go_quiet (fail)
        rw [World.drewN_drewN]
        clear hne
        go_wp2
        go_roundw
        case rel => exact ⟨j + 1, _, by omega, by go_num, rfl, hs'⟩
        case measure => simp [intOf]; omega
      · have hne : ((nth vec j : Int) != (nth vec' j : Int)) = true := by rw [bne_iff_ne]; omega
        have hf : vec ≠ vec' := fun h => he (hy.out h j)
        have hf2 : r = false := by rw [hr'.out, decide_eq_false hf, Bool.and_false]
        subst hf2
        clear he hs hf
        generalize nth vec j = x at *
        generalize nth vec' j = y at *
        go_wp2
        go_quiet (fail)
        rw [World.drewN_drewN]
        clear hne
        go_wp2
        go_ret
        exact ⟨rfl, wirS.below_drewN _ hW.out⟩
    · obtain rfl : j = vec.length := by omega
      have hv := hx.out hs.out
      subst hv
      clear hs
      go_wp2_with (fail)
      refine (samevers va vc vers va' vc' vers' (W.drewN q) v1.out v2.out).mono ?_
      rintro e w2 ⟨rfl, hB2⟩
      have hB3 := Lib.hid (trans0 (wirS.below_drewN q hW.out) hB2)
      have hd : decide (vers = vers') = r := by rw [hr'.out]; simp
      rw [hd]
      clear hB2 hd
      go_wp2
      go_ret
      exact ⟨rfl, hB3.out⟩

set_option maxHeartbeats 2000000 in
/-- a message and another one of which a field ahead of the lists is another -/
theorem same_ne (a b : Ms) (t u : At) (w : World) (h : (a.kind ≠ b.kind) ∨ (a.id ≠ b.id) ∨ (a.n ≠ b.n) ∨ (a.ts ≠ b.ts) ∨ (a.lo ≠ b.lo) ∨ (a.hi ≠ b.hi) ∨ (a.cmd ≠ b.cmd) ∨ a.vec.length ≠ b.vec.length) :
    Calls Try.prog 21 #[.agg (cm a t), .agg (cm b u)] w (Tells w false) := by
  have hW : Below w.heap.size w ((w.alloc (.cells (cm a t) 28)).alloc (.cells (cm b u) 28)) := trans0 (alloc_below _ _) (alloc_below _ _)
  obtain ⟨kind, id, n, ts, lo, hi, vers, vec, cmd⟩ := a
  obtain ⟨kind', id', n', ts', lo', hi', vers', vec', cmd'⟩ := b
  simp only at h
  have hb1 := Box.new w (cm ⟨kind, id, n, ts, lo, hi, vers, vec, cmd⟩ t) 28
  have hb1' := Lib.hid (hb1.alloc (.cells (cm ⟨kind', id', n', ts', lo', hi', vers', vec', cmd'⟩ u) 28))
  have hb2 := Box.new (w.alloc (.cells (cm ⟨kind, id, n, ts, lo, hi, vers, vec, cmd⟩ t) 28)) (cm ⟨kind', id', n', ts', lo', hi', vers', vec', cmd'⟩ u) 28
  have hs1 : (w.alloc (.cells (cm ⟨kind, id, n, ts, lo, hi, vers, vec, cmd⟩ t) 28)).heap.size = w.heap.size + 1 := by simp
  rw [hs1] at hb2
  replace hb2 := Lib.hid hb2
  replace hW := Lib.hid hW
  clear hb1 hs1
  obtain ⟨va, vc, na, nc⟩ := t
  obtain ⟨va', vc', na', nc'⟩ := u
  by_cases h0 : kind ≠ kind'
  · have hne : (kind != kind') = true := by rw [bne_iff_ne]; exact h0
    clear h h0
    go_enter Try.func21, Try.ntmps21
    go_wp2
    all_goals
      go_ret
      exact ⟨rfl, trans0 (alloc_below _ _) (alloc_below _ _)⟩
  replace h0 := Decidable.not_not.1 h0
  subst h0
  by_cases h1 : id ≠ id'
  · have hne : ((id : Int) != (id' : Int)) = true := by rw [bne_iff_ne]; omega
    clear h h1
    go_enter Try.func21, Try.ntmps21
    go_wp2
    all_goals
      go_ret
      exact ⟨rfl, trans0 (alloc_below _ _) (alloc_below _ _)⟩
  replace h1 := Decidable.not_not.1 h1
  subst h1
  by_cases h2 : n ≠ n'
  · have hne : ((n : Int) != (n' : Int)) = true := by rw [bne_iff_ne]; omega
    clear h h2
    go_enter Try.func21, Try.ntmps21
    go_wp2
    all_goals
      go_ret
      exact ⟨rfl, trans0 (alloc_below _ _) (alloc_below _ _)⟩
  replace h2 := Decidable.not_not.1 h2
  subst h2
  by_cases h3 : ts ≠ ts'
  · have hne : ((ts : Int) != (ts' : Int)) = true := by rw [bne_iff_ne]; omega
    clear h h3
    go_enter Try.func21, Try.ntmps21
    go_wp2
    all_goals
      go_ret
      exact ⟨rfl, trans0 (alloc_below _ _) (alloc_below _ _)⟩
  replace h3 := Decidable.not_not.1 h3
  subst h3
  by_cases h4 : lo ≠ lo'
  · have hne : ¬ lo.toList = lo'.toList := fun h => h4 (tl_inj.mp h)
    clear h h4
    go_enter Try.func21, Try.ntmps21
    go_wp2
    all_goals
      go_ret
      exact ⟨rfl, trans0 (alloc_below _ _) (alloc_below _ _)⟩
  replace h4 := Decidable.not_not.1 h4
  subst h4
  by_cases h5 : hi ≠ hi'
  · have hne : ¬ hi.toList = hi'.toList := fun h => h5 (tl_inj.mp h)
    clear h h5
    go_enter Try.func21, Try.ntmps21
    go_wp2
    all_goals
      go_ret
      exact ⟨rfl, trans0 (alloc_below _ _) (alloc_below _ _)⟩
  replace h5 := Decidable.not_not.1 h5
  subst h5
  by_cases h6 : cmd ≠ cmd'
  · have hq := fun w => nql_cmd cmd cmd' w
    rw [decide_eq_false h6] at hq
    clear h h6
    go_enter Try.func21, Try.ntmps21
    go_wp2
    all_goals
      go_ret
      exact ⟨rfl, trans0 (alloc_below _ _) (alloc_below _ _)⟩
  replace h6 := Decidable.not_not.1 h6
  subst h6
  by_cases h7 : vec.length ≠ vec'.length
  · have hq := fun w => nql_cmd cmd cmd w
    rw [decide_eq_true rfl] at hq
    have hne : ((vec.length : Int) != (vec'.length : Int)) = true := by rw [bne_iff_ne]; omega
    clear h h7
    go_enter Try.func21, Try.ntmps21
    go_wp2
    all_goals
      go_ret
      exact ⟨rfl, trans0 (alloc_below _ _) (alloc_below _ _)⟩
  · exfalso
    simp at h
    exact h7 h

/-- Same, of any two messages -/
theorem same_any (a b : Ms) (t u : At) (w : World) (h1 : HM w a t) (h2 : HM w b u) :
    Calls Try.prog 21 #[.agg (cm a t), .agg (cm b u)] w (Tells w (decide (a = b))) := by
  by_cases h : (a.kind ≠ b.kind) ∨ (a.id ≠ b.id) ∨ (a.n ≠ b.n) ∨ (a.ts ≠ b.ts) ∨ (a.lo ≠ b.lo) ∨ (a.hi ≠ b.hi) ∨ (a.cmd ≠ b.cmd) ∨ a.vec.length ≠ b.vec.length
  · have hf : ¬ a = b := by rintro rfl; simp at h
    rw [decide_eq_false hf]
    exact same_ne a b t u w h
  · simp only [not_or, Decidable.not_not] at h
    obtain ⟨kind, id, n, ts, lo, hi, vers, vec, cmd⟩ := a
    obtain ⟨kind', id', n', ts', lo', hi', vers', vec', cmd'⟩ := b
    obtain ⟨h3, h4, h5, h6, h7, h8, h9, hA⟩ := h
    simp only at h3 h4 h5 h6 h7 h8 h9 hA
    subst h3 h4 h5 h6 h7 h8 h9
    exact same_vec _ _ _ _ _ _ _ _ _ _ _ t u w h1 h2 hA
end Go.Proofs.Ytkbhmeajgmecoaa.wirT
