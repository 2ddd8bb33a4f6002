/- The contracts of New, Floor, Get, the document's Check, copies of texts, and what a nil store answers. -/
import Derived.Test.YtlojmojmijklmaaStoB
set_option linter.unusedVariables false
set_option maxRecDepth 100000
namespace Go.Proofs.Ytlojmojmijklmaa.stoC
open Go.ChangeShapes Go.WideShapes Go.ChangeAt Go.RowKit Go.Deep
open opV chnM gen chnA chnB chnR chnE stoM stoA stoL stoB
attribute [local go_sem high] bin_slt bin_sle bin_sge bin_sgt bin_seq bin_sne

/-! ### copies of texts -/
abbrev T6 (w0 : World) (b : Nat) (v : Ver) (W : World) : Prop := V6 b 0 v W ∧ (W.frozen? ⟨b, 0, none⟩ = false ∧ W.frozen? ⟨b, 1, none⟩ = false) ∧ R6 b v W ∧ Below w0.heap.size w0 W
theorem T6.of {w0 W : World} {b : Nat} {v : Ver} (h : R6 b v W) (hB : Below w0.heap.size w0 W) : T6 w0 b v W := ⟨h.v6, ⟨h.fz.1, h.fz.2.1⟩, h, hB⟩
theorem T6.set0 {w0 W : World} {b : Nat} {v : Ver} (h : T6 w0 b v W) (hb : w0.heap.size ≤ b) : T6 w0 b v (W.setCell ⟨b, 0, none⟩ (.string v.key)) :=
  T6.of ((h.2.2.1.set 0 _).congr fun i hi => by by_cases e : i = 0 <;> simp [e, cL]) (h.2.2.2.setCell (p := ⟨b, 0, none⟩) hb _)
theorem T6.set1 {w0 W : World} {b : Nat} {v : Ver} (h : T6 w0 b v W) (hb : w0.heap.size ≤ b) : T6 w0 b v (W.setCell ⟨b, 1, none⟩ (.string v.val)) :=
  T6.of ((h.2.2.1.set 1 _).congr fun i hi => by by_cases e : i = 1 <;> simp [e, cL]) (h.2.2.2.setCell (p := ⟨b, 1, none⟩) hb _)
abbrev T7 (w0 : World) (b : Nat) (v : Ver) (W : World) : Prop := T6 w0 b v W ∧ R6 (b + 1) default W
theorem T7.set0 {w0 W : World} {v : Ver} (h : T7 w0 w0.heap.size v W) : T7 w0 w0.heap.size v (W.setCell ⟨w0.heap.size, 0, none⟩ (.string v.key)) := ⟨h.1.set0 (Nat.le_refl _), h.2.setOther (by simp) _⟩
theorem T7.set1 {w0 W : World} {v : Ver} (h : T7 w0 w0.heap.size v W) : T7 w0 w0.heap.size v (W.setCell ⟨w0.heap.size, 1, none⟩ (.string v.val)) := ⟨h.1.set1 (Nat.le_refl _), h.2.setOther (by simp) _⟩
theorem T6.go {w0 W W1 : World} {b : Nat} {v : Ver} (h : T6 w0 b v W) (hB : Below W.heap.size W W1) : T6 w0 b v W1 := T6.of (h.2.2.1.below hB) (trans0 h.2.2.2 hB)
theorem T7.go {w0 W W1 : World} {b : Nat} {v : Ver} (h : T7 w0 b v W) (hB : Below W.heap.size W W1) : T7 w0 b v W1 := ⟨h.1.go hB, h.2.below hB⟩
set_option maxHeartbeats 2000000 in
theorem texts_any (v : Ver) (w : World) (h1 : v.key.size ≤ 281474976710656) (h2 : v.val.size ≤ 281474976710656) : Calls Try.prog 31 #[.agg #[.string v.key, .string v.val, .bool v.gone, .int .u64 v.ts, .int .i64 v.dc, .int .i64 v.tx]] w fun e w' => e = .returned (vv v) ∧ Below w.heap.size w w' := by
  obtain ⟨W, hW⟩ : ∃ W, w.alloc (.cells #[.string v.key, .string v.val, .bool v.gone, .int .u64 v.ts, .int .i64 v.dc, .int .i64 v.tx] 35) = W := ⟨_, rfl⟩
  have hT : T6 w w.heap.size v W := T6.of (by rw [← hW]; exact R6.new w v) (by rw [← hW]; exact al0 _ _)
  have hsz : W.heap.size = w.heap.size + 1 := by rw [← hW]; simp
  obtain ⟨W2, hW2⟩ : ∃ W2, W.alloc (.cells #[.string { data := #[] }, .string { data := #[] }, .bool false, .int .u64 0, .int .i64 0, .int .i64 0] 35) = W2 := ⟨_, rfl⟩
  have hT2 : T6 w w.heap.size v W2 := hT.go (by rw [← hW2]; exact al0 _ _)
  have hQ2 : R6 W.heap.size default W2 := by rw [← hW2]; exact R6.new W default
  have hS : Hid (T7 w w.heap.size v W2.drew) := Lib.hid (T7.go ⟨hT2, by rw [hsz] at hQ2; exact hQ2⟩ (below_drew W2))
  replace hW := Lib.hid hW
  replace hW2 := Lib.hid hW2
  clear hT hT2 hQ2
  go_enter Try.func31, Try.ntmps31
  go_wp2
  rw [hW.out]
  rw [hW2.out]
  go_region_held3 (T7 w w.heap.size v)
    (first | with_reducible exact hS.out | with_reducible assumption | with_reducible exact T7.go (by assumption) (by assumption) | with_reducible exact T7.set0 (by assumption) | with_reducible exact T7.set1 (by assumption) | fail)
    (first
      | (go_at_call 50; ((with_reducible refine (clone_any _ _ h1).mono ?_); rintro e w' ⟨rfl, hB9⟩))
      | (go_at_call 50; ((with_reducible refine (clone_any _ _ h2).mono ?_); rintro e w' ⟨rfl, hB9⟩)) | fail)
  all_goals
    rename_i hHeld
    clear hB9
    generalize (World.setCell w' ⟨w.heap.size, 0, none⟩ (.string v.key)).setCell ⟨w.heap.size, 1, none⟩ (.string v.val) = X at *
    obtain ⟨⟨⟨c0, c1, c2, c3, c4, c5⟩, _, _, hBl⟩, hRd⟩ := hHeld
    obtain ⟨z0, z1, z2, z3, z4, z5⟩ := hRd.v6
    obtain ⟨f0, f1, f2, f3, f4, f5⟩ := hRd.fz
    have hRp := Lib.hid (hRd.put v)
    have hfin := Lib.hid (put6_below hBl (Nat.le_succ _) v)
    clear hRd hBl
    go_wp2
    change bodyPost _ _ _ _ _ (put6 X (w.heap.size + 1) v)
    have hRq := hRp.out
    have hfq := hfin.out
    clear hRp hfin z0 z1 z2 z3 z4 z5 f0 f1 f2 f3 f4 f5
    generalize put6 X (w.heap.size + 1) v = w9 at *
    obtain ⟨y0, y1, y2, y3, y4, y5⟩ := hRq.v6
    refine bodyPost_ret (v := vv v) ?_ rfl ⟨rfl, hfq⟩
    clear hRq hfq
    simp [results, Try.results31, go_sem, y0, y1, y2, y3, y4, y5]
/-! ### the document's Check -/
set_option maxHeartbeats 1000000 in
theorem rcheck_any (v : Ver) (w : World) : Calls Try.prog 14 #[.agg #[.string v.key, .string v.val, .bool v.gone, .int .u64 v.ts, .int .i64 v.dc, .int .i64 v.tx]] w fun e w' => e = .returned (.int .i64 (chk v : Nat)) ∧ Below w.heap.size w w' := by
  by_cases h1 : 16 < v.key.size
  · have e : chk v = 6 := by unfold chk; rw [if_pos (.inl h1)]
    rw [e]
    have h1' : (16 : Int) < (v.key.size : Int) := by omega
    go_enter Try.func14, Try.ntmps14
    go_wp2
    go_ret
    exact ⟨rfl, al0 _ _⟩
  by_cases h2 : 64 < v.val.size
  · have e : chk v = 6 := by unfold chk; rw [if_pos (.inr h2)]
    rw [e]
    have h1' : ¬ (16 : Int) < (v.key.size : Int) := by omega
    have h2' : (64 : Int) < (v.val.size : Int) := by omega
    go_enter Try.func14, Try.ntmps14
    go_wp2
    go_ret
    exact ⟨rfl, al0 _ _⟩
  have e0 : chk v = if seq v.key emp = true ∨ (v.gone = true ∧ seq v.val emp = false) ∨ ¬ (0 ≤ v.dc ∧ v.dc < 4) ∨ ¬ (0 ≤ v.tx ∧ v.tx ≤ 1073741824) then 1 else 0 := by unfold chk; rw [if_neg (by omega)]
  have h1' : ¬ (16 : Int) < (v.key.size : Int) := by omega
  have h2' : ¬ (64 : Int) < (v.val.size : Int) := by omega
  cases h3 : seq v.key emp
  case true =>
    have e : chk v = 1 := by rw [e0, if_pos (.inl h3)]
    rw [e]
    clear e e0 h1 h2
    go_enter Try.func14, Try.ntmps14
    go_wp2
    go_ret
    exact ⟨rfl, al0 _ _⟩
  case false =>
    cases h4 : v.gone <;> cases h5 : seq v.val emp
    case true.false =>
      have e : chk v = 1 := by rw [e0, if_pos (.inr (.inl ⟨h4, h5⟩))]
      rw [e]
      clear e e0 h1 h2
      go_enter Try.func14, Try.ntmps14
      go_wp2
      go_ret
      exact ⟨rfl, al0 _ _⟩
    all_goals
      by_cases h6 : v.dc < 0
      case pos =>
        have e : chk v = 1 := by rw [e0, if_pos (.inr (.inr (.inl (by omega))))]
        rw [e]
        clear e e0 h1 h2
        go_enter Try.func14, Try.ntmps14
        go_wp2
        go_ret
        exact ⟨rfl, al0 _ _⟩
      case neg =>
        by_cases h7 : 3 < v.dc
        case pos =>
          have e : chk v = 1 := by rw [e0, if_pos (.inr (.inr (.inl (by omega))))]
          rw [e]
          clear e e0 h1 h2
          go_enter Try.func14, Try.ntmps14
          go_wp2
          go_ret
          exact ⟨rfl, al0 _ _⟩
        case neg =>
          by_cases h8 : v.tx < 0
          case pos =>
            have e : chk v = 1 := by rw [e0, if_pos (.inr (.inr (.inr (by omega))))]
            rw [e]
            clear e e0 h1 h2
            go_enter Try.func14, Try.ntmps14
            go_wp2
            go_ret
            exact ⟨rfl, al0 _ _⟩
          case neg =>
            by_cases h9 : 1073741824 < v.tx
            case pos =>
              have e : chk v = 1 := by rw [e0, if_pos (.inr (.inr (.inr (by omega))))]
              rw [e]
              clear e e0 h1 h2
              go_enter Try.func14, Try.ntmps14
              go_wp2
              go_ret
              exact ⟨rfl, al0 _ _⟩
            case neg =>
              have e : chk v = 0 := by
                rw [e0, if_neg]
                rintro (h | h | h | h)
                · rw [h3] at h; cases h
                · rw [h4, h5] at h; cases h.1 <;> cases h.2
                · omega
                · omega
              rw [e]
              clear e e0 h1 h2
              go_enter Try.func14, Try.ntmps14
              go_wp2
              go_ret
              exact ⟨rfl, al0 _ _⟩
/-! ### New -/
theorem new_row (w : World) (m : Nat) : (w.alloc (.cells #[.map (some m), .int .u64 0] 65)).rowIs w.heap.size 65 2 (cS m 0) := by
  have h := World.rowIs_alloc w #[.map (some m), .int .u64 0] 65 (cS m 0) (fun i hi => ?_)
  · exact h
  · have : i = 0 ∨ i = 1 := by simp at hi; omega
    rcases this with rfl | rfl <;> rfl
def Newd (w : World) (e : Ending) (w' : World) : Prop :=
  ∃ S b, e = .returned (.pointer (some ⟨S, 0, none⟩)) ∧ Below w.heap.size w w' ∧ w.heap.size ≤ S ∧ S < w'.heap.size ∧ w.heap.size ≤ b ∧ b < w'.heap.size ∧ ∀ B : Nat → Prop, B S → B b → (∀ k, B k → k < w'.heap.size) → SAt B w' S b St.new
theorem new_any (w : World) : Calls Try.prog 9 #[] w (Newd w) := by
  have hmm := @run_makeMap Try.prog
  have hB := Lib.hid (trans0 (al0 w (.map #[] 0)) (al0 (w.alloc (.map #[] 0)) (.cells #[.map (some w.heap.size), .int .u64 0] 65)))
  have hr := Lib.hid (new_row (w.alloc (.map #[] 0)) w.heap.size)
  have hm := Lib.hid ((World.ownsMap_made w Try.prog 9 hR).alloc (.cells #[.map (some w.heap.size), .int .u64 0] 65))
  go_enter Try.func9, Try.ntmps9
  go_wp2
  go_ret
  have hsz : (w.alloc (.map #[] 0)).heap.size = w.heap.size + 1 := by simp
  rw [hsz] at hr
  refine ⟨_, w.heap.size, rfl, hB.out, by omega, by simp, Nat.le_refl _, by simp; omega, fun B h1 h2 h3 => ⟨.map [], ?_⟩⟩
  exact { row := hr.out, map := hm.out, ear := ⟨fun k => ⟨fun e => (by cases e), fun ⟨c, hc, _⟩ => (by cases hc)⟩, fun c hc => (by cases hc)⟩, inv := Inv.new, ln := Nat.zero_le _, bS := h1, bb := h2, bd := h3 }
/-! ### Floor -/
theorem SIs.cells {B : Nat → Prop} {w : World} {S b : Nat} {s : St} {D : DataW Value} (h : SIs B w S b s D) : w.cell? ⟨S, 0, none⟩ = some (.map (some b)) ∧ w.cell? ⟨S, 1, none⟩ = some (.int .u64 s.fl) := ⟨h.row.cell (i := 0) (by omega), h.row.cell (i := 1) (by omega)⟩
theorem floor_any {B : Nat → Prop} {S b : Nat} {s : St} (w : World) (h : SAt B w S b s) : Calls Try.prog 26 #[.pointer (some ⟨S, 0, none⟩)] w fun e w' => e = .returned (.int .u64 s.fl) ∧ w = w' := by
  obtain ⟨D, h⟩ := h
  obtain ⟨c0, c1⟩ := SIs.cells h
  clear h
  go_enter Try.func26, Try.ntmps26
  go_wp2
  go_ret
  exact ⟨rfl, rfl⟩
theorem floor_nil (w : World) : Calls Try.prog 26 #[.pointer none] w fun e w' => e = .returned (.int .u64 0) ∧ w = w' := by
  go_enter Try.func26, Try.ntmps26
  go_wp2
  go_ret
  exact ⟨rfl, rfl⟩
/-! ### a nil store -/
theorem len_nil (w : World) : Calls Try.prog 27 #[.pointer none] w fun e w' => e = .returned (.int .i64 0) ∧ w = w' := by
  go_enter Try.func27, Try.ntmps27
  go_wp2
  go_ret
  exact ⟨rfl, rfl⟩
theorem trim_nil (f : Int) (w : World) : Calls Try.prog 21 #[.pointer none, .int .u64 f] w fun e w' => e = .returned (.int .i64 0) ∧ w = w' := by
  go_enter Try.func21, Try.ntmps21
  go_wp2
  go_ret
  exact ⟨rfl, rfl⟩
theorem put_nil (v : Ver) (w : World) : Calls Try.prog 11 #[.pointer none, .agg #[.string v.key, .string v.val, .bool v.gone, .int .u64 v.ts, .int .i64 v.dc, .int .i64 v.tx]] w fun e w' => e = .returned (.int .i64 1) ∧ Below w.heap.size w w' := by
  go_enter Try.func11, Try.ntmps11
  go_wp2
  go_ret
  exact ⟨rfl, al0 _ _⟩
theorem get_nil (k : ByteArray) (f : Int) (w : World) : Calls Try.prog 17 #[.pointer none, .string k, .int .u64 f] w fun e w' => e = .returned (.tuple #[vv default, .bool false, .int .i64 1]) ∧ Below w.heap.size w w' := by
  have hR := R6.new w default
  obtain ⟨W, hW⟩ : ∃ W, w.alloc (.cells #[.string { data := #[] }, .string { data := #[] }, .bool false, .int .u64 0, .int .i64 0, .int .i64 0] 35) = W := ⟨_, rfl⟩
  have hz : R6 w.heap.size default W := by rw [← hW]; exact hR
  have hB := Lib.hid (show Below w.heap.size w W by rw [← hW]; exact al0 _ _)
  obtain ⟨z0, z1, z2, z3, z4, z5⟩ := hz.v6
  obtain ⟨f0, f1, f2, f3, f4, f5⟩ := hz.fz
  replace hW := Lib.hid hW
  clear hR hz
  go_enter Try.func17, Try.ntmps17
  go_wp2
  rw [hW.out]
  have hB := hB.out
  clear f0 f1 f2 f3 f4 f5 hW
  refine bodyPost_ret (v := .tuple #[vv default, .bool false, .int .i64 1]) ?_ rfl ⟨rfl, hB⟩
  simp [results, Try.results17, go_sem, z0, z1, z2, z3, z4, z5]
end Go.Proofs.Ytlojmojmijklmaa.stoC
