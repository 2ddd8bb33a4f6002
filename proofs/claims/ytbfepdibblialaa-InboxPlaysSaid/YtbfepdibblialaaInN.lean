/- The program's New, Applied, Got, wanting, Peek, and all calls of a nil box. -/
import Derived.Test.YtbfepdibblialaaInL
import Derived.Deep.RegionLaw
import Derived.Carry
set_option linter.unusedVariables false
set_option linter.unusedSimpArgs false
set_option maxRecDepth 100000
namespace Go.Proofs.Ytbfepdibblialaa.inN
open Go.ChangeShapes Go.WideShapes Go.ChangeAt Go.RowKit Go.Deep
open opV chnM gen chnA chnR chnE ordA ordB ordC inM inW inL

def BoxAt (col : Nat → Nat) (c : Nat) (w : World) (p : Nat) (S : Bx) : Prop :=
  ∃ Ao co Ai ci ms mb n D, BoxM col c w p S.ap Ao co S.outs Ai ci ms mb n D S.g ∧ ms.map MR.r = S.came.drop S.handed ∧ n ≤ S.hearts.length ∧ MapRel S.hearts S.ap S.g D
/-- What a call leaves: blocks of the box's color alone have changed. -/
def Lv (col : Nat → Nat) (c : Nat) (p : Nat) (S : Bx) (w w' : World) : Prop := ∃ col', Cn c col w col' w' ∧ BoxAt col' c w' p S
section
variable {col col' : Nat → Nat} {c d p : Nat} {S : Bx} {w w1 : World}
theorem BoxAt.other (h : BoxAt col c w p S) (hg : Chg col d w w1) (hd : d ≠ 0) (hcd : c ≠ d) (he : Ext w col col') : BoxAt col' c w1 p S := by
  obtain ⟨Ao, co, Ai, ci, ms, mb, n, D, h, hr⟩ := h
  exact ⟨_, _, _, _, _, _, _, _, h.other hg hd hcd he, hr⟩
theorem BoxAt.below (h : BoxAt col c w p S) (hB : Below w.heap.size w w1) : BoxAt col c w1 p S := by
  obtain ⟨Ao, co, Ai, ci, ms, mb, n, D, h, hr⟩ := h
  exact ⟨_, _, _, _, _, _, _, _, h.below hB, hr⟩
theorem BoxAt.lt (h : BoxAt col c w p S) : p < w.heap.size := by
  obtain ⟨Ao, co, Ai, ci, ms, mb, n, D, h, hr⟩ := h
  exact h.row.lt
theorem lv_stay (h : BoxAt col c w p S) (hf : Fresh col w) (hB : Below w.heap.size w w1) : Lv col c p S w w1 := ⟨col, Cn.below hf hB, h.below hB⟩
end
/-! ### New -/
def colP (col : Nat → Nat) (b c k : Nat) : Nat := if k = b ∨ k = b + 1 then c else col k
abbrev newB (w : World) (at0 : Int) : World := (w.alloc (.map #[] 0)).alloc (.cells #[.int .i64 (max at0 0), .slice none 0 0, .slice none 0 0, .map (some w.heap.size), .int .u64 0] TB)
theorem new_any (at0 : Int) (w : World) : Calls Try.prog 8 #[.int .i64 at0] w fun e w' => e = .returned (.pointer (some ⟨w.heap.size + 1, 0, none⟩)) ∧ w' = newB w at0 := by
  have hmm := @run_makeMap Try.prog
  have hsz : (w.alloc (.map #[] 0)).heap.size = w.heap.size + 1 := by simp
  go_enter Try.func8, Try.ntmps8
  go_wp2
  go_ret
  exact ⟨rfl, rfl⟩
theorem at_new {col : Nat → Nat} {c : Nat} (w : World) (at0 : Int) (hf : Fresh col w) : BoxAt (colP col w.heap.size c) c (newB w at0) (w.heap.size + 1) (B0 at0) ∧ Cn c col w (colP col w.heap.size c) (newB w at0) := by
  have hsz : (w.alloc (.map #[] 0)).heap.size = w.heap.size + 1 := by simp
  have hB : Below w.heap.size w (newB w at0) := trans0 (al0 w _) (al0 _ _)
  have hm0 : MapIs (w.alloc (.map #[] 0)) w.heap.size 0 (.map []) := World.ownsMap_made w _ _ _
  have hr := World.rowIs_alloc (w.alloc (.map #[] 0)) #[.int .i64 (max at0 0), .slice none 0 0, .slice none 0 0, .map (some w.heap.size), .int .u64 0] TB (cB ((B0 at0).ap : Nat) (.slice none 0 0) (.slice none 0 0) (.map (some w.heap.size)) 0) (fun i hi => by
    have hap : (((B0 at0).ap : Nat) : Int) = max at0 0 := by unfold Bx.ap B0 lead; simp only; omega
    rcases five (i := i) (by simpa using hi) with rfl | rfl | rfl | rfl | rfl <;> simp [cB, hap])
  rw [hsz] at hr
  refine ⟨⟨none, 0, none, 0, [], w.heap.size, 0, .map [], ?_, rfl, Nat.le_refl _, mapRel_0 _⟩, fun k hk => if_neg (by omega), fun k hk => ?_, Chg.of_below _ _ hB⟩
  · exact { row := hr, wo := Win.nil _ _ _ _, wi := Win.nil _ _ _ _, mp := map_block hm0 ((al0 (w.alloc (.map #[] 0)) _).block _ (by rw [hsz]; omega)), dv := fun m hm => (by cases hm), cp := if_pos (.inr rfl), ko := fun k e => (by cases e), ki := fun k e => (by cases e), km := if_pos (.inl rfl) }
  · have : (newB w at0).heap.size = w.heap.size + 1 + 1 := by simp [newB]
    rw [this] at hk
    unfold colP
    rw [if_neg (by omega)]
    exact hf k (by omega)
/-! ### Of a nil box -/
theorem applied_nil (w : World) : Calls Try.prog 22 #[.pointer none] w fun e w' => e = .returned (.int .i64 0) ∧ w = w' := by
  go_enter Try.func22, Try.ntmps22
  go_wp2
  go_ret
  exact ⟨rfl, rfl⟩
theorem got_nil (w : World) : Calls Try.prog 24 #[.pointer none] w fun e w' => e = .returned (.int .u64 0) ∧ w = w' := by
  go_enter Try.func24, Try.ntmps24
  go_wp2
  go_ret
  exact ⟨rfl, rfl⟩
theorem done_nil (at0 : Int) (w : World) : Calls Try.prog 16 #[.pointer none, .int .i64 at0] w fun e w' => e = .returned (.int .i64 1) ∧ w = w' := by
  go_enter Try.func16, Try.ntmps16
  go_wp2
  go_ret
  exact ⟨rfl, rfl⟩
theorem put_nil (at0 : Int) (m : MR) (w : World) : Calls Try.prog 10 #[.pointer none, .int .i64 at0, rv m] w fun e w' => e = .returned (.int .i64 1) ∧ Below w.heap.size w w' := by
  have hB := Lib.hid (fun o => al0 w o)
  go_enter Try.func10, Try.ntmps10
  go_wp2
  go_ret
  exact ⟨rfl, hB.out _⟩
theorem heart_nil (t n : Int) (w : World) : Calls Try.prog 18 #[.pointer none, .int .u64 t, .int .i64 n] w fun e w' => e = .returned (.tuple #[]) ∧ w = w' := by
  go_enter Try.func18, Try.ntmps18
  go_wp2
  go_end0
  exact ⟨rfl, rfl⟩
theorem peek_nil (w : World) : Calls Try.prog 20 #[.pointer none] w fun e w' => e = .returned (.tuple #[rv ⟨0, 0, 0, [], none, 0⟩, .bool false]) ∧ Below w.heap.size w w' := by
  have hB := Lib.hid (al0 w (.cells #[.int .u64 0, .int .i64 0, .int .i64 0, .slice none 0 0] 30))
  go_enter Try.func20, Try.ntmps20
  go_wp2
  exact bodyPost_ret (v := .tuple #[rv ⟨0, 0, 0, [], none, 0⟩, .bool false]) (by simp [results, Try.results20, go_sem, default, Inhabited.default]) rfl ⟨rfl, hB.out⟩
theorem next_nil (w : World) : Calls Try.prog 13 #[.pointer none] w fun e w' => e = .returned (.tuple #[.int .i64 0, rv ⟨0, 0, 0, [], none, 0⟩, .bool false]) ∧ Below w.heap.size w w' := by
  obtain ⟨W, hW⟩ : ∃ W, w.alloc (.cells #[.int .u64 0, .int .i64 0, .int .i64 0, .slice none 0 0] 30) = W := ⟨_, rfl⟩
  have hP : P4 w.heap.size ⟨0, 0, 0, [], none, 0⟩ W := by rw [← hW]; exact P4.new w ⟨0, 0, 0, [], none, 0⟩
  have hB : Below w.heap.size w W := by rw [← hW]; exact al0 _ _
  have hp := Lib.hid (peek_nil)
  replace hW := Lib.hid hW
  go_enter Try.func13, Try.ntmps13
  go_wp2_with (fail)
  rw [hW.out]
  refine (hp.out _).mono ?_
  rintro e w1 ⟨rfl, hB1⟩
  obtain ⟨b0, b1, b2, b3⟩ := (P4.below hP hB1).r4
  obtain ⟨f0, f1, f2, f3⟩ := (P4.below hP hB1).fz
  have hlt : w.heap.size < w1.heap.size := World.block_lt_of_cell? _ _ b0
  have hfin := Lib.hid (fun o => (put4_below (trans0 hB hB1) (Nat.le_refl _) ⟨0, 0, 0, [], none, 0⟩).alloc (by simp [put4]; omega) o)
  clear hB
  go_wp2
  exact bodyPost_ret (v := .tuple #[.int .i64 0, rv ⟨0, 0, 0, [], none, 0⟩, .bool false]) (by simp [results, Try.results13, go_sem, b0, b1, b2, b3, hlt]) rfl ⟨rfl, hfin.out _⟩
section
variable {col : Nat → Nat} {c p : Nat} {S : Bx}
theorem applied_at (w : World) (h : BoxAt col c w p S) : Calls Try.prog 22 #[.pointer (some ⟨p, 0, none⟩)] w fun e w' => e = .returned (.int .i64 S.ap) ∧ w = w' := by
  obtain ⟨Ao, co, Ai, ci, ms, mb, n, D, h, hr⟩ := h
  obtain ⟨k0, k1, k2, k3, k4⟩ := h.cells
  clear h hr
  go_enter Try.func22, Try.ntmps22
  go_wp2
  go_ret
  exact ⟨rfl, rfl⟩
theorem got_at (w : World) (h : BoxAt col c w p S) : Calls Try.prog 24 #[.pointer (some ⟨p, 0, none⟩)] w fun e w' => e = .returned (.int .u64 S.g) ∧ w = w' := by
  obtain ⟨Ao, co, Ai, ci, ms, mb, n, D, h, hr⟩ := h
  obtain ⟨k0, k1, k2, k3, k4⟩ := h.cells
  clear h hr
  go_enter Try.func24, Try.ntmps24
  go_wp2
  go_ret
  exact ⟨rfl, rfl⟩
theorem wanting_at (w : World) (h : BoxAt col c w p S) (hok : S.ok) (hl : S.lim) : Calls Try.prog 27 #[.pointer (some ⟨p, 0, none⟩)] w fun e w' => e = .returned (.int .i64 S.nxt) ∧ Below w.heap.size w w' := by
  obtain ⟨Ao, co, Ai, ci, ms, mb, n, D, h, hr, -⟩ := h
  obtain ⟨k0, k1, k2, k3, k4⟩ := h.cells
  have h1 := hok.outs_len
  have h2 : ms.length = S.came.length - S.handed := by have := congrArg List.length hr; simpa using this
  have h3 := hok.lh
  have h4 := hok.hd
  obtain ⟨a1, a2, a3⟩ := hl
  have e1 : ((S.ap : Nat) : Int) + (S.outs.length : Int) = ((S.first + S.handed : Nat) : Int) := by unfold Bx.ap; omega
  have e2 : ((S.first + S.handed : Nat) : Int) + (ms.length : Int) = ((S.nxt : Nat) : Int) := by unfold Bx.nxt; omega
  have hb1 : S.first + S.handed ≤ 1152921504606847976 := by omega
  have hb2 : S.nxt ≤ 1152921504606847976 := by unfold Bx.nxt; omega
  have hB := Lib.hid (fun n => bdrN n (Below.refl w.heap.size w))
  generalize S.ap = ap at *
  generalize S.outs.length = no at *
  generalize S.first + S.handed = s1 at *
  generalize S.nxt = s2 at *
  have w1 : IntKind.i64.wrap ((ap : Int) + (no : Int)) = (s1 : Int) := by rw [e1]; exact wrap_in _ (by omega) (by omega)
  have w2 : IntKind.i64.wrap ((s1 : Int) + (ms.length : Int)) = (s2 : Int) := by rw [e2]; exact wrap_in _ (by omega) (by omega)
  clear h hr h1 h2 h3 h4 a1 a2 a3 e1 e2 hb1 hb2 hok
  go_enter Try.func27, Try.ntmps27
  go_upto_region 1 with (fail)
  go_quiet (fail)
  go_wp2
  go_ret
  exact ⟨rfl, hB.out _⟩
end
end Go.Proofs.Ytbfepdibblialaa.inN
