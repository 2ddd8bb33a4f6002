/- The program's New, Snap, Low, Open, find, and what is asked of texts' order. -/
import Derived.Test.YtnicomhodnfggaaSeL
import Derived.Deep.RegionLaw
import Derived.Deep.DeepCutAuto
import Derived.Deep.CutBlock
import Derived.Deep.CutRange
import Derived.Carry
set_option linter.unusedVariables false
set_option linter.unusedSimpArgs false
set_option maxRecDepth 100000
namespace Go.Proofs.Ytnicomhodnfggaa.seN
open Go.ChangeShapes Go.WideShapes Go.ChangeAt Go.RowKit Go.Deep
open opV chnM gen chnA chnR chnE seM seI ordC seL

def SesAt (col : Nat → Nat) (c : Nat) (w : World) (p : Nat) (S : Ss) : Prop :=
  ∃ A cw mb n D, SesM col c w p S.snap S.last S.op A cw S.ws mb n D ∧ CR S.ca D ∧ n ≤ S.cnt
/-- What a call leaves: blocks of the session's color alone have changed. -/
def Lv (col : Nat → Nat) (c : Nat) (p : Nat) (S : Ss) (w w' : World) : Prop := ∃ col', Cn c col w col' w' ∧ SesAt col' c w' p S
section
variable {col col' : Nat → Nat} {c d p : Nat} {S : Ss} {w w1 : World}
theorem SesAt.other (h : SesAt col c w p S) (hg : Chg col d w w1) (hd : d ≠ 0) (hcd : c ≠ d) (he : Ext w col col') : SesAt col' c w1 p S := by
  obtain ⟨A, cw, mb, n, D, h, hr⟩ := h
  exact ⟨_, _, _, _, _, h.other hg hd hcd he, hr⟩
theorem SesAt.below (h : SesAt col c w p S) (hB : Below w.heap.size w w1) : SesAt col c w1 p S := by
  obtain ⟨A, cw, mb, n, D, h, hr⟩ := h
  exact ⟨_, _, _, _, _, h.below hB, hr⟩
theorem SesAt.lt (h : SesAt col c w p S) : p < w.heap.size := by
  obtain ⟨A, cw, mb, n, D, h, hr⟩ := h
  exact h.row.lt
theorem lv_stay (h : SesAt col c w p S) (hf : Fresh col w) (hB : Below w.heap.size w w1) : Lv col c p S w w1 := ⟨col, Cn.below hf hB, h.below hB⟩
end
/-! ### New -/
def colP (col : Nat → Nat) (b c k : Nat) : Nat := if k = b ∨ k = b + 1 then c else col k
abbrev newS (w : World) : World := (w.alloc (.map #[] 0)).alloc (.cells #[.int .u64 0, .int .u64 0, .bool false, .slice none 0 0, .map (some w.heap.size)] TS)
theorem new_any (w : World) : Calls Try.prog 8 #[] w fun e w' => e = .returned (.pointer (some ⟨w.heap.size + 1, 0, none⟩)) ∧ w' = newS w := by
  have hmm := @run_makeMap Try.prog
  have hsz : (w.alloc (.map #[] 0)).heap.size = w.heap.size + 1 := by simp
  go_enter Try.func8, Try.ntmps8
  go_wp2
  go_ret
  exact ⟨rfl, rfl⟩
theorem at_new {col : Nat → Nat} {c : Nat} (w : World) (hf : Fresh col w) : SesAt (colP col w.heap.size c) c (newS w) (w.heap.size + 1) S0 ∧ Cn c col w (colP col w.heap.size c) (newS w) := by
  have hsz : (w.alloc (.map #[] 0)).heap.size = w.heap.size + 1 := by simp
  have hB : Below w.heap.size w (newS w) := trans0 (al0 w _) (al0 _ _)
  have hm0 : MapV (w.alloc (.map #[] 0)) w.heap.size 0 (.map []) := World.ownsMap_made w _ _ _
  have hr := World.rowIs_alloc (w.alloc (.map #[] 0)) #[.int .u64 0, .int .u64 0, .bool false, .slice none 0 0, .map (some w.heap.size)] TS (cS 0 0 false (.slice none 0 0) (.map (some w.heap.size))) (fun i hi => by
    rcases five (i := i) (by simpa using hi) with rfl | rfl | rfl | rfl | rfl <;> simp [cS])
  rw [hsz] at hr
  refine ⟨⟨none, 0, w.heap.size, 0, .map [], ?_, cr_nil, Nat.le_refl _⟩, fun k hk => if_neg (by omega), fun k hk => ?_, Chg.of_below _ _ hB⟩
  · exact { row := hr, ro := GV.nil_ _ _, mp := map_block hm0 ((al0 (w.alloc (.map #[] 0)) _).block _ (by rw [hsz]; omega)), cp := if_pos (.inr rfl), kw := fun k e => (by cases e), km := if_pos (.inl rfl) }
  · have : (newS w).heap.size = w.heap.size + 1 + 1 := by simp [newS]
    rw [this] at hk
    unfold colP
    rw [if_neg (by omega)]
    exact hf k (by omega)
/-! ### The order of texts -/
theorem bcmp_any (a b : ByteArray) (w : World) : Calls Try.prog 40 #[.string a, .string b] w fun e w' => e = .returned (.int .i64 (kc a b)) ∧ w = w' := by
  go_enter Try.func40, Try.ntmps40
  go_wp2
  rw [run_callFunc_extern Try.func42 (by kernel_rfl) (by kernel_rfl) (by kernel_rfl) (e := Extern.BytealgCompare.compare) (by kernel_rfl), Lib.run_compareString]
  simp only [Result.andThen]
  rw [Oper.upon_value]
  go_wp2
  go_ret
  exact ⟨rfl, rfl⟩
theorem scmp_any (a b : ByteArray) (w : World) : Calls Try.prog 37 #[.string a, .string b] w fun e w' => e = .returned (.int .i64 (kc a b)) ∧ w = w' := by
  go_enter Try.func37, Try.ntmps37
  go_wp2_with (go_at_call 40; refine (bcmp_any a b _).mono ?_; rintro e w' ⟨rfl, rfl⟩)
  go_ret
  exact ⟨rfl, rfl⟩
theorem by_key (v : Ver) (k : ByteArray) (w : World) : Calls Try.prog 36 #[vv v, .string k] w fun e w' => e = .returned (.int .i64 (kc v.key k)) ∧ Below w.heap.size w w' := by
  have hB := Lib.hid (fun o => al0 w o)
  go_enter Try.func36, Try.ntmps36
  go_wp2_with (go_at_call 37; refine (scmp_any v.key k _).mono ?_; rintro e w' ⟨rfl, rfl⟩)
  go_ret
  exact ⟨rfl, hB.out _⟩
section
variable {col : Nat → Nat} {c p : Nat} {S : Ss}
theorem snap_at (w : World) (h : SesAt col c w p S) : Calls Try.prog 20 #[.pointer (some ⟨p, 0, none⟩)] w fun e w' => e = .returned (.int .u64 S.snap) ∧ w = w' := by
  obtain ⟨A, cw, mb, n, D, h, hr⟩ := h
  obtain ⟨k0, k1, k2, k3, k4⟩ := h.cells
  clear h hr
  go_enter Try.func20, Try.ntmps20
  go_wp2
  go_ret
  exact ⟨rfl, rfl⟩
theorem open_at (w : World) (h : SesAt col c w p S) : Calls Try.prog 19 #[.pointer (some ⟨p, 0, none⟩)] w fun e w' => e = .returned (.bool S.op) ∧ w = w' := by
  obtain ⟨A, cw, mb, n, D, h, hr⟩ := h
  obtain ⟨k0, k1, k2, k3, k4⟩ := h.cells
  clear h hr
  generalize S.op = op at *
  go_enter Try.func19, Try.ntmps19
  go_wp2
  go_ret
  exact ⟨rfl, rfl⟩
theorem low_at (w : World) (h : SesAt col c w p S) : Calls Try.prog 21 #[.pointer (some ⟨p, 0, none⟩)] w fun e w' => e = .returned (.int .u64 (low S)) ∧ ∃ m, w' = w.drewN m := by
  obtain ⟨A, cw, mb, n, D, h, hr⟩ := h
  obtain ⟨k0, k1, k2, k3, k4⟩ := h.cells
  clear h hr
  unfold low
  go_enter Try.func21, Try.ntmps21
  go_upto_region 3 with (fail)
  go_quiet (fail)
  go_wp2
  go_ret
  exact ⟨rfl, nq, rfl⟩
theorem low_below (w : World) (h : SesAt col c w p S) : Calls Try.prog 21 #[.pointer (some ⟨p, 0, none⟩)] w fun e w' => e = .returned (.int .u64 (low S)) ∧ Below w.heap.size w w' :=
  (low_at w h).mono fun e w' ⟨h1, m, h2⟩ => ⟨h1, by rw [h2]; exact bdrN m (Below.refl _ _)⟩
theorem low_quiet (w : World) (h : SesAt col c w p S) (n : Nat) : Calls Try.prog 21 #[.pointer (some ⟨p, 0, none⟩)] (w.drewN n) fun e w' => e = .returned (.int .u64 (low S)) ∧ ∃ m, w' = w.drewN m :=
  (low_at (w.drewN n) (h.below (bdrN n (Below.refl _ _)))).mono fun e w' ⟨h1, m, h2⟩ => ⟨h1, n + m, by rw [h2, World.drewN_drewN]⟩
end
end Go.Proofs.Ytnicomhodnfggaa.seN
