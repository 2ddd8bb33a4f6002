/- The program's New, decided, find, sides, Len, and the calls of a nil table. -/
import Derived.Test.YtafocefbpkcoaaaCoL
import Derived.Deep.RegionLaw
import Derived.Deep.DeepCutAuto
import Derived.Deep.CutBlock
import Derived.Deep.CutRange
set_option linter.unusedVariables false
set_option linter.unusedSimpArgs false
set_option maxRecDepth 100000
namespace Go.Proofs.Ytafocefbpkcoaaa.coN
open Go.ChangeShapes Go.WideShapes Go.ChangeAt Go.RowKit Go.Deep
open opG opV chnM gen chnA chnR chnE ordA ordC coG coO coM coP coL

theorem zP (w : World) : (zeroValue 73).run Try.prog w = .ok (.pointer none) w := Try.zeroValue73 w
theorem zI (w : World) : (zeroValue 3).run Try.prog w = .ok (.int .i64 0) w := Try.zeroValue3 w
theorem wf_u {k : Int} (h1 : 0 ≤ k) (h2 : k < 18446744073709551616) : (Lit.int .u64 k).wf = true := by simp [Lit.wf, IntKind.min, IntKind.max, IntKind.bits, IntKind.signed]; omega
theorem wf_i {k : Int} (h1 : -9223372036854775808 ≤ k) (h2 : k ≤ 9223372036854775807) : (Lit.int .i64 k).wf = true := by simp [Lit.wf, IntKind.min, IntKind.max, IntKind.bits, IntKind.signed]; omega
/-! ### New -/
def colP (col : Nat → Nat) (b c k : Nat) : Nat := if k = b ∨ k = b + 1 then c else col k
abbrev newS (w : World) : World := (w.alloc (.map #[] 0)).alloc (.cells #[.map (some w.heap.size)] TT)
theorem new_any (w : World) : Calls Try.prog 8 #[] w fun e w' => e = .returned (.pointer (some ⟨w.heap.size + 1, 0, none⟩)) ∧ w' = newS w := by
  have hmm := @run_makeMap Try.prog
  have hsz : (w.alloc (.map #[] 0)).heap.size = w.heap.size + 1 := by simp
  go_enter Try.func8, Try.ntmps8
  go_wp2
  go_ret
  exact ⟨rfl, rfl⟩
theorem at_new {col : Nat → Nat} {c : Nat} (w : World) (hf : Fresh col w) : TabAt (colP col w.heap.size c) c (newS w) (w.heap.size + 1) [] ∧ Cn c col w (colP col w.heap.size c) (newS w) := by
  have hsz : (w.alloc (.map #[] 0)).heap.size = w.heap.size + 1 := by simp
  have hB : Below w.heap.size w (newS w) := trans0 (al0 w _) (al0 _ _)
  have hm0 : (w.alloc (.map #[] 0)).ownsMap Try.prog 29 hV w.heap.size 0 (.map []) := World.ownsMap_made w _ _ _
  have hr := World.rowIs_alloc (w.alloc (.map #[] 0)) #[.map (some w.heap.size)] TT (fun _ => .map (some w.heap.size)) (fun i hi => by
    have : i = 0 := by simpa using hi
    subst this; rfl)
  rw [hsz] at hr
  refine ⟨⟨w.heap.size, .map [], [], ?_, rfl⟩, fun k hk => if_neg (by omega), fun k hk => ?_, Chg.of_below _ _ hB⟩
  · exact { row := hr, mp := map_block hm0 ((al0 (w.alloc (.map #[] 0)) _).block _ (by rw [hsz]; omega)), cr := cr_nil _, xs := fun x hx => (by cases hx), ap := List.Pairwise.nil, tm := fun x hx => (by cases hx), ct := if_pos (.inr rfl), cm := if_pos (.inl rfl) }
  · have : (newS w).heap.size = w.heap.size + 1 + 1 := by simp [newS]
    rw [this] at hk
    unfold colP
    rw [if_neg (by omega)]
    exact hf k (by omega)
section
variable {col : Nat → Nat} {c t mb : Nat} {D : DM} {l : List Tx} {os : Ens}
theorem len_at (w : World) (h : TabAt col c w t os) : Calls Try.prog 19 #[.pointer (some ⟨t, 0, none⟩)] w fun e w' => e = .returned (.int .i64 (os.length : Int)) ∧ w = w' := by
  obtain ⟨mb, D, l, h, rfl⟩ := h
  have k0 : w.cell? ⟨t, 0, none⟩ = some (.map (some mb)) := h.row.cell (i := 0) (by omega)
  have hl := fun ty => cr_len (tm := TM) h.cr h.mp Try.underlying70 ty
  rw [List.length_map] at hl ⊢
  clear h
  generalize (l.length : Int) = n at *
  go_enter Try.func19, Try.ntmps19
  go_wp2
  go_ret
  exact ⟨rfl, rfl⟩
theorem len_nil (w : World) : Calls Try.prog 19 #[.pointer none] w fun e w' => e = .returned (.int .i64 0) ∧ w = w' := by
  go_enter Try.func19, Try.ntmps19
  go_wp2
  go_ret
  exact ⟨rfl, rfl⟩
theorem start_nil (w : World) (tx low : Int) (v : Value) : Calls Try.prog 10 #[.pointer none, .int .u64 tx, .int .u64 low, v] w fun e w' => e = .returned (.int .i64 1) ∧ w = w' := by
  go_enter Try.func10, Try.ntmps10
  go_wp2
  go_ret
  exact ⟨rfl, rfl⟩
theorem find_nil (w : World) (tx n : Int) : Calls Try.prog 32 #[.pointer none, .int .u64 tx, .int .i64 n] w fun e w' => e = .returned (.tuple #[.pointer none, .pointer none, .int .i64 1]) ∧ w = w' := by
  go_enter Try.func32, Try.ntmps32
  go_wp2
  refine bodyPost_ret (v := .tuple #[.pointer none, .pointer none, .int .i64 1]) ?_ rfl ⟨rfl, rfl⟩
  simp [results, Try.results32, go_sem]
theorem vote_nil (w : World) (tx n t : Int) : Calls Try.prog 13 #[.pointer none, .int .u64 tx, .int .i64 n, .int .u64 t] w fun e w' => e = .returned (.tuple #[.int .u64 0, .bool false, .int .i64 1]) ∧ w = w' := by
  go_enter Try.func13, Try.ntmps13
  go_wp2_with (fail)
  with_reducible refine (find_nil w tx n).mono ?_
  rintro e w' ⟨rfl, rfl⟩
  go_wp2
  refine bodyPost_ret (v := .tuple #[.int .u64 0, .bool false, .int .i64 1]) ?_ rfl ⟨rfl, rfl⟩
  simp [results, Try.results13, go_sem]
theorem end_nil (w : World) (tx n : Int) : Calls Try.prog 15 #[.pointer none, .int .u64 tx, .int .i64 n] w fun e w' => e = .returned (.tuple #[.bool false, .int .i64 1]) ∧ w = w' := by
  go_enter Try.func15, Try.ntmps15
  go_wp2_with (fail)
  with_reducible refine (find_nil w tx n).mono ?_
  rintro e w' ⟨rfl, rfl⟩
  go_wp2
  go_ret2
  exact ⟨rfl, rfl⟩
theorem sides_nil (w : World) (tx : Int) : Calls Try.prog 36 #[.pointer none, .int .u64 tx] w fun e w' => e = .returned (.slice none 0 0) ∧ w = w' := by
  go_enter Try.func36, Try.ntmps36
  go_wp2
  go_ret
  exact ⟨rfl, rfl⟩
theorem touches_nil (w : World) (lo hi : ByteArray) : Calls Try.prog 23 #[.pointer none, .string lo, .string hi] w fun e w' => e = .returned (.bool false) ∧ w = w' := by
  go_enter Try.func23, Try.ntmps23
  go_wp2
  go_ret
  exact ⟨rfl, rfl⟩
/-! ### find, decided, sides -/
theorem decided_at (w : World) {p : Nat} {n m c : Nat} {A : Option Addr} (k1 : w.cell? ⟨p, 1, none⟩ = some (.slice A m c)) (k3 : w.cell? ⟨p, 3, none⟩ = some (.int .i64 (n : Nat))) : Calls Try.prog 33 #[.pointer (some ⟨p, 0, none⟩)] w fun e w' => e = .returned (.bool (decide (n = m))) ∧ Below w.heap.size w w' := by
  have hB := Lib.hid (fun q => bdrN q (Below.refl w.heap.size w))
  have hc : ((n : Int) == (m : Int)) = decide (n = m) := by
    by_cases e : n = m
    · subst e; simp
    · rw [decide_eq_false e, beq_eq_false_iff_ne]; omega
  generalize decide (n = m) = B at *
  go_enter Try.func33, Try.ntmps33
  go_upto_region 1 with (fail)
  go_quiet (fail)
  go_wp2
  go_ret
  exact ⟨rfl, hB.out _⟩
theorem find_none (w : World) (h : TabM col c w t mb D l) {tx : Int} (n : Int) (x0 : 0 ≤ tx) (x1 : tx < 18446744073709551616) (hn : fnE (l.map Tx.e) tx = none) : Calls Try.prog 32 #[.pointer (some ⟨t, 0, none⟩), .int .u64 tx, .int .i64 n] w fun e w' => e = .returned (.tuple #[.pointer none, .pointer none, .int .i64 7]) ∧ Below w.heap.size w w' := by
  have hst := Lib.hid (Below.refl w.heap.size w)
  have k0 : w.cell? ⟨t, 0, none⟩ = some (.map (some mb)) := h.row.cell (i := 0) (by omega)
  have hlk := cr_look (tm := TM) h.cr h.mp Try.underlying29 Try.underlying70 (zP w) (wf_u x0 x1)
  rw [fnp_no hn] at hlk
  simp only [Option.getD_none, Option.isSome_none] at hlk
  clear h hn
  go_enter Try.func32, Try.ntmps32
  go_wp2
  refine bodyPost_ret (v := .tuple #[.pointer none, .pointer none, .int .i64 7]) ?_ rfl ⟨rfl, hst.out⟩
  simp [results, Try.results32, go_sem]
theorem find_away (w : World) {a b : List Tx} {x : Tx} (h : TabM col c w t mb D (a ++ x :: b)) (hd : DifE ((a ++ x :: b).map Tx.e)) {n : Int} (n0 : -9223372036854775808 ≤ n) (n1 : n ≤ 9223372036854775807) (x0 : 0 ≤ x.tx) (x1 : x.tx < 18446744073709551616) (hi : inS x.e.sh n = false) :
    Calls Try.prog 32 #[.pointer (some ⟨t, 0, none⟩), .int .u64 x.tx, .int .i64 n] w fun e w' => e = .returned (.tuple #[.pointer none, .pointer none, .int .i64 18]) ∧ Below w.heap.size w w' := by
  have hst := Lib.hid (Below.refl w.heap.size w)
  have k0 : w.cell? ⟨t, 0, none⟩ = some (.map (some mb)) := h.row.cell (i := 0) (by omega)
  have hlk := cr_look (tm := TM) h.cr h.mp Try.underlying29 Try.underlying70 (zP w) (wf_u x0 x1)
  rw [fnp_some hd] at hlk
  simp only [Option.getD_some, Option.isSome_some] at hlk
  have hm := h.xs x (by simp)
  obtain ⟨c0, c1, c2, _⟩ := hm.cells
  have hl2 := cr_look (tm := TN) hm.cr hm.mp Try.underlying3 Try.underlying77 (zI w) (wf_i n0 n1)
  have hno : n ∉ x.ns := fun e => by rw [← Tx.nds_e] at e; rw [inS_iff.2 e] at hi; cases hi
  rw [plN_none hno] at hl2
  simp only [Option.getD_none, Option.isSome_none] at hl2
  clear h hm hno hi hd
  generalize x.rs.length = N at *
  go_enter Try.func32, Try.ntmps32
  go_wp2
  refine bodyPost_ret (v := .tuple #[.pointer none, .pointer none, .int .i64 18]) ?_ rfl ⟨rfl, hst.out⟩
  simp [results, Try.results32, go_sem]
theorem find_in (w : World) {a b : List Tx} {x : Tx} (h : TabM col c w t mb D (a ++ x :: b)) (hd : DifE ((a ++ x :: b).map Tx.e)) (hx : okX x.e) {k : Nat} {r : SR} (hk : x.rs[k]? = some r) (n0 : -9223372036854775808 ≤ r.node) (n1 : r.node ≤ 9223372036854775807) (x0 : 0 ≤ x.tx) (x1 : x.tx < 18446744073709551616) :
    Calls Try.prog 32 #[.pointer (some ⟨t, 0, none⟩), .int .u64 x.tx, .int .i64 r.node] w fun e w' => e = .returned (.tuple #[.pointer (some ⟨x.p, 0, none⟩), .pointer (some ⟨x.g, k * 4, none⟩), .int .i64 0]) ∧ Below w.heap.size w w' := by
  have hst := Lib.hid (fun q => chnA.bdrN q (Below.refl w.heap.size w))
  have k0 : w.cell? ⟨t, 0, none⟩ = some (.map (some mb)) := h.row.cell (i := 0) (by omega)
  have hlk := cr_look (tm := TM) h.cr h.mp Try.underlying29 Try.underlying70 (zP w) (wf_u x0 x1)
  rw [fnp_some hd] at hlk
  simp only [Option.getD_some, Option.isSome_some] at hlk
  have hm := h.xs x (by simp)
  obtain ⟨c0, c1, c2, _⟩ := hm.cells
  have hl2 := cr_look (tm := TN) hm.cr hm.mp Try.underlying3 Try.underlying77 (zI w) (wf_i n0 n1)
  have hsz := hx.sz
  have hls : x.e.sh.length = x.rs.length := by unfold Tx.e; simp
  have hnd := hx.nd
  rw [Tx.nds_e] at hnd
  have hcap := hm.sd.cap
  rw [sdl_len] at hcap
  have hkl : k < x.rs.length := (List.getElem?_eq_some_iff.1 hk).1
  have hat : x.ns[k]? = some r.node := by unfold Tx.ns; rw [List.getElem?_map, hk]; rfl
  rw [plN_at hnd hat] at hl2
  simp only [Option.getD_some, Option.isSome_some] at hl2
  have hkI : (k : Int) < (x.rs.length : Int) := by omega
  have hN6 : x.rs.length ≤ 6 := by omega
  clear h hm hnd hx hd hls hk hat hsz
  generalize x.rs.length = N at *
  generalize r.node = n at *
  go_enter Try.func32, Try.ntmps32
  go_upto_region 9 with (fail)
  go_quiet (fail)
  go_wp2
  refine bodyPost_ret (v := .tuple #[.pointer (some ⟨x.p, 0, none⟩), .pointer (some ⟨x.g, k * 4, none⟩), .int .i64 0]) ?_ rfl ⟨rfl, hst.out _⟩
  simp [results, Try.results32, go_sem]
theorem sides_none (w : World) (h : TabM col c w t mb D l) {tx : Int} (x0 : 0 ≤ tx) (x1 : tx < 18446744073709551616) (hn : fnE (l.map Tx.e) tx = none) : Calls Try.prog 36 #[.pointer (some ⟨t, 0, none⟩), .int .u64 tx] w fun e w' => e = .returned (.slice none 0 0) ∧ w = w' := by
  have k0 : w.cell? ⟨t, 0, none⟩ = some (.map (some mb)) := h.row.cell (i := 0) (by omega)
  have hlk := cr_look1 (tm := TM) h.cr h.mp Try.underlying29 Try.underlying70 (zP w) (wf_u x0 x1)
  rw [fnp_no hn] at hlk
  simp only [Option.getD_none] at hlk
  clear h hn
  go_enter Try.func36, Try.ntmps36
  go_wp2
  go_ret
  exact ⟨rfl, rfl⟩
theorem sides_some (w : World) {a b : List Tx} {x : Tx} (h : TabM col c w t mb D (a ++ x :: b)) (hd : DifE ((a ++ x :: b).map Tx.e)) (x0 : 0 ≤ x.tx) (x1 : x.tx < 18446744073709551616) : Calls Try.prog 36 #[.pointer (some ⟨t, 0, none⟩), .int .u64 x.tx] w fun e w' => e = .returned (.slice (some ⟨x.g, 0, none⟩) x.rs.length x.gc) ∧ w = w' := by
  have k0 : w.cell? ⟨t, 0, none⟩ = some (.map (some mb)) := h.row.cell (i := 0) (by omega)
  have hlk := cr_look1 (tm := TM) h.cr h.mp Try.underlying29 Try.underlying70 (zP w) (wf_u x0 x1)
  rw [fnp_some hd] at hlk
  simp only [Option.getD_some] at hlk
  obtain ⟨c0, c1, c2, _⟩ := (h.xs x (by simp)).cells
  clear h hd
  generalize x.rs.length = N at *
  go_enter Try.func36, Try.ntmps36
  go_wp2
  go_ret
  exact ⟨rfl, rfl⟩
end
end Go.Proofs.Ytafocefbpkcoaaa.coN
