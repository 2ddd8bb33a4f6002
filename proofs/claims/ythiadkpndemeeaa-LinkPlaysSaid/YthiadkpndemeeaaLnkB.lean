/- The contracts of link's small functions: copies, a new end, what an end tells of itself. -/
import Derived.Test.YthiadkpndemeeaaLnkA
namespace Go.Proofs.Ythiadkpndemeeaa.lnkB
open Go.ChangeShapes Go.WideShapes Go.ChangeAt Go.RowKit Go.Deep
open numM rowA byt numA numB numC lnkA

theorem zcells : (Value.int .u8 0).cells = #[.int .u8 0] := rfl
set_option maxRecDepth 100000 in
theorem copy_any (A : Option Addr) (n c : Nat) (l : List Nat) (w : World) (hb : BL w A n l) (hn : n ≤ 140737488355328) :
    Calls Try.prog 27 #[.slice A n c] w (Makes w l) := by
  obtain ⟨i0, hi, hz0, hz1, hz2⟩ := info_parts bytes8
  have hsz1 : (Try.prog.info? 5).map (·.size) = some 1 := by kernel_rfl
  go_enter Try.func27, Try.ntmps27
  go_wp2_with (refine wpList_make_full _ rfl _ _ 29 rfl w.heap.size 5 i0 (.int .u8 0) 1 Try.underlying29 hi hz0 hz1 .i64 .i64 _ _ n rfl rfl rfl rfl ?c1 ?c2 ?c3 ?_)
  case c1 => rw [hz2]; omega
  case c2 => unfold maxLen; omega
  case c3 => exact Nat.le_refl _
  intro w1 hown hgrow
  have hB := (Below.refl w.heap.size w).grown hgrow (Nat.le_refl _) (fun k e => by cases e)
  have hb1 := hb.below hB
  obtain ⟨cur, hg, hcur⟩ : ∃ cur : List Value, w1.heap[w.heap.size]? = some (.cells cur.toArray 5 (0, 0)) ∧ cur.length = n := by
    rcases hown.2 with ⟨h, _⟩ | ⟨g, cap, cur, e, h1, h2, h3, h4, h5, h6⟩
    · cases h
    · cases e
      exact ⟨cur.toList, by simpa using h2, by simpa using h5⟩
  have hbl := Lib.hid hb1
  have hl := hb1.1
  have hn9 := hb1.2.1
  have hul := ub_len l
  have hone := Lib.hid (ub_one l)
  replace hB := Lib.hid hB
  clear hb hown hgrow hb1
  replace hg := Lib.hid hg
  go_wp2_with (with_reducible refine wpList_copy_splice rfl (.tmp 7) (.tmp 8) 29 29 rfl 5 Try.underlying29 hsz1 _ _ n n n _ rfl rfl w.heap.size 0 cur 5 hg.out (ub l) ?d1 ?d2 ?d3 hone.out w.heap.size w hB.out (Nat.le_refl _) ?_)
  case d1 => rw [hul, hl]; exact (Nat.min_self n).symm
  case d2 =>
    intro hp
    rcases hbl.out.2.2.2 with h0 | ⟨b, off, e, _, hc⟩
    · omega
    · refine ⟨⟨b, off, none⟩, e, fun j v hv => ?_⟩
      have hj : j < l.length := by
        have := (List.getElem?_eq_some_iff.1 hv).1
        omega
      rw [ub_get l hj] at hv
      cases hv
      rw [add_plain]
      exact hc j (by omega)
  case d3 => omega
  intro w2 hg2 hB2
  have ho : Own w2 w.heap.size (.slice (some ⟨w.heap.size, 0, none⟩) n n) n l := by
    refine ⟨hl, hbl.out.2.2.1, by omega, by omega, .inr ⟨w.heap.size, n, _, rfl, Nat.le_refl _, hg2.out, Nat.le_refl _, by unfold maxLen; omega, ?_, ?_⟩⟩
    · simp [splice]; omega
    · simp only [splice, List.take_zero, List.nil_append, Nat.zero_add, Nat.mul_one]
      rw [hul, hl, List.drop_of_length_le (by omega), List.append_nil]
      exact List.take_of_length_le (by omega)
  replace ho := Lib.hid ho
  replace hB2 := Lib.hid hB2
  clear hg hg2 hB hone hul
  replace hl := Lib.hid hl
  go_wp2
  go_ret
  exact Makes.of hl.out ho.out hB2.out

/-! ### What an end tells -/
set_option maxRecDepth 100000 in
theorem epoch_any {col : Nat → Nat} {c p : Nat} {s : St} (w : World) (h : EndAt col c w p s) :
    Calls Try.prog 24 #[.pointer (some ⟨p, 0, none⟩)] w fun e w' => e = .returned (.int .i64 s.ep) ∧ w = w' := by
  obtain ⟨v, m, xs, n, D, h⟩ := h
  obtain ⟨h0, h1, h2, h3, h4⟩ := h.cells
  clear h
  go_enter Try.func24, Try.ntmps24
  go_wp2
  go_ret
  exact ⟨rfl, rfl⟩
set_option maxRecDepth 100000 in
theorem got_any {col : Nat → Nat} {c p : Nat} {s : St} (w : World) (h : EndAt col c w p s) :
    Calls Try.prog 23 #[.pointer (some ⟨p, 0, none⟩)] w fun e w' => e = .returned (.int .i64 s.got) ∧ w = w' := by
  obtain ⟨v, m, xs, n, D, h⟩ := h
  obtain ⟨h0, h1, h2, h3, h4⟩ := h.cells
  clear h
  go_enter Try.func23, Try.ntmps23
  go_wp2
  go_ret
  exact ⟨rfl, rfl⟩
theorem own_form {w : World} {base n sz : Nat} {t : TypeId} {v : Value} {xs : List Value} (h : w.ownsRow base t sz v n xs) : ∃ A c, v = .slice A n c ∧ n ≤ c ∧ c ≤ 9223372036854775807 := by
  rcases h.2 with ⟨rfl, rfl⟩ | ⟨g, cap, cur, rfl, _, _, h1, h2, _⟩
  · exact ⟨none, 0, rfl, by omega, by omega⟩
  · exact ⟨_, cap, rfl, h1, by unfold maxLen at h2; omega⟩
set_option maxRecDepth 100000 in
theorem waiting_any {col : Nat → Nat} {c p : Nat} {s : St} (w : World) (h : EndAt col c w p s) :
    Calls Try.prog 22 #[.pointer (some ⟨p, 0, none⟩)] w fun e w' => e = .returned (.int .i64 s.wait.length) ∧ w = w' := by
  obtain ⟨v, m, xs, n, D, h⟩ := h
  obtain ⟨h0, h1, h2, h3, h4⟩ := h.cells
  obtain ⟨A, cc, rfl, -, -⟩ := own_form h.own
  clear h
  go_enter Try.func22, Try.ntmps22
  go_wp2
  go_ret
  exact ⟨rfl, rfl⟩
set_option maxRecDepth 100000 in
theorem window_any {col : Nat → Nat} {c p : Nat} {s : St} (w : World) (h : EndAt col c w p s) :
    Calls Try.prog 28 #[.pointer (some ⟨p, 0, none⟩)] w fun e w' => e = .returned (.int .i64 (min s.wait.length 16 : Nat)) ∧ w = w' := by
  obtain ⟨v, m, xs, n, D, h⟩ := h
  obtain ⟨h0, h1, h2, h3, h4⟩ := h.cells
  obtain ⟨A, cc, rfl, -, -⟩ := own_form h.own
  have hw := h.ok.wait
  clear h
  generalize s.wait.length = k at *
  by_cases hk : k ≤ 16
  · obtain e : min k 16 = k := by omega
    rw [e]
    clear e
    go_enter Try.func28, Try.ntmps28
    go_wp2
    go_ret
    exact ⟨rfl, rfl⟩
  · obtain e : min k 16 = 16 := by omega
    rw [e]
    clear e
    go_enter Try.func28, Try.ntmps28
    go_wp2
    go_ret
    exact ⟨rfl, rfl⟩

/-! ### Of a nil end -/
set_option maxRecDepth 100000 in
theorem epoch_nil (w : World) : Calls Try.prog 24 #[.pointer none] w fun e w' => e = .returned (.int .i64 0) ∧ w = w' := by
  go_enter Try.func24, Try.ntmps24
  go_wp2
  go_ret
  exact ⟨rfl, rfl⟩
set_option maxRecDepth 100000 in
theorem got_nil (w : World) : Calls Try.prog 23 #[.pointer none] w fun e w' => e = .returned (.int .i64 0) ∧ w = w' := by
  go_enter Try.func23, Try.ntmps23
  go_wp2
  go_ret
  exact ⟨rfl, rfl⟩
set_option maxRecDepth 100000 in
theorem waiting_nil (w : World) : Calls Try.prog 22 #[.pointer none] w fun e w' => e = .returned (.int .i64 0) ∧ w = w' := by
  go_enter Try.func22, Try.ntmps22
  go_wp2
  go_ret
  exact ⟨rfl, rfl⟩
set_option maxRecDepth 100000 in
theorem out_nil (w : World) : Calls Try.prog 20 #[.pointer none] w fun e w' => e = .returned (.slice none 0 0) ∧ w = w' := by
  go_enter Try.func20, Try.ntmps20
  go_wp2
  go_ret
  exact ⟨rfl, rfl⟩
set_option maxRecDepth 100000 in
theorem send_nil (v : Value) (w : World) : Calls Try.prog 12 #[.pointer none, v] w fun e w' => e = .returned (.int .i64 1) ∧ w = w' := by
  go_enter Try.func12, Try.ntmps12
  go_wp2
  go_ret
  exact ⟨rfl, rfl⟩
set_option maxRecDepth 100000 in
theorem in_nil (f : Fm) (A : Option Addr) (c : Nat) (w : World) : Calls Try.prog 14 #[.pointer none, .agg (cf f A c)] w fun e w' => e = .returned (.tuple #[.slice none 0 0, .int .i64 1]) ∧ Below w.heap.size w w' := by
  go_enter Try.func14, Try.ntmps14
  go_wp2
  go_ret2
  exact ⟨rfl, al0 _ _⟩
set_option maxRecDepth 100000 in
theorem note_nil (v : Value) (w : World) : Calls Try.prog 17 #[.pointer none, v] w fun e w' => e = .returned (.agg #[.int .i64 0, .int .i64 0, .int .i64 0, .int .i64 0, .slice none 0 0]) ∧ Below w.heap.size w w' := by
  have hB := Lib.hid (((al0 w (.cells #[.int .i64 0, .int .i64 0, .int .i64 0, .int .i64 0, .slice none 0 0] 31))))
  go_enter Try.func17, Try.ntmps17
  go_wp2
  refine bodyPost_ret (v := .agg #[.int .i64 0, .int .i64 0, .int .i64 0, .int .i64 0, .slice none 0 0]) (by simp [results, Try.results17, go_sem]) rfl ⟨rfl, ?_⟩
  exact hB.out
end Go.Proofs.Ythiadkpndemeeaa.lnkB
