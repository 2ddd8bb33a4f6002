/- The contracts of the small calls on maps that only read: the program's and the document's own answers. -/
import Derived.Test.YtafocefbpkcoaaaSpnA
import Derived.Deep.QuietTactic
import Derived.BigQuiet
set_option linter.unusedVariables false
namespace Go.Proofs.Ytafocefbpkcoaaa.spnB
open Go.ChangeShapes Go.WideShapes Go.ChangeAt Go.RowKit
open spnM spnA
attribute [local go_sem high] bin_slt bin_sle bin_sge bin_seq bin_sne

theorem within_any (key lo hi : ByteArray) (w : World) : Calls Try.prog 43 #[.string key, .string lo, .string hi] w fun e w' => e = .returned (.bool (wth key lo hi)) ∧ w = w' := by
  unfold wth
  cases h1 : slt key lo <;> cases h2 : seq hi emp <;> cases h3 : slt key hi
  all_goals
    go_enter Try.func43, Try.ntmps43
    go_wp2
    go_ret
    exact ⟨rfl, rfl⟩
theorem rwithin_any (key lo hi : ByteArray) (w : World) : Calls Try.prog 38 #[.string key, .string lo, .string hi] w fun e w' => e = .returned (.bool (wth key lo hi)) ∧ w = w' := by
  unfold wth
  cases h1 : slt key lo <;> cases h2 : seq hi emp <;> cases h3 : slt key hi
  all_goals
    go_enter Try.func38, Try.ntmps38
    go_wp2
    go_ret
    exact ⟨rfl, rfl⟩
/-- the box of a map -/
abbrev bx (A1 : Option Addr) (n1 c1 : Nat) (A2 : Option Addr) (n2 c2 : Nat) : Obj := .cells #[.slice A1 n1 c1, .slice A2 n2 c2] 57
theorem fnd_up {l : List ByteArray} {j : Nat} (key : ByteArray) (h : j < l.length) : fnd (l.take (j + 1)) key = fnd (l.take j) key + if sle (nt l j) key = true then 1 else 0 := by
  unfold fnd
  rw [take_nt h, List.countP_append]
  simp
theorem fnd_take (cs : List ByteArray) (key : ByteArray) (j : Nat) : fnd (cs.take j) key ≤ cs.length := by
  have h1 := fnd_le (cs.take j) key
  rw [List.length_take] at h1
  omega
theorem find_any (A1 : Option Addr) (c1 : Nat) (v2 : Value) (cs : List ByteArray) (key : ByteArray) (w : World) (h : RL Value.string w A1 cs.length cs) (hs : cs.length ≤ 140737488351232) :
    Calls Try.prog 41 #[.agg #[.slice A1 cs.length c1, v2], .string key] w fun e w' => e = .returned (.int .i64 (fnd cs key : Nat)) ∧ Below w.heap.size w w' := by
  go_enter Try.func41, Try.ntmps41
  go_wp2
  go_loop [5, 11] (fun s i => ∃ j : Nat, j ≤ cs.length ∧ i = .int .i64 j ∧ s = .int .i64 (fnd (cs.take j) key : Nat)) (fun _ i => cs.length - (intOf i).toNat)
  case atStart => exact ⟨0, Nat.zero_le _, rfl, rfl⟩
  case round =>
    obtain ⟨j, hj, rfl, rfl⟩ := hrel
    have hl := fnd_take cs key j
    by_cases hlt : j < cs.length
    · obtain ⟨b, off, rfl, hb, hc⟩ := h.at hlt
      have hcj := hc j hlt
      have hup := Lib.hid (fnd_up key hlt)
      clear hc
      cases hk : sle (nt cs j) key
      all_goals
        go_wp2
        go_round
        case rel => exact ⟨j + 1, by omega, by go_num, by rw [hup.out, hk]; go_num⟩
        case measure => simp [intOf]; omega
    · obtain rfl : j = cs.length := by omega
      go_wp2
      go_ret
      exact ⟨rfl, al0 _ _⟩
theorem rfind_any (A1 : Option Addr) (c1 : Nat) (v2 : Value) (cs : List ByteArray) (key : ByteArray) (w : World) (h : RL Value.string w A1 cs.length cs) (hs : cs.length ≤ 140737488351232) :
    Calls Try.prog 44 #[.agg #[.slice A1 cs.length c1, v2], .string key] w fun e w' => e = .returned (.int .i64 (fnd cs key : Nat)) ∧ Below w.heap.size w w' := by
  go_enter Try.func44, Try.ntmps44
  go_wp2
  go_loop [5, 6] (fun s i => ∃ j : Nat, j ≤ cs.length ∧ i = .int .i64 j ∧ s = .int .i64 (fnd (cs.take j) key : Nat)) (fun _ i => cs.length - (intOf i).toNat)
  case atStart => exact ⟨0, Nat.zero_le _, rfl, rfl⟩
  case round =>
    obtain ⟨j, hj, rfl, rfl⟩ := hrel
    have hl := fnd_take cs key j
    by_cases hlt : j < cs.length
    · obtain ⟨b, off, rfl, hb, hc⟩ := h.at hlt
      have hcj := hc j hlt
      have hup := Lib.hid (fnd_up key hlt)
      have hsn := Lib.hid (sle_not (nt cs j) key)
      clear hc
      cases hk : slt key (nt cs j)
      all_goals
        go_wp2
        go_round
        case rel => exact ⟨j + 1, by omega, by go_num, by rw [hup.out, hsn.out, hk]; go_num⟩
        case measure => simp [intOf]; omega
    · obtain rfl : j = cs.length := by omega
      go_wp2
      go_ret
      exact ⟨rfl, al0 _ _⟩
/-- is the place among so many? -/
theorem owner_any (A1 : Option Addr) (c1 : Nat) (A2 : Option Addr) (c2 : Nat) (m : M) (key : ByteArray) (w : World) (h : HM w A1 c1 A2 c2 m) :
    Calls Try.prog 28 #[.agg #[.slice A1 m.cs.length c1, .slice A2 m.ns.length c2], .string key] w fun e w' => e = .returned (.int .i64 (own m key)) ∧ Below w.heap.size w w' := by
  have h1 := Lib.hid (h.cs.below (al0 w (.cells #[.slice A1 m.cs.length c1, .slice A2 m.ns.length c2] 57)))
  have hs := Lib.hid (show m.cs.length ≤ 140737488351232 by have := h.s1; omega)
  obtain ⟨p1, p2⟩ := cells2 w (.slice A1 m.cs.length c1) (.slice A2 m.ns.length c2) 57
  have hBw := al0 w (.cells #[.slice A1 m.cs.length c1, .slice A2 m.ns.length c2] 57)
  unfold own
  by_cases hlt : fnd m.cs key < m.ns.length
  · obtain ⟨b, off, rfl, hb, hc⟩ := h.ns.at hlt
    have hcj := hc _ hlt
    have e1 := Lib.hid (show m.ns.getD (fnd m.cs key) 0 = nt m.ns (fnd m.cs key) from rfl)
    rw [if_pos hlt, e1.out]
    generalize hF : fnd m.cs key = F at *
    replace hF := Lib.hid hF
    replace hBw := Lib.hid hBw
    clear h hc p1 p2
    go_enter Try.func28, Try.ntmps28
    go_wp2_with (fail)
    refine (find_any A1 c1 _ m.cs key _ h1.out hs.out).mono ?_
    rintro e w2 ⟨rfl, hB⟩
    obtain ⟨q1, q2⟩ := cells2 w (.slice A1 m.cs.length c1) (.slice (some ⟨b, off, none⟩) m.ns.length c2) 57
    have q3 := keep_cell hB q1
    have q4 := keep_cell hB q2
    have hcj2 := keep_cell hB (keep_cell hBw.out hcj)
    have hB2 := Lib.hid (trans0 hBw.out hB)
    rw [hF.out]
    clear hB q1 q2 hcj
    go_wp2
    go_ret
    exact ⟨rfl, hB2.out⟩
  · rw [if_neg hlt]
    generalize hF : fnd m.cs key = F at *
    replace hF := Lib.hid hF
    replace hBw := Lib.hid hBw
    clear h p1 p2
    go_enter Try.func28, Try.ntmps28
    go_wp2_with (fail)
    refine (find_any A1 c1 _ m.cs key _ h1.out hs.out).mono ?_
    rintro e w2 ⟨rfl, hB⟩
    obtain ⟨q1, q2⟩ := cells2 w (.slice A1 m.cs.length c1) (.slice A2 m.ns.length c2) 57
    have q3 := keep_cell hB q1
    have q4 := keep_cell hB q2
    have hB2 := Lib.hid (trans0 hBw.out hB)
    rw [hF.out]
    clear hB q1 q2
    go_wp2
    go_ret
    exact ⟨rfl, hB2.out⟩
theorem rowner_any (A1 : Option Addr) (c1 : Nat) (A2 : Option Addr) (c2 : Nat) (m : M) (key : ByteArray) (w : World) (h : HM w A1 c1 A2 c2 m) :
    Calls Try.prog 40 #[.agg #[.slice A1 m.cs.length c1, .slice A2 m.ns.length c2], .string key] w fun e w' => e = .returned (.int .i64 (own m key)) ∧ Below w.heap.size w w' := by
  have h1 := Lib.hid (h.cs.below (al0 w (.cells #[.slice A1 m.cs.length c1, .slice A2 m.ns.length c2] 57)))
  have hs := Lib.hid (show m.cs.length ≤ 140737488351232 by have := h.s1; omega)
  obtain ⟨p1, p2⟩ := cells2 w (.slice A1 m.cs.length c1) (.slice A2 m.ns.length c2) 57
  have hBw := al0 w (.cells #[.slice A1 m.cs.length c1, .slice A2 m.ns.length c2] 57)
  unfold own
  by_cases hlt : fnd m.cs key < m.ns.length
  · obtain ⟨b, off, rfl, hb, hc⟩ := h.ns.at hlt
    have hcj := hc _ hlt
    have e1 := Lib.hid (show m.ns.getD (fnd m.cs key) 0 = nt m.ns (fnd m.cs key) from rfl)
    rw [if_pos hlt, e1.out]
    generalize hF : fnd m.cs key = F at *
    replace hF := Lib.hid hF
    replace hBw := Lib.hid hBw
    clear h hc p1 p2
    go_enter Try.func40, Try.ntmps40
    go_wp2_with (fail)
    refine (rfind_any A1 c1 _ m.cs key _ h1.out hs.out).mono ?_
    rintro e w2 ⟨rfl, hB⟩
    obtain ⟨q1, q2⟩ := cells2 w (.slice A1 m.cs.length c1) (.slice (some ⟨b, off, none⟩) m.ns.length c2) 57
    have q3 := keep_cell hB q1
    have q4 := keep_cell hB q2
    have hcj2 := keep_cell hB (keep_cell hBw.out hcj)
    have hB2 := Lib.hid (trans0 hBw.out hB)
    rw [hF.out]
    clear hB q1 q2 hcj
    go_wp2
    go_ret
    exact ⟨rfl, hB2.out⟩
  · rw [if_neg hlt]
    generalize hF : fnd m.cs key = F at *
    replace hF := Lib.hid hF
    replace hBw := Lib.hid hBw
    clear h p1 p2
    go_enter Try.func40, Try.ntmps40
    go_wp2_with (fail)
    refine (rfind_any A1 c1 _ m.cs key _ h1.out hs.out).mono ?_
    rintro e w2 ⟨rfl, hB⟩
    obtain ⟨q1, q2⟩ := cells2 w (.slice A1 m.cs.length c1) (.slice A2 m.ns.length c2) 57
    have q3 := keep_cell hB q1
    have q4 := keep_cell hB q2
    have hB2 := Lib.hid (trans0 hBw.out hB)
    rw [hF.out]
    clear hB q1 q2
    go_wp2
    go_ret
    exact ⟨rfl, hB2.out⟩
end Go.Proofs.Ytafocefbpkcoaaa.spnB
