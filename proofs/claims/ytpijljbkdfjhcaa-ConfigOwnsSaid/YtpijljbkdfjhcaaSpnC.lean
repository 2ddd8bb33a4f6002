/- The contracts of Check, of the document's Check, and of the document's Ends. -/
import Derived.Test.YtpijljbkdfjhcaaSpnB
set_option linter.unusedVariables false
namespace Go.Proofs.Ytpijljbkdfjhcaa.spnC
open Go.ChangeShapes Go.WideShapes Go.ChangeAt Go.RowKit
open spnM spnA spnB
attribute [local go_sem high] bin_slt bin_sle bin_sge bin_seq bin_sne

theorem drop_nt {α : Type} [Inhabited α] {l : List α} {j : Nat} (h : j < l.length) : l.drop j = nt l j :: l.drop (j + 1) := by rw [List.drop_eq_getElem_cons h, nt_at h]
theorem ckc_6 {a c : ByteArray} {r : List ByteArray} (h : 16 < c.size) : ckc a (c :: r) = 6 := by unfold ckc; rw [if_pos h]
theorem ckc_3 {a c : ByteArray} {r : List ByteArray} (h : ¬ 16 < c.size) (h2 : sle c a = true) : ckc a (c :: r) = 3 := by unfold ckc; rw [if_neg h, if_pos h2]
theorem ckc_on {a c : ByteArray} {r : List ByteArray} (h : ¬ 16 < c.size) (h2 : sle c a = false) : ckc a (c :: r) = ckc c r := by
  conv => lhs; unfold ckc
  rw [if_neg h, if_neg (by rw [h2]; decide)]
theorem cuts_any (A1 : Option Addr) (c1 : Nat) (cs : List ByteArray) (w : World) (h : RL Value.string w A1 cs.length cs) (hs : cs.length ≤ 140737488351232) :
    Calls Try.prog 74 #[.slice A1 cs.length c1] w fun e w' => e = .returned (.int .i64 (ckc emp cs : Nat)) ∧ w = w' := by
  go_enter Try.func74, Try.ntmps74
  go_wp2
  go_loop [3, 8] (fun s i => ∃ (j : Nat) (a : ByteArray), j ≤ cs.length ∧ i = .int .i64 j ∧ s = .string a ∧ Hid (ckc emp cs = ckc a (cs.drop j))) (fun _ i => cs.length - (intOf i).toNat)
  case atStart => exact ⟨0, _, Nat.zero_le _, rfl, rfl, Lib.hid rfl⟩
  case round =>
    obtain ⟨j, a, hj, rfl, rfl, hck⟩ := hrel
    by_cases hlt : j < cs.length
    · obtain ⟨b, off, rfl, hb, hc⟩ := h.at hlt
      have hcj := hc j hlt
      have hdr := Lib.hid (drop_nt hlt)
      clear hc
      generalize nt cs j = c at *
      by_cases h1 : 16 < c.size
      · have e := Lib.hid (ckc_6 (a := a) (r := cs.drop (j + 1)) h1)
        have h1' : (16 : Int) < (c.size : Int) := by omega
        go_wp2
        go_ret
        exact ⟨by rw [hck.out, hdr.out, e.out]; rfl, rfl⟩
      · have h1' : ¬ (16 : Int) < (c.size : Int) := by omega
        cases h2 : sle c a
        · have e := Lib.hid (ckc_on (r := cs.drop (j + 1)) h1 h2)
          go_wp2
          go_round
          case rel => exact ⟨j + 1, c, by omega, by go_num, rfl, Lib.hid (by rw [hck.out, hdr.out, e.out])⟩
          case measure => simp [intOf]; omega
        · have e := Lib.hid (ckc_3 (r := cs.drop (j + 1)) h1 h2)
          go_wp2
          go_ret
          exact ⟨by rw [hck.out, hdr.out, e.out]; rfl, rfl⟩
    · obtain rfl : j = cs.length := by omega
      have e : Hid (ckc emp cs = 0) := Lib.hid (by rw [hck.out, List.drop_length]; rfl)
      go_wp2
      go_ret
      exact ⟨by rw [e.out]; rfl, rfl⟩
theorem all_up {k : Int} {l : List Int} {j : Nat} (h : j < l.length) : (l.drop j).all (isN · k) = (isN (nt l j) k && (l.drop (j + 1)).all (isN · k)) := by rw [drop_nt h]; rfl
theorem chk_1 {m : M} {k : Int} (h : k < 1 ∨ 4 < k) : chk m k = 1 := by unfold chk; rw [if_pos h]
theorem chk_9 {m : M} {k : Int} (h : ¬ (k < 1 ∨ 4 < k)) (h2 : 8 < m.ns.length) : chk m k = 9 := by unfold chk; rw [if_neg h, if_pos h2]
theorem chk_3 {m : M} {k : Int} (h : ¬ (k < 1 ∨ 4 < k)) (h2 : ¬ 8 < m.ns.length) (h3 : has m = false) : chk m k = 3 := by unfold chk; rw [if_neg h, if_neg h2, if_pos (by unfold has at h3; simpa using h3)]
theorem chk_c {m : M} {k : Int} (h : ¬ (k < 1 ∨ 4 < k)) (h2 : ¬ 8 < m.ns.length) (h3 : has m = true) (h4 : ¬ ckc emp m.cs = 0) : chk m k = ckc emp m.cs := by
  unfold chk; rw [if_neg h, if_neg h2, if_neg (by rw [Decidable.not_not]; exact (has_iff m).1 h3), if_pos h4]
theorem chk_n {m : M} {k : Int} (h : ¬ (k < 1 ∨ 4 < k)) (h2 : ¬ 8 < m.ns.length) (h3 : has m = true) (h4 : ckc emp m.cs = 0) : chk m k = if m.ns.all (isN · k) = true then 0 else 7 := by
  unfold chk; rw [if_neg h, if_neg h2, if_neg (by rw [Decidable.not_not]; exact (has_iff m).1 h3), if_neg (by omega)]
set_option maxHeartbeats 1000000 in
theorem check_any (A1 : Option Addr) (c1 : Nat) (A2 : Option Addr) (c2 : Nat) (m : M) (k : Int) (w : World) (h : HM w A1 c1 A2 c2 m) :
    Calls Try.prog 66 #[.agg #[.slice A1 m.cs.length c1, .slice A2 m.ns.length c2], .int .i64 k] w fun e w' => e = .returned (.int .i64 (chk m k : Nat)) ∧ Below w.heap.size w w' := by
  have hBw := al0 w (.cells #[.slice A1 m.cs.length c1, .slice A2 m.ns.length c2] 26)
  by_cases h1 : k < 1 ∨ 4 < k
  · have hE := Lib.hid (chk_1 (m := m) h1)
    have h1' : k < 1 ∨ (¬ k < 1 ∧ 4 < k) := by omega
    clear h1
    rcases h1' with h1 | ⟨h1, h1'⟩
    all_goals
      go_enter Try.func66, Try.ntmps66
      go_wp2
      go_ret
      exact ⟨by rw [hE.out]; rfl, al0 _ _⟩
  · have g1 : ¬ k < 1 := by omega
    have g2 : ¬ 4 < k := by omega
    by_cases h2 : 8 < m.ns.length
    · have hE := Lib.hid (chk_9 (m := m) h1 h2)
      have h2' : (8 : Int) < (m.ns.length : Int) := by omega
      clear h1 h2
      go_enter Try.func66, Try.ntmps66
      go_wp2
      go_ret
      exact ⟨by rw [hE.out]; rfl, al0 _ _⟩
    · have h2' : ¬ (8 : Int) < (m.ns.length : Int) := by omega
      have hh := Lib.hid (has_any A1 c1 A2 c2 m (w.alloc (.cells #[.slice A1 m.cs.length c1, .slice A2 m.ns.length c2] 26)) (by have := h.s1; omega) (by have := h.s2; omega))
      obtain ⟨p1, p2⟩ := cells2 w (.slice A1 m.cs.length c1) (.slice A2 m.ns.length c2) 26
      have hS : Hid (∀ w2, Below (w.alloc (.cells #[.slice A1 m.cs.length c1, .slice A2 m.ns.length c2] 26)).heap.size (w.alloc (.cells #[.slice A1 m.cs.length c1, .slice A2 m.ns.length c2] 26)) w2 →
          w2.cell? ⟨w.heap.size, 0, none⟩ = some (.slice A1 m.cs.length c1) ∧ w2.cell? ⟨w.heap.size, 1, none⟩ = some (.slice A2 m.ns.length c2) ∧ HM w2 A1 c1 A2 c2 m ∧ Below w.heap.size w w2) :=
        Lib.hid fun w2 hB => ⟨keep_cell hB p1, keep_cell hB p2, (h.below hBw).below hB, trans0 hBw hB⟩
      have hn8 : m.ns.length ≤ 8 := by omega
      have hs := Lib.hid (show m.cs.length ≤ 140737488351232 by have := h.s1; omega)
      cases h3 : has m
      · have hE := Lib.hid (chk_3 (m := m) h1 h2 h3)
        rw [h3] at hh
        clear h1 h2 h3 h p1 p2 hBw
        go_enter Try.func66, Try.ntmps66
        go_wp2_with (fail)
        refine hh.out.mono ?_
        rintro e w2 ⟨rfl, hB⟩
        obtain ⟨q1, q2, q3, q4⟩ := hS.out _ hB
        replace q4 := Lib.hid q4
        clear q3 hB
        go_wp2
        go_ret
        exact ⟨by rw [hE.out]; rfl, q4.out⟩
      · rw [h3] at hh
        by_cases h4 : ckc emp m.cs = 0
        · have hE := Lib.hid (chk_n (m := m) h1 h2 h3 h4)
          replace h4 := Lib.hid h4
          clear h1 h2 h3 h p1 p2 hBw
          go_enter Try.func66, Try.ntmps66
          go_wp2_with (fail)
          refine hh.out.mono ?_
          rintro e w2 ⟨rfl, hB⟩
          obtain ⟨q1, q2, q3, q4⟩ := hS.out _ hB
          replace q4 := Lib.hid q4
          have q3c := Lib.hid q3.cs
          have q3n := Lib.hid q3.ns
          clear q3 hB
          go_wp2_with (fail)
          refine (cuts_any A1 c1 m.cs w2 q3c.out hs.out).mono ?_
          rintro e w3 ⟨rfl, rfl⟩
          rw [h4.out]
          go_wp2
          go_loop [33] (fun i => ∃ j : Nat, j ≤ m.ns.length ∧ i = .int .i64 j ∧ Hid (m.ns.all (isN · k) = (m.ns.drop j).all (isN · k))) (fun i => m.ns.length - (intOf i).toNat)
          case atStart => exact ⟨0, Nat.zero_le _, rfl, Lib.hid rfl⟩
          case round =>
            obtain ⟨j, hj, rfl, hal⟩ := hrel
            by_cases hlt : j < m.ns.length
            · obtain ⟨b, off, rfl, hb, hc⟩ := q3n.out.at hlt
              have hcj := hc j hlt
              have hup := Lib.hid (all_up (k := k) hlt)
              clear hc
              generalize nt m.ns j = x at *
              cases hx : isN x k
              · go_wp2_with (go_at_call 65; ((with_reducible refine (isNode_any _ _ _).mono ?_); rintro e w' ⟨rfl, rfl⟩))
                go_ret
                exact ⟨by rw [hE.out, hal.out, hup.out, hx]; rfl, q4.out⟩
              · go_wp2_with (go_at_call 65; ((with_reducible refine (isNode_any _ _ _).mono ?_); rintro e w' ⟨rfl, rfl⟩))
                go_round
                case rel => exact ⟨j + 1, by omega, by go_num, Lib.hid (by rw [hal.out, hup.out, hx]; rfl)⟩
                case measure => simp [intOf]; omega
            · obtain rfl : j = m.ns.length := by omega
              go_wp2
              go_ret
              exact ⟨by rw [hE.out, hal.out, List.drop_length]; rfl, q4.out⟩
        · have hE := Lib.hid (chk_c (m := m) h1 h2 h3 h4)
          have h4' : ((ckc emp m.cs : Int) != 0) = true := by rw [bne_iff_ne]; omega
          clear h1 h2 h3 h p1 p2 hBw h4
          go_enter Try.func66, Try.ntmps66
          go_wp2_with (fail)
          refine hh.out.mono ?_
          rintro e w2 ⟨rfl, hB⟩
          obtain ⟨q1, q2, q3, q4⟩ := hS.out _ hB
          replace q4 := Lib.hid q4
          have q3c := Lib.hid q3.cs
          clear q3 hB
          go_wp2_with (go_at_call 74; ((with_reducible refine (cuts_any A1 c1 m.cs w2 q3c.out hs.out).mono ?_); rintro e w' ⟨rfl, rfl⟩))
          go_ret
          exact ⟨by rw [hE.out]; rfl, q4.out⟩
set_option maxHeartbeats 1000000 in
set_option maxRecDepth 100000 in
theorem rcheck_any (A1 : Option Addr) (c1 : Nat) (A2 : Option Addr) (c2 : Nat) (m : M) (k : Int) (w : World) (h : HM w A1 c1 A2 c2 m) :
    Calls Try.prog 21 #[.agg #[.slice A1 m.cs.length c1, .slice A2 m.ns.length c2], .int .i64 k] w fun e w' => e = .returned (.int .i64 (chk m k : Nat)) ∧ Below w.heap.size w w' := by
  by_cases h1 : k < 1 ∨ 4 < k
  · have hE := Lib.hid (chk_1 (m := m) h1)
    have h1' : k < 1 ∨ (¬ k < 1 ∧ 4 < k) := by omega
    clear h1
    rcases h1' with h1 | ⟨h1, h1'⟩
    all_goals
      go_enter Try.func21, Try.ntmps21
      go_wp2
      go_ret
      exact ⟨by rw [hE.out]; rfl, al0 _ _⟩
  · have g1 : ¬ k < 1 := by omega
    have g2 : ¬ 4 < k := by omega
    by_cases h2 : 8 < m.ns.length
    · have hE := Lib.hid (chk_9 (m := m) h1 h2)
      have h2' : (8 : Int) < (m.ns.length : Int) := by omega
      clear h1 h2
      go_enter Try.func21, Try.ntmps21
      go_wp2
      go_ret
      exact ⟨by rw [hE.out]; rfl, al0 _ _⟩
    · have h2' : ¬ (8 : Int) < (m.ns.length : Int) := by omega
      have hs : m.cs.length ≤ 140737488351232 := by have := h.s1; omega
      cases h3 : has m
      · have hE := Lib.hid (chk_3 (m := m) h1 h2 h3)
        have h3' : ((m.ns.length : Int) != (m.cs.length : Int) + 1) = true := by
          rw [bne_iff_ne]
          intro e
          rw [(has_iff m).2 (by omega)] at h3; cases h3
        clear h1 h2 h3 h
        go_enter Try.func21, Try.ntmps21
        go_wp2
        go_ret
        exact ⟨by rw [hE.out]; rfl, al0 _ _⟩
      · have h3' : ((m.ns.length : Int) != (m.cs.length : Int) + 1) = false := by
          rw [bne_eq_false_iff_eq]
          have := (has_iff m).1 h3
          omega
        have hC := Lib.hid (fun h4 => chk_c (m := m) h1 h2 h3 h4)
        have hN := Lib.hid (fun h4 => chk_n (m := m) h1 h2 h3 h4)
        replace h2 : m.ns.length ≤ 8 := by omega
        replace h := Lib.hid h
        clear h1 h3
        go_enter Try.func21, Try.ntmps21
        go_wp2
        go_loop [5, 6] (fun s i => ∃ (j : Nat) (a : ByteArray), j ≤ m.cs.length ∧ i = .int .i64 j ∧ s = .string a ∧ Hid (ckc emp m.cs = ckc a (m.cs.drop j))) (fun _ i => m.cs.length - (intOf i).toNat)
        case atStart => exact ⟨0, _, Nat.zero_le _, rfl, rfl, Lib.hid rfl⟩
        case round =>
          obtain ⟨j, a, hj, rfl, rfl, hck⟩ := hrel
          by_cases hlt : j < m.cs.length
          · obtain ⟨b, off, rfl, hb, hc⟩ := h.out.cs.at hlt
            have hcj := hc j hlt
            have hdr := Lib.hid (drop_nt hlt)
            clear hc
            generalize nt m.cs j = c at *
            by_cases h1 : 16 < c.size
            · have hE := Lib.hid (ckc_6 (a := a) (r := m.cs.drop (j + 1)) h1)
              have h1' : (16 : Int) < (c.size : Int) := by omega
              go_wp2
              go_ret
              have hz : ckc emp m.cs = 6 := by rw [hck.out, hdr.out, hE.out]
              exact ⟨by rw [hC.out (by omega), hz]; rfl, al0 _ _⟩
            · have h1' : ¬ (16 : Int) < (c.size : Int) := by omega
              cases h2 : sle c a
              · have hE := Lib.hid (ckc_on (r := m.cs.drop (j + 1)) h1 h2)
                go_wp2
                go_round
                case rel => exact ⟨j + 1, c, by omega, by go_num, rfl, Lib.hid (by rw [hck.out, hdr.out, hE.out])⟩
                case measure => simp [intOf]; omega
              · have hE := Lib.hid (ckc_3 (r := m.cs.drop (j + 1)) h1 h2)
                go_wp2
                go_ret
                have hz : ckc emp m.cs = 3 := by rw [hck.out, hdr.out, hE.out]
                exact ⟨by rw [hC.out (by omega), hz]; rfl, al0 _ _⟩
          · obtain rfl : j = m.cs.length := by omega
            have hE := Lib.hid (hN.out (by rw [hck.out, List.drop_length]; rfl))
            go_wp2
            go_loop [7] (fun i => ∃ j : Nat, j ≤ m.ns.length ∧ i = .int .i64 j ∧ Hid (m.ns.all (isN · k) = (m.ns.drop j).all (isN · k))) (fun i => m.ns.length - (intOf i).toNat)
            case atStart => exact ⟨0, Nat.zero_le _, rfl, Lib.hid rfl⟩
            case round =>
              obtain ⟨j, hj, rfl, hal⟩ := hrel
              by_cases hlt : j < m.ns.length
              · obtain ⟨b, off, rfl, hb, hc⟩ := h.out.ns.at hlt
                have hcj := hc j hlt
                have hup := Lib.hid (all_up (k := k) hlt)
                clear hc
                generalize nt m.ns j = x at *
                by_cases hx0 : x < 0
                · have hx : isN x k = false := by unfold isN; simp; omega
                  go_wp2
                  go_ret
                  exact ⟨by rw [hE.out, hal.out, hup.out, hx]; rfl, al0 _ _⟩
                · by_cases hx1 : k ≤ x
                  · have hx : isN x k = false := by unfold isN; simp; omega
                    go_wp2
                    go_ret
                    exact ⟨by rw [hE.out, hal.out, hup.out, hx]; rfl, al0 _ _⟩
                  · have hx : isN x k = true := by rw [isN_iff]; omega
                    go_wp2
                    go_round
                    case rel => exact ⟨j + 1, by omega, by go_num, Lib.hid (by rw [hal.out, hup.out, hx]; rfl)⟩
                    case measure => simp [intOf]; omega
              · obtain rfl : j = m.ns.length := by omega
                go_wp2
                go_ret
                exact ⟨by rw [hE.out, hal.out, List.drop_length]; rfl, al0 _ _⟩
/-- The document's Ends. -/
theorem ends_any (A1 : Option Addr) (c1 : Nat) (A2 : Option Addr) (c2 : Nat) (m : M) (i : Int) (w : World) (h : HM w A1 c1 A2 c2 m) (h0 : -9223372036854775808 ≤ i) (h9 : i ≤ 9223372036854775807) :
    Calls Try.prog 46 #[.agg #[.slice A1 m.cs.length c1, .slice A2 m.ns.length c2], .int .i64 i] w fun e w' =>
      e = .returned (.tuple #[.string (if there m i = true then lo m i.toNat else emp), .string (if there m i = true then hi m i.toNat else emp), .bool (there m i)]) ∧ Below w.heap.size w w' := by
  have hs : m.cs.length ≤ 140737488351232 := by have := h.s1; omega
  have hs2 : m.ns.length ≤ 140737488351232 := by have := h.s2; omega
  cases h3 : there m i
  · have h1 : ((m.ns.length : Int) != (m.cs.length : Int) + 1) = true ∨ (((m.ns.length : Int) != (m.cs.length : Int) + 1) = false ∧ i < 0) ∨ (((m.ns.length : Int) != (m.cs.length : Int) + 1) = false ∧ ¬ i < 0 ∧ (m.ns.length : Int) ≤ i) := by
      by_cases h4 : m.ns.length = m.cs.length + 1
      · have e : ((m.ns.length : Int) != (m.cs.length : Int) + 1) = false := by rw [bne_eq_false_iff_eq]; omega
        by_cases h5 : i < 0
        · exact .inr (.inl ⟨e, h5⟩)
        · refine .inr (.inr ⟨e, h5, ?_⟩)
          cases Int.lt_or_le i m.ns.length with
          | inl h6 => rw [(there_iff m i).2 ⟨h4, by omega, h6⟩] at h3; cases h3
          | inr h6 => exact h6
      · exact .inl (by rw [bne_iff_ne]; omega)
    clear h h3
    rcases h1 with h1 | ⟨h1, h2⟩ | ⟨h1, h2, h4⟩
    all_goals
      go_enter Try.func46, Try.ntmps46
      go_wp2
      go_ret3
      exact ⟨rfl, al0 _ _⟩
  · obtain ⟨h4, h5, h6⟩ := (there_iff m i).1 h3
    obtain ⟨j, rfl⟩ : ∃ j : Nat, i = j := ⟨i.toNat, by omega⟩
    have h1 : ((m.ns.length : Int) != (m.cs.length : Int) + 1) = false := by rw [bne_eq_false_iff_eq]; omega
    rw [if_pos rfl, if_pos rfl]
    show Calls _ _ _ _ fun e w' => e = .returned (.tuple #[.string (spnM.lo m j), .string (spnM.hi m j), .bool true]) ∧ _
    clear h3
    unfold spnM.lo spnM.hi
    by_cases hl : 0 < j <;> by_cases hh : j < m.cs.length
    · obtain ⟨b, off, rfl, hb, hc⟩ := h.cs.at hh
      have hc1 := hc j hh
      have hc2 := hc (j - 1) (by omega)
      have e1 : ((j - 1 : Nat) : Int) = (j : Int) - 1 := by omega
      have e2 := Lib.hid e1
      rw [if_pos hl, if_pos hh]
      clear hc h e1
      have g0 : (0 : Int) < (j : Int) := by omega
      have g1 : (j : Int) < (m.cs.length : Int) := by omega
      have g2 : ((j : Int) - 1).toNat = j - 1 := by omega
      have hE : Hid (m.cs.getD (j - 1) default = nt m.cs (j - 1) ∧ m.cs.getD j default = nt m.cs j) := Lib.hid ⟨rfl, rfl⟩
      rw [hE.out.1, hE.out.2]
      generalize nt m.cs (j - 1) = x at *
      generalize nt m.cs j = y at *
      go_enter Try.func46, Try.ntmps46
      go_wp2
      go_ret3
      exact ⟨rfl, al0 _ _⟩
    · obtain ⟨b, off, rfl, hb, hc⟩ := h.cs.at (i := j - 1) (by omega)
      have hc2 := hc (j - 1) (by omega)
      rw [if_pos hl, if_neg hh]
      clear hc h
      have g0 : (0 : Int) < (j : Int) := by omega
      have g1 : ¬ (j : Int) < (m.cs.length : Int) := by omega
      have g2 : ((j : Int) - 1).toNat = j - 1 := by omega
      have hE : Hid (m.cs.getD (j - 1) default = nt m.cs (j - 1)) := Lib.hid rfl
      rw [hE.out]
      generalize nt m.cs (j - 1) = x at *
      go_enter Try.func46, Try.ntmps46
      go_wp2
      go_ret3
      exact ⟨rfl, al0 _ _⟩
    · obtain ⟨b, off, rfl, hb, hc⟩ := h.cs.at hh
      have hc1 := hc j hh
      rw [if_neg hl, if_pos hh]
      clear hc h
      have g0 : ¬ (0 : Int) < (j : Int) := by omega
      have g1 : (j : Int) < (m.cs.length : Int) := by omega
      have hE : Hid (m.cs.getD j default = nt m.cs j) := Lib.hid rfl
      rw [hE.out]
      generalize nt m.cs j = y at *
      go_enter Try.func46, Try.ntmps46
      go_wp2
      go_ret3
      exact ⟨rfl, al0 _ _⟩
    · rw [if_neg hl, if_neg hh]
      clear h
      have g0 : ¬ (0 : Int) < (j : Int) := by omega
      have g1 : ¬ (j : Int) < (m.cs.length : Int) := by omega
      go_enter Try.func46, Try.ntmps46
      go_wp2
      go_ret3
      exact ⟨rfl, al0 _ _⟩
end Go.Proofs.Ytpijljbkdfjhcaa.spnC
