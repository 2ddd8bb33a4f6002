/- The contract of Check, of the document's own answer. -/
import Derived.Test.YtkbhmeajgmecoaaWirB
namespace Go.Proofs.Ytkbhmeajgmecoaa.wirC
open Go.ChangeShapes Go.WideShapes Go.ChangeAt Go.RowKit
open numM numN rowA byt numA numB numC numD numE wirM wirA wirB

theorem chkV_ways (v : Vr) : (16 < v.key.size ∧ Hid (chkV v = 6)) ∨ (v.key.size ≤ 16 ∧ 64 < v.val.size ∧ Hid (chkV v = 6)) ∨ (v.key.size ≤ 16 ∧ v.val.size ≤ 64 ∧ v.dc < 0 ∧ Hid (chkV v = 1)) ∨
    (v.key.size ≤ 16 ∧ v.val.size ≤ 64 ∧ 0 ≤ v.dc ∧ 3 < v.dc ∧ Hid (chkV v = 1)) ∨ (v.key.size ≤ 16 ∧ v.val.size ≤ 64 ∧ 0 ≤ v.dc ∧ v.dc ≤ 3 ∧ v.tx < 0 ∧ Hid (chkV v = 1)) ∨
    (v.key.size ≤ 16 ∧ v.val.size ≤ 64 ∧ 0 ≤ v.dc ∧ v.dc ≤ 3 ∧ 0 ≤ v.tx ∧ 1073741824 < v.tx ∧ Hid (chkV v = 1)) ∨
    (v.key.size ≤ 16 ∧ v.val.size ≤ 64 ∧ 0 ≤ v.dc ∧ v.dc ≤ 3 ∧ 0 ≤ v.tx ∧ v.tx ≤ 1073741824 ∧ Hid (chkV v = 0)) := by
  have e : chkV v = if 16 < v.key.size ∨ 64 < v.val.size then 6 else if v.dc < 0 ∨ 3 < v.dc ∨ v.tx < 0 ∨ 1073741824 < v.tx then 1 else 0 := rfl
  generalize chkV v = x at *
  subst e
  by_cases h1 : 16 < v.key.size
  · exact .inl ⟨h1, if_pos (.inl h1)⟩
  refine .inr ?_
  by_cases h2 : 64 < v.val.size
  · exact .inl ⟨by omega, h2, if_pos (.inr h2)⟩
  refine .inr ?_
  rw [if_neg (by omega)]
  by_cases h3 : v.dc < 0
  · exact .inl ⟨by omega, by omega, h3, if_pos (.inl h3)⟩
  refine .inr ?_
  by_cases h4 : 3 < v.dc
  · exact .inl ⟨by omega, by omega, by omega, h4, if_pos (.inr (.inl h4))⟩
  refine .inr ?_
  by_cases h5 : v.tx < 0
  · exact .inl ⟨by omega, by omega, by omega, by omega, h5, if_pos (.inr (.inr (.inl h5)))⟩
  refine .inr ?_
  by_cases h6 : 1073741824 < v.tx
  · exact .inl ⟨by omega, by omega, by omega, by omega, by omega, h6, if_pos (.inr (.inr (.inr h6)))⟩
  · exact .inr ⟨by omega, by omega, by omega, by omega, by omega, by omega, if_neg (by omega)⟩

/-- behind the versions: what is left of Check -/
theorem dropR {w wr w2 : World} (h1 : Hid (Below w.heap.size w wr)) (h2 : Below wr.heap.size wr w2) : Below w.heap.size w w2 := h1.out.trans (h2.mono h1.out.size)

set_option maxRecDepth 100000 in
set_option maxHeartbeats 2000000 in
theorem rcheck_rest (m : Ms) (t : At) (w : World) (h : HM w m t) (k1 : 1 ≤ m.kind) (k2 : m.kind ≤ 26) (k3 : m.lo.size ≤ 16) (k4 : m.hi.size ≤ 16) (k5 : m.vers.length ≤ 4096) (r : Nat)
    (hr : r = if chkVs m.vers ≠ 0 then chkVs m.vers else if 32 < m.vec.length then 6 else chkC m.cmd) :
    Calls Try.prog 18 #[.agg (cm m t)] w fun e w' => e = .returned (.int .i64 r) ∧ Below w.heap.size w w' := by
  replace hr := Lib.hid hr
  have hcf := h.fits.2.2.2.2.2.2.2.2
  have hvl := Lib.hid h.vers
  have hv7 := h.vec.2.1
  obtain ⟨va, vc, na, nc⟩ := t
  replace hvl : Hid (VL w va m.vers.length m.vers) := hvl
  replace hcf := Lib.hid hcf
  clear h
  go_enter Try.func18, Try.ntmps18
  go_wp2
  all_goals (try (exfalso; omega))
  have hbox0 := Lib.hid (Box.new w (cm m ⟨va, vc, na, nc⟩) 28)
  have hB0 := Lib.hid ((Below.refl w.heap.size w).alloc (Nat.le_refl _) (.cells (cm m ⟨va, vc, na, nc⟩) 28))
  go_loopw [3] (fun i wr => ∃ k : Nat, k ≤ m.vers.length ∧ i = .int .i64 k ∧ Hid (chkVs m.vers = chkVs (m.vers.drop k)) ∧ Hid (Box wr w.heap.size (cm m ⟨va, vc, na, nc⟩) 28) ∧ Hid (Below w.heap.size w wr)) (fun i _ => m.vers.length - (intOf i).toNat)
  case atStart => exact ⟨0, by omega, rfl, rfl, hbox0, hB0⟩
  case round =>
    obtain ⟨k, hk, rfl, hch, hbox, hB⟩ := hrel
    by_cases hlt : k < m.vers.length
    · obtain ⟨b, off, rfl, hbl, hvc⟩ := (hvl.out.step hB.out (Nat.le_refl _)).at hlt
      have c06 : wr.cell? ⟨w.heap.size, 6, none⟩ = some (.slice (some ⟨b, off, none⟩) m.vers.length vc) := hbox.out.at 6
      have hch2 := chkVs_at hlt hch.out
      rw [← vth_eq hlt] at hch2
      generalize vth m.vers k = v at *
      replace hch2 := Lib.hid hch2
      obtain ⟨c1, c2, c3, c4, c5, c6⟩ := hvc
      have hBs := Lib.hid ((Below.refl wr.heap.size wr).alloc (Nat.le_refl _) (.cells (cv v) 51))
      have hz := Lib.hid hB.out.size
      clear hch
      rcases chkV_ways v with ⟨d1, hv⟩ | ⟨d1, d2, hv⟩ | ⟨d1, d2, d3, hv⟩ | ⟨d1, d2, d3, d4, hv⟩ | ⟨d1, d2, d3, d4, d5, hv⟩ | ⟨d1, d2, d3, d4, d5, d6, hv⟩ | ⟨d1, d2, d3, d4, d5, d6, hv⟩
      case inr.inr.inr.inr.inr.inr =>
        have hch3 := Lib.hid (hch2.out.trans (if_pos hv.out))
        clear hch2
        go_wp2
        all_goals (try (exfalso; omega))
        all_goals
          go_roundw
          case rel => exact ⟨k + 1, by omega, by go_num, hch3, hbox.out.below hBs.out, hB.out.trans (hBs.out.mono hz.out)⟩
          case measure => simp [intOf]; omega
      all_goals
        have hch3 := Lib.hid (hch2.out.trans (if_neg (by rw [hv.out]; decide)))
        have hfin := Lib.hid (hr.out.trans (if_pos (by rw [hch3.out, hv.out]; decide)))
        clear hch2
        go_wp2
        all_goals (try (exfalso; omega))
        all_goals
          go_ret
          exact ⟨ret_eq (by rw [hfin.out, hch3.out, hv.out]; rfl), hB.out.trans (hBs.out.mono hz.out)⟩
    · obtain rfl : k = m.vers.length := by omega
      have hr2 := hr.out.trans (if_neg (by rw [hch.out, List.drop_length]; simp [chkVs]))
      have hbx := hbox.out.msg
      obtain ⟨c0, c1, c2, c3, c4, c5, c6, c7, c8, c9, c10, c11, c12, c13⟩ := hbx
      have hz := Lib.hid hB.out.size
      clear hch
      by_cases hl : 32 < m.vec.length
      · replace hr2 := Lib.hid (hr2.trans (if_pos hl))
        go_wp2
        go_ret
        exact ⟨ret_eq (by rw [hr2.out]; rfl), hB.out⟩
      · replace hr2 := Lib.hid (hr2.trans (if_neg hl))
        go_wp2_with ((go_at_call 35; ((with_reducible refine (rnums_any m.cmd _).mono ?_); rintro e w2 ⟨g, rfl, hg1, hg2, hgc, hB2⟩)))
        have hbox2 := hbox.out.below hB2
        have f5 : w2.cell? ⟨w.heap.size, 13, none⟩ = some (.string m.cmd.key) := hbox2.at 13
        replace hgc := Lib.hid hgc
        replace hB2 := Lib.hid (dropR hB hB2)
        clear hbox2 c0 c1 c2 c3 c4 c5 c6 c7 c8 c9 c10 c11 c12 c13 hB0 hbox0 hvl
        go_loop [6] (fun i => ∃ k : Nat, k ≤ 5 ∧ Hid (∀ j, j < k → outB (nat m.cmd j) = false) ∧ i = .int .i64 k) (fun i => 5 - (intOf i).toNat)
        case atStart => exact ⟨0, by omega, by intro j hj; omega, rfl⟩
        case round =>
          obtain ⟨k, hk5, hall, rfl⟩ := hrel
          by_cases hlt : k < 5
          · have hidx := hgc.out k hlt
            obtain ⟨b1, b2⟩ := nat_in hcf.out k hlt
            have hv : outB (nat m.cmd k) = (decide (nat m.cmd k < 0) || decide (255 < nat m.cmd k)) := rfl
            have h1 := Lib.hid (@chkC_1 m.cmd k hlt)
            generalize hxe : nat m.cmd k = x at *
            replace hxe := Lib.hid hxe
            by_cases hx : x < 0
            · have hfin := Lib.hid (h1.out (by rw [hv]; simp [hx]))
              clear hv
              go_wp2
              go_ret
              exact ⟨ret_eq (by rw [hr2.out, hfin.out]; rfl), hB2.out⟩
            · by_cases hx2 : 255 < x
              · have hfin := Lib.hid (h1.out (by rw [hv]; simp [hx2]))
                clear hv
                go_wp2
                go_ret
                exact ⟨ret_eq (by rw [hr2.out, hfin.out]; rfl), hB2.out⟩
              · have hn := Lib.hid (hv.trans (by simp [hx, hx2]) : outB _ = false)
                clear hv
                go_wp2
                go_round
                case rel => exact ⟨k + 1, by omega, by
                  intro j hj
                  by_cases e : j = k
                  · subst e; rw [hxe.out]; exact hn.out
                  · exact hall.out j (by omega), by go_num⟩
                case measure => simp [intOf]; omega
          · obtain rfl : k = 5 := by omega
            have h5 := chkC_5 hall.out
            by_cases h6 : 16 < m.cmd.key.size
            · rw [if_pos h6] at h5
              replace h5 := Lib.hid h5
              go_wp2
              go_ret
              exact ⟨ret_eq (by rw [hr2.out, h5.out]; rfl), hB2.out⟩
            · rw [if_neg h6] at h5
              replace h5 := Lib.hid h5
              go_wp2
              go_ret
              exact ⟨ret_eq (by rw [hr2.out, h5.out]; rfl), hB2.out⟩
set_option maxRecDepth 100000 in
theorem rcheck_any (m : Ms) (t : At) (w : World) (h : HM w m t) :
    Calls Try.prog 18 #[.agg (cm m t)] w fun e w' => e = .returned (.int .i64 (chk m)) ∧ Below w.heap.size w w' := by
  have hr : chk m = if m.kind < 1 ∨ 26 < m.kind then 5 else if 16 < m.lo.size ∨ 16 < m.hi.size ∨ 4096 < m.vers.length then 6
    else if chkVs m.vers ≠ 0 then chkVs m.vers else if 32 < m.vec.length then 6 else chkC m.cmd := rfl
  have hlen : m.vers.length ≤ 9223372036854775807 := h.vers.2.1
  generalize chk m = r at *
  replace hr := Lib.hid hr
  replace h := Lib.hid h
  by_cases h1 : m.kind < 1 ∨ 26 < m.kind
  · have hfin := Lib.hid (hr.out.trans (if_pos h1))
    by_cases h2 : m.kind < 1
    all_goals
      go_enter Try.func18, Try.ntmps18
      go_wp2
      all_goals (try (exfalso; omega))
      all_goals
        go_ret
        exact ⟨ret_eq (by rw [hfin.out]; rfl), (Below.refl _ _).alloc (Nat.le_refl _) _⟩
  · replace hr := Lib.hid (hr.out.trans (if_neg h1))
    have k1 : 1 ≤ m.kind := by omega
    have k2 : m.kind ≤ 26 := by omega
    clear h1
    by_cases h2 : 16 < m.lo.size ∨ 16 < m.hi.size ∨ 4096 < m.vers.length
    · have hfin := Lib.hid (hr.out.trans (if_pos h2))
      by_cases h3 : 16 < m.lo.size
      · clear h2
        go_enter Try.func18, Try.ntmps18
        go_wp2
        all_goals (try (exfalso; omega))
        all_goals
          go_ret
          exact ⟨ret_eq (by rw [hfin.out]; rfl), (Below.refl _ _).alloc (Nat.le_refl _) _⟩
      · by_cases h4 : 16 < m.hi.size
        all_goals
          try have h5 : 4096 < m.vers.length := by omega
          clear h2
          go_enter Try.func18, Try.ntmps18
          go_wp2
          all_goals (try (exfalso; omega))
          all_goals
            go_ret
            exact ⟨ret_eq (by rw [hfin.out]; rfl), (Below.refl _ _).alloc (Nat.le_refl _) _⟩
    · replace hr := Lib.hid (hr.out.trans (if_neg h2))
      exact rcheck_rest m t w h.out k1 k2 (by omega) (by omega) (by omega) _ hr.out
end Go.Proofs.Ytkbhmeajgmecoaa.wirC
