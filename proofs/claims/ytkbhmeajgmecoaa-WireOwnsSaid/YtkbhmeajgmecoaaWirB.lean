/- The contracts of Check, in the program and in the document's own answer. -/
import Derived.Test.YtkbhmeajgmecoaaWirA
namespace Go.Proofs.Ytkbhmeajgmecoaa.wirB
open Go.ChangeShapes Go.WideShapes Go.ChangeAt Go.RowKit
open numM numN rowA byt numA numB numC numD numE wirM wirA

/-! ### A command's numbers -/
def nat (c : Cm) (k : Nat) : Int := (nums c).getD k 0
theorem index5 (c : Cm) (k : Nat) (h : k < 5) (w : World) :
    (Instr.index 71 (.agg #[.int .i64 c.kind, .int .i64 c.dc, .int .i64 c.shard, .int .i64 c.node, .int .i64 c.mode]) (.int .i64 k)).run Try.prog w = .ok (.int .i64 (nat c k)) w := by
  obtain rfl | rfl | rfl | rfl | rfl : k = 0 ∨ k = 1 ∨ k = 2 ∨ k = 3 ∨ k = 4 := by omega
  all_goals kernel_rfl
theorem nat_in {c : Cm} (hf : c.fits) (k : Nat) (h : k < 5) : -9223372036854775808 ≤ nat c k ∧ nat c k ≤ 9223372036854775807 := by
  match k, h with
  | 0, _ => exact hf.1
  | 1, _ => exact hf.2.1
  | 2, _ => exact hf.2.2.1
  | 3, _ => exact hf.2.2.2.1
  | 4, _ => exact hf.2.2.2.2.1
theorem out_5 {c : Cm} (h : ∀ j, j < 5 → outB (nat c j) = false) : (outB c.kind || outB c.dc || outB c.shard || outB c.node || outB c.mode) = false := by
  have h0 := h 0 (by decide); have h1 := h 1 (by decide); have h2 := h 2 (by decide); have h3 := h 3 (by decide); have h4 := h 4 (by decide)
  change outB c.kind = false at h0; change outB c.dc = false at h1; change outB c.shard = false at h2; change outB c.node = false at h3; change outB c.mode = false at h4
  rw [h0, h1, h2, h3, h4]; rfl
theorem out_1 {c : Cm} {k : Nat} (hk : k < 5) (h : outB (nat c k) = true) : (outB c.kind || outB c.dc || outB c.shard || outB c.node || outB c.mode) = true := by
  match k, hk with
  | 0, _ => change outB c.kind = true at h; rw [h]; simp
  | 1, _ => change outB c.dc = true at h; rw [h]; simp
  | 2, _ => change outB c.shard = true at h; rw [h]; simp
  | 3, _ => change outB c.node = true at h; rw [h]; simp
  | 4, _ => change outB c.mode = true at h; rw [h]; simp
theorem chkC_1 {c : Cm} {k : Nat} (hk : k < 5) (h : outB (nat c k) = true) : chkC c = 1 := by unfold chkC; rw [out_1 hk h]; rfl
theorem chkC_5 {c : Cm} (h : ∀ j, j < 5 → outB (nat c j) = false) : chkC c = if 16 < c.key.size then 6 else 0 := by unfold chkC; rw [out_5 h]; rfl

set_option maxRecDepth 100000 in
theorem numsOf_any (c : Cm) (w : World) :
    Calls Try.prog 47 #[.agg (cc c)] w fun e w' => e = .returned (.agg #[.int .i64 c.kind, .int .i64 c.dc, .int .i64 c.shard, .int .i64 c.node, .int .i64 c.mode]) ∧ Below w.heap.size w w' := by
  go_enter Try.func47, Try.ntmps47
  go_wp2
  exact bodyPost_ret (v := .agg #[.int .i64 c.kind, .int .i64 c.dc, .int .i64 c.shard, .int .i64 c.node, .int .i64 c.mode]) (by simp [results, Try.results47, go_sem]) rfl ⟨rfl, ((Below.refl _ _).alloc (Nat.le_refl _) _).alloc (by simp) _⟩

set_option maxRecDepth 100000 in
theorem checkCmd_any (c : Cm) (w : World) (hf : c.fits) :
    Calls Try.prog 34 #[.agg (cc c)] w fun e w' => e = .returned (.int .i64 (chkC c)) ∧ Below w.heap.size w w' := by
  go_enter Try.func34, Try.ntmps34
  go_wp2_with ((go_at_call 47; ((with_reducible refine (numsOf_any c _).mono ?_); rintro e w1 ⟨rfl, hB1⟩)))
  obtain ⟨hc1, hz1⟩ := bcell hB1
  have e1 : w1.cell? ⟨w.heap.size, 5, none⟩ = some (.string c.key) := by rw [hc1 _ _ (by simp)]; go_simp
  have hB := Lib.hid (show Below w.heap.size w w1 from ((Below.refl _ _).alloc (Nat.le_refl _) _).trans (hB1.mono (by simp)))
  clear hB1 hc1 hz1
  go_loop [7] (fun i => ∃ k : Nat, k ≤ 5 ∧ (∀ j, j < k → outB (nat c j) = false) ∧ i = .int .i64 k) (fun i => 5 - (intOf i).toNat)
  case atStart => exact ⟨0, by omega, by intro j hj; omega, rfl⟩
  case round =>
    obtain ⟨k, hk, hall, rfl⟩ := hrel
    replace hall := Lib.hid hall
    by_cases hlt : k < 5
    · have hidx := index5 c k hlt w1
      obtain ⟨b1, b2⟩ := nat_in hf k hlt
      have hv : outB (nat c k) = (decide (nat c k < 0) || decide (255 < nat c k)) := rfl
      have h1 := Lib.hid (@chkC_1 c k hlt)
      generalize hxe : nat c k = x at *
      replace hxe := Lib.hid hxe
      by_cases hx : x < 0
      · have hfin := Lib.hid (h1.out (by rw [hv]; simp [hx]))
        clear hv
        go_wp2
        go_ret
        exact ⟨ret_eq (by rw [hfin.out]; rfl), hB.out⟩
      · by_cases hx2 : 255 < x
        · have hfin := Lib.hid (h1.out (by rw [hv]; simp [hx2]))
          clear hv
          go_wp2
          go_ret
          exact ⟨ret_eq (by rw [hfin.out]; rfl), hB.out⟩
        · have hn := Lib.hid (hv.trans (by simp [hx, hx2]) : outB _ = false)
          clear hv
          go_wp2
          go_round
          case rel => exact ⟨k + 1, by omega, by
            intro j hj
            by_cases e : j = k
            · subst e; rw [hxe.out]; exact hn.out
            · exact hall.out j (by omega), by go_num⟩
          case measure => simp [intOf]; omega
    · obtain rfl : k = 5 := by omega
      have h5 := chkC_5 hall.out
      by_cases h6 : 16 < c.key.size
      · rw [if_pos h6] at h5
        replace h5 := Lib.hid h5
        go_wp2
        go_ret
        exact ⟨ret_eq (by rw [h5.out]; rfl), hB.out⟩
      · rw [if_neg h6] at h5
        replace h5 := Lib.hid h5
        go_wp2
        go_ret
        exact ⟨ret_eq (by rw [h5.out]; rfl), hB.out⟩

set_option maxRecDepth 100000 in
set_option maxHeartbeats 1000000 in
theorem check_rest (m : Ms) (t : At) (w : World) (h : HM w m t) (k1 : 1 ≤ m.kind) (k2 : m.kind ≤ 26) (k3 : m.lo.size ≤ 16) (k4 : m.hi.size ≤ 16) (k5 : m.vers.length ≤ 4096) (r : Nat)
    (hr : r = if chkVs m.vers ≠ 0 then chkVs m.vers else if 32 < m.vec.length then 6 else chkC m.cmd) :
    Calls Try.prog 17 #[.agg (cm m t)] w fun e w' => e = .returned (.int .i64 r) ∧ Below w.heap.size w w' := by
  replace hr := Lib.hid hr
  have hcf := h.fits.2.2.2.2.2.2.2.2
  have hvl := Lib.hid h.vers
  have hv7 := h.vec.2.1
  obtain ⟨va, vc, na, nc⟩ := t
  replace hvl : Hid (VL w va m.vers.length m.vers) := hvl
  replace hcf := Lib.hid hcf
  clear h
  go_enter Try.func17, Try.ntmps17
  go_wp2
  all_goals (try (exfalso; omega))
  have hbox0 := Lib.hid (Box.new w (cm m ⟨va, vc, na, nc⟩) 28)
  have hB0 := Lib.hid ((Below.refl w.heap.size w).alloc (Nat.le_refl _) (.cells (cm m ⟨va, vc, na, nc⟩) 28))
  go_loopw [33] (fun i wr => ∃ k : Nat, k ≤ m.vers.length ∧ i = .int .i64 k ∧ Hid (chkVs m.vers = chkVs (m.vers.drop k)) ∧ Hid (Box wr w.heap.size (cm m ⟨va, vc, na, nc⟩) 28) ∧ Hid (Below w.heap.size w wr)) (fun i _ => m.vers.length - (intOf i).toNat)
  case atStart => exact ⟨0, by omega, rfl, rfl, hbox0, hB0⟩
  case round =>
    obtain ⟨k, hk, rfl, hch, hbox, hB⟩ := hrel
    by_cases hlt : k < m.vers.length
    · obtain ⟨b, off, rfl, hbl, hvc⟩ := (hvl.out.step hB.out (Nat.le_refl _)).at hlt
      have hch2 := chkVs_at hlt hch.out
      rw [← vth_eq hlt] at hch2
      generalize vth m.vers k = v at *
      replace hch2 := Lib.hid hch2
      obtain ⟨c1, c2, c3, c4, c5, c6⟩ := hvc
      have hz := Lib.hid hB.out.size
      clear hch
      go_wp2_with (fail)
      refine (checkVer_any v _).mono ?_
      rintro e w2 ⟨rfl, hB2⟩
      have hBs := Lib.hid (show Below wr.heap.size wr w2 from ((Below.refl wr.heap.size wr).alloc (Nat.le_refl _) _).trans (hB2.mono (by simp)))
      clear hB2 c1 c2 c3 c4 c5 c6
      by_cases hv0 : chkV v = 0
      · have hch3 := Lib.hid (hch2.out.trans (if_pos hv0))
        rw [hv0]
        clear hv0 hch2
        go_wp2
        go_roundw
        case rel => exact ⟨k + 1, by omega, by go_num, hch3, hbox.out.below hBs.out, hB.out.trans (hBs.out.mono hz.out)⟩
        case measure => simp [intOf]; omega
      · have hch3 := Lib.hid (hch2.out.trans (if_neg hv0))
        have hfin := Lib.hid (hr.out.trans (if_pos (by rw [hch3.out]; exact hv0)))
        have hv1 : ((chkV v : Int) != 0) = true := by rw [bne_iff_ne]; omega
        clear hv0 hch2
        go_wp2
        go_ret
        exact ⟨ret_eq (by rw [hfin.out, hch3.out]; rfl), hB.out.trans (hBs.out.mono hz.out)⟩
    · obtain rfl : k = m.vers.length := by omega
      have hr2 := hr.out.trans (if_neg (by rw [hch.out, List.drop_length]; simp [chkVs]))
      obtain ⟨c0, c1, c2, c3, c4, c5, c6, c7, c8, c9, c10, c11, c12, c13⟩ := hbox.out.msg
      have hz := Lib.hid hB.out.size
      clear hch
      by_cases hl : 32 < m.vec.length
      · replace hr2 := Lib.hid (hr2.trans (if_pos hl))
        go_wp2
        go_ret
        exact ⟨ret_eq (by rw [hr2.out]; rfl), hB.out⟩
      · replace hr2 := Lib.hid (hr2.trans (if_neg hl))
        go_wp2_with ((go_at_call 34; ((with_reducible refine (checkCmd_any m.cmd _ hcf.out).mono ?_); rintro e w2 ⟨rfl, hB2⟩)))
        go_ret
        exact ⟨ret_eq (by rw [hr2.out]; rfl), hB.out.trans (hB2.mono hz.out)⟩
set_option maxRecDepth 100000 in
theorem check_any (m : Ms) (t : At) (w : World) (h : HM w m t) :
    Calls Try.prog 17 #[.agg (cm m t)] w fun e w' => e = .returned (.int .i64 (chk m)) ∧ Below w.heap.size w w' := by
  have hr : chk m = if m.kind < 1 ∨ 26 < m.kind then 5 else if 16 < m.lo.size ∨ 16 < m.hi.size ∨ 4096 < m.vers.length then 6
    else if chkVs m.vers ≠ 0 then chkVs m.vers else if 32 < m.vec.length then 6 else chkC m.cmd := rfl
  have hlen : m.vers.length ≤ 9223372036854775807 := h.vers.2.1
  generalize chk m = r at *
  replace hr := Lib.hid hr
  replace h := Lib.hid h
  by_cases h1 : m.kind < 1 ∨ 26 < m.kind
  · have hfin := Lib.hid (hr.out.trans (if_pos h1))
    by_cases h2 : m.kind < 1
    all_goals
      go_enter Try.func17, Try.ntmps17
      go_wp2
      all_goals (try (exfalso; omega))
      all_goals
        go_ret
        exact ⟨ret_eq (by rw [hfin.out]; rfl), (Below.refl _ _).alloc (Nat.le_refl _) _⟩
  · replace hr := Lib.hid (hr.out.trans (if_neg h1))
    have k1 : 1 ≤ m.kind := by omega
    have k2 : m.kind ≤ 26 := by omega
    clear h1
    by_cases h2 : 16 < m.lo.size ∨ 16 < m.hi.size ∨ 4096 < m.vers.length
    · have hfin := Lib.hid (hr.out.trans (if_pos h2))
      by_cases h3 : 16 < m.lo.size
      · clear h2
        go_enter Try.func17, Try.ntmps17
        go_wp2
        all_goals (try (exfalso; omega))
        all_goals
          go_ret
          exact ⟨ret_eq (by rw [hfin.out]; rfl), (Below.refl _ _).alloc (Nat.le_refl _) _⟩
      · by_cases h4 : 16 < m.hi.size
        all_goals
          try have h5 : 4096 < m.vers.length := by omega
          clear h2
          go_enter Try.func17, Try.ntmps17
          go_wp2
          all_goals (try (exfalso; omega))
          all_goals
            go_ret
            exact ⟨ret_eq (by rw [hfin.out]; rfl), (Below.refl _ _).alloc (Nat.le_refl _) _⟩
    · replace hr := Lib.hid (hr.out.trans (if_neg h2))
      have k3 : m.lo.size ≤ 16 := by omega
      have k4 : m.hi.size ≤ 16 := by omega
      have k5 : m.vers.length ≤ 4096 := by omega
      clear h2 hlen
      exact check_rest m t w h.out k1 k2 k3 k4 k5 _ hr.out

/-! ### Check, of the document's own answer -/
/-- What nums answers: five cells of the call's own. -/
def Five (c : Cm) (w : World) (e : Ending) (w' : World) : Prop := ∃ b, e = .returned (.slice (some ⟨b, 0, none⟩) 5 5) ∧ w.heap.size ≤ b ∧ b < w'.heap.size ∧ (∀ k, k < 5 → w'.cell? ⟨b, k, none⟩ = some (.int .i64 (nat c k))) ∧ Below w.heap.size w w'
set_option maxRecDepth 100000 in
theorem rnums_any (c : Cm) (w : World) : Calls Try.prog 35 #[.agg (cc c)] w (Five c w) := by
  go_enter Try.func35, Try.ntmps35
  go_wp2
  go_ret
  refine ⟨w.heap.size + 1, rfl, by omega, by simp, ?_, ((Below.refl _ _).alloc (Nat.le_refl _) _).alloc (by simp) _⟩
  intro k hk
  obtain rfl | rfl | rfl | rfl | rfl : k = 0 ∨ k = 1 ∨ k = 2 ∨ k = 3 ∨ k = 4 := by omega
  all_goals (go_simp; try rfl)
end Go.Proofs.Ytkbhmeajgmecoaa.wirB
