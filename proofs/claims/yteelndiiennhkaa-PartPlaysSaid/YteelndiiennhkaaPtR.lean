/- The document's Commit. -/
import Derived.Test.YteelndiiennhkaaPtQ
import Derived.Lib.SliceRun
set_option linter.unusedVariables false
set_option linter.unusedSimpArgs false
set_option maxRecDepth 100000
namespace Go.Proofs.Yteelndiiennhkaa.ptR
open Go.ChangeShapes Go.WideShapes Go.ChangeAt Go.RowKit Go.Deep Go.Lib
open opG opO hlcA gen ptM ptL ptN ptG ptA ptJ ptQ

abbrev TS : TypeId := 27
theorem slice_to (A : Option Addr) (n c i : Nat) (h : i ≤ c) (w : World) : (Instr.slice TS (.slice A n c) none (some (.int .i64 (i : Int))) none).run Try.prog w = .ok (.slice A i c) w := by
  have ht : Try.prog.underlying TS = some (.slice (Try.prog.elem TS)) := by kernel_rfl
  have hs : ∀ w, (sizeOf (Try.prog.elem TS)).run Try.prog w = .ok 2 w := fun _ => by kernel_rfl
  rw [run_slice_h w TS A n c ht .i64 (i : Int) (by omega) (by omega), hs]
  cases A <;> simp [Result.andThen, sliced, Addr.add_zero']
def fromA (A : Option Addr) (c i : Nat) : Option Addr := if c = i then A else A.map (·.add (i * 2))
theorem slice_from (A : Option Addr) (n c i : Nat) (h : i ≤ n) (w : World) : (Instr.slice TS (.slice A n c) (some (.int .i64 (i : Int))) none none).run Try.prog w = .ok (.slice (fromA A c i) (n - i) (c - i)) w := by
  have ht : Try.prog.underlying TS = some (.slice (Try.prog.elem TS)) := by kernel_rfl
  have hs : ∀ w, (sizeOf (Try.prog.elem TS)).run Try.prog w = .ok 2 w := fun _ => by kernel_rfl
  rw [run_slice_l w TS A n c ht .i64 (i : Int) (by omega) (by omega), hs]
  unfold fromA
  simp [Result.andThen, sliced]
theorem ro_made (w : World) : (w.alloc (.cells #[] TO)).ownsRow w.heap.size TO 2 (.slice (some ⟨w.heap.size, 0, none⟩) 0 0) 0 [] :=
  ⟨rfl, .inr ⟨_, 0, #[], rfl, Nat.le_refl _, heap_alloc_new w _, Nat.le_refl _, Nat.zero_le _, rfl, rfl⟩⟩
section
variable {col : Nat → Nat} {c q : Nat} {S : Pt}
theorem stand_to {w : World} {base cA : Nat} {A : Option Addr} {os : List OP} (h : RO w base A cA os) {i : Nat} (hi : i ≤ os.length) : Stand w A i (fp (os.take i)) := by
  have := h.stand 0 i (by omega)
  rw [List.drop_zero] at this
  split at this
  · exact this
  · cases A with
    | none => exact this
    | some a =>
      rw [Option.map_some, Nat.zero_mul, Addr.add_zero'] at this
      exact this
theorem stand_from {w : World} {base cA : Nat} {A : Option Addr} {os : List OP} (h : RO w base A cA os) {i : Nat} (hi : i ≤ os.length) : Stand w (fromA A cA i) (os.length - i) (fp (os.drop i)) := by
  have := h.stand i (os.length - i) (by omega)
  rw [List.take_of_length_le (by rw [List.length_drop]; omega)] at this
  exact this
set_option maxHeartbeats 2000000 in
theorem dcommit_yes (w : World) (h : DocAt col c w q S) (hf : Fresh col w) (hok : S.ok) (hn : S.os.length ≤ 1000) {tx t ms s : Int} (t0 : 0 ≤ t) (t1 : t ≤ 18446744073709551615) (hr : rdB ms = true) (hfn : fnd S.os tx = some s) (hts : ¬ t < s) : Calls Try.prog 11 #[.pointer (some ⟨q, 0, none⟩), .int .u64 tx, .int .u64 t, .int .i64 ms] w fun e w' =>
    e = .returned (.int .i64 0) ∧ DLv col c q ⟨rsN (mx S.ck t) ms, rm S.os tx⟩ w w' := by
  obtain ⟨iO, hiO, hzO0, hzO1, hzO2⟩ := info_parts infoO
  have hfi := dfind_at w h hn tx
  have e4 : fdI S.os tx = (pos S.os tx : Nat) := by unfold fdI; rw [hfn]; rfl
  rw [e4] at hfi
  replace hfi := Lib.hid hfi
  have hrd : Hid (Calls Try.prog 23 #[.int .i64 ms] w fun e w' => e = .returned (.bool true) ∧ w = w') := Lib.hid (by have := rreads_any ms w; rw [hr] at this; exact this)
  obtain ⟨A, cA, h⟩ := h
  obtain ⟨k0, k1, f0, f1⟩ := h.cells
  have hpa := pos_at hfn
  have hpl := pos_lt hfn
  obtain ⟨g, rfl, c0, c1⟩ := h.ro.at_ hpa
  simp only at c0 c1
  have hrm := rm_is S.os tx
  generalize pos S.os tx = P at *
  obtain ⟨W5, hW5⟩ : ∃ W5, w.alloc (.cells #[] TO) = W5 := ⟨_, rfl⟩
  obtain ⟨B5, hB5e⟩ : ∃ b, w.heap.size = b := ⟨_, rfl⟩
  have hB5 : Below w.heap.size w W5 := by rw [← hW5]; exact al0 _ _
  have hz5 : W5.heap.size = B5 + 1 := by rw [← hW5, ← hB5e]; simp
  have h5 := h.below hB5
  have hm5 := Lib.hid (show W5.ownsRow B5 TO 2 (.slice (some ⟨B5, 0, none⟩) 0 0) 0 [] from by rw [← hW5, ← hB5e]; exact ro_made w)
  have hst5 := Lib.hid (stand_to h5.ro (Nat.le_of_lt hpl))
  obtain ⟨j0, j1, j2, j3⟩ := h5.cells
  have hl5 := Lib.hid (show (fp (S.os.take P)).length = P * 2 from by rw [fp_len, List.length_take]; omega)
  have ha5 := Lib.hid (fp_all (S.os.take P))
  have hlt5 : Hid (0 + P ≤ maxLen ∧ (0 + P) * 16 ≤ 140737488355328 ∧ B5 ≤ W5.heap.size) := Lib.hid ⟨by unfold maxLen; omega, by omega, by omega⟩
  have hslt := Lib.hid (fun w => slice_to (some ⟨g, 0, none⟩) S.os.length cA P (by have := h.ro.cap; omega) w)
  have hslf := Lib.hid (fun w => slice_from (some ⟨g, 0, none⟩) S.os.length cA (P + 1) (by omega) w)
  -- behind the first append
  have h6 := Lib.hid (fun (w6 : World) A9 c9 (hr : w6.ownsRow B5 TO 2 (.slice A9 (0 + P) c9) (0 + P) ([] ++ fp (S.os.take P))) (hg : W5.grownBy w6 (Value.slice (some ⟨B5, 0, none⟩) 0 0).ownBlock) => (by
    have hB6 : Below w.heap.size w w6 := ⟨hg.os.trans hB5.os, hg.tape.trans hB5.tape, hg.output.trans hB5.output, Nat.le_trans hB5.size hg.size, fun k hk => (hg.block k (by have := hB5.size; omega) (by simp [Value.ownBlock]; omega)).trans (hB5.block k hk)⟩
    have hd := h.below hB6
    exact ⟨hd.cells, stand_from hd.ro (i := P + 1) (by omega), hB6, by have := hB6.size; omega, by rw [Nat.zero_add] at hr; exact hr⟩ : (w6.cell? ⟨q, 0, none⟩ = some (.int .u64 S.ck) ∧ w6.cell? ⟨q, 1, none⟩ = some (.slice (some ⟨g, 0, none⟩) S.os.length cA) ∧ w6.frozen? ⟨q, 0, none⟩ = false ∧ w6.frozen? ⟨q, 1, none⟩ = false) ∧ Stand w6 (fromA (some ⟨g, 0, none⟩) cA (P + 1)) (S.os.length - (P + 1)) (fp (S.os.drop (P + 1))) ∧ Below w.heap.size w w6 ∧ B5 ≤ w6.heap.size ∧ w6.ownsRow B5 TO 2 (.slice A9 P c9) P (fp (S.os.take P))))
  have hl6 := Lib.hid (show (fp (S.os.drop (P + 1))).length = (S.os.length - (P + 1)) * 2 from by rw [fp_len, List.length_drop])
  have ha6 := Lib.hid (fp_all (S.os.drop (P + 1)))
  have hlt6 : Hid (P + (S.os.length - (P + 1)) ≤ maxLen ∧ (P + (S.os.length - (P + 1))) * 16 ≤ 140737488355328) := Lib.hid ⟨by unfold maxLen; omega, by omega⟩
  -- behind the second
  have h7 := Lib.hid (fun (w6 w7 : World) A8 c8 A9 c9 (hr8 : w6.ownsRow B5 TO 2 (.slice A8 P c8) P (fp (S.os.take P))) (hB6 : Below w.heap.size w w6) (hr : w7.ownsRow B5 TO 2 (.slice A9 (P + (S.os.length - (P + 1))) c9) (P + (S.os.length - (P + 1))) (fp (S.os.take P) ++ fp (S.os.drop (P + 1)))) (hg : w6.grownBy w7 (Value.slice A8 P c8).ownBlock) => (by
    have hlen : (rm S.os tx).length = P + (S.os.length - (P + 1)) := by rw [hrm]; simp; omega
    have hB7 : Below w.heap.size w w7 := ⟨hg.os.trans hB6.os, hg.tape.trans hB6.tape, hg.output.trans hB6.output, Nat.le_trans hB6.size hg.size, fun k hk => (hg.block k (by have := hB6.size; omega) (fun e => by
      rcases hr8.2 with ⟨e1, _⟩ | ⟨g2, cap, cur, e1, hb, _⟩
      · rw [e1] at e; cases e
      · rw [e1] at e
        simp only [Value.ownBlock] at e
        cases e
        omega)).trans (hB6.block k hk)⟩
    have hR : RO w7 w.heap.size A9 c9 (rm S.os tx) := by
      unfold RO
      rw [hlen, hrm, fp_app, hB5e]
      exact hr
    obtain ⟨z1, z2, col', hC, hD⟩ := h.put hf hB7 hR
    rw [hlen] at hC hD
    exact ⟨z1, z2, col', hC, A9, c9, hD⟩ : w7.cell? ⟨q, 1, none⟩ = some (.slice (some ⟨g, 0, none⟩) S.os.length cA) ∧ w7.frozen? ⟨q, 1, none⟩ = false ∧ DLv col c q ⟨S.ck, rm S.os tx⟩ w (w7.setCell ⟨q, 1, none⟩ (.slice A9 (P + (S.os.length - (P + 1))) c9))))
  have h8 := Lib.hid (fun w8 (hL : DLv col c q ⟨S.ck, rm S.os tx⟩ w w8) => (by
    obtain ⟨c2, hC, hD⟩ := hL
    refine (dsee_at w8 hD hC.2.1 t).mono ?_
    rintro e w9 ⟨he, c3, hC3, hD3⟩
    exact ⟨he, c3, hC.trans hC3, hD3⟩ : Calls Try.prog 15 #[.pointer (some ⟨q, 0, none⟩), .int .u64 t] w8 fun e w' => e = .returned (.tuple #[]) ∧ DLv col c q ⟨mx S.ck t, rm S.os tx⟩ w w'))
  have hra := Lib.hid (fun w9 => (by have := rraise_any (mx S.ck t) ms w9; rw [show rsE ms = 0 by unfold rsE; rw [if_pos hr]] at this; exact this : Calls Try.prog 24 #[.int .u64 (mx S.ck t), .int .i64 ms] w9 fun e w' => e = .returned (.tuple #[.int .u64 (rsN (mx S.ck t) ms), .int .i64 0]) ∧ w9 = w'))
  have h9 := Lib.hid (fun w9 (hL : DLv col c q ⟨mx S.ck t, rm S.os tx⟩ w w9) R => (by
    obtain ⟨c2, hC, A9, c9, hD⟩ := hL
    obtain ⟨z0, z1, z2, z3⟩ := hD.cells
    obtain ⟨g1, h1⟩ := hD.setC R
    exact ⟨z0, z2, c2, hC.trans ⟨Ext.refl _ _, hC.2.1.up g1.size, g1⟩, A9, c9, h1⟩ : w9.cell? ⟨q, 0, none⟩ = some (.int .u64 (mx S.ck t)) ∧ w9.frozen? ⟨q, 0, none⟩ = false ∧ DLv col c q ⟨R, rm S.os tx⟩ w (w9.setCell ⟨q, 0, none⟩ (.int .u64 R))))
  have hPI : (P : Int) < (S.os.length : Int) := by omega
  have ew : IntKind.i64.wrap ((P : Int) + 1) = (P : Int) + 1 := wrap_in _ (by omega) (by omega)
  have eP : ((P + 1 : Nat) : Int) = (P : Int) + 1 := by omega
  rw [eP] at hslf
  clear h hok hr hfn e4 hpa hrm hf h5 hB5 hz5 eP j0 j1 j2 j3
  subst hW5
  subst hB5e
  have hq5 := World.block_lt_of_cell? _ _ k1
  generalize rsN (mx S.ck t) ms = R at *
  generalize mx S.ck t = M at *
  generalize S.ck = ck at *
  generalize S.os = os at *
  generalize rm os tx = rs at *
  generalize fp (os.take P) = F1 at *
  generalize fp (os.drop (P + 1)) = F2 at *
  generalize hnr : os.length - (P + 1) = N2 at *
  generalize fromA (some ⟨g, 0, none⟩) cA (P + 1) = A2 at *
  clear hnr
  have hs1 := hslt.out
  have hs2 := hslf.out
  go_enter Try.func11, Try.ntmps11
  go_wp2_with (fail)
  with_reducible refine hrd.out.mono ?_
  rintro e w' ⟨rfl, rfl⟩
  go_wp2_with (fail)
  with_reducible refine hfi.out.mono ?_
  rintro e w' ⟨rfl, rfl⟩
  go_upto_region 9 with (at_builtin; refine wpList_gen rfl (.tmp 29) (.tmp 35) TS rfl w.heap.size TO iO _ 2 16 Try.underlying27 hiO hzO0 hzO1 hzO2 rfl (by decide) _ 0 [] (by rfl) hm5.out (some ⟨g, 0, none⟩) P cA F1 (by rfl) hl5.out hst5.out ha5.out hlt5.out.1 hlt5.out.2.1 hlt5.out.2.2 ?_; intro A8 c8 w6 hr8 hg8 hat8; obtain ⟨⟨m0, m1, m2, m3⟩, hst6, hB6, hs6, hr6⟩ := h6.out w6 A8 c8 hr8 hg8; clear hr8; have hr8 := hr6; clear hr6; replace hr8 := Lib.hid hr8; replace hB6 := Lib.hid hB6; replace hst6 := Lib.hid hst6; clear hg8 hat8 h6 hm5 hst5 hl5 ha5 hlt5 k0 k1 f0 f1 c0 c1 hs1)
  go_wp2_with (at_builtin; refine wpList_gen rfl (.tmp 38) (.tmp 45) TS rfl w.heap.size TO iO _ 2 16 Try.underlying27 hiO hzO0 hzO1 hzO2 rfl (by decide) _ P F1 (by rfl) hr8.out A2 N2 (cA - (P + 1)) F2 (by rfl) hl6.out hst6.out ha6.out hlt6.out.1 hlt6.out.2 hs6 ?_; intro A9 c9 w7 hr9 hg9 hat9; obtain ⟨z1, z2, hL⟩ := h7.out w6 w7 A8 c8 A9 c9 hr8.out hB6.out hr9 hg9; have hsee := Lib.hid (h8.out _ hL); clear hr9 hg9 hat9 h7 h8 hr8 hB6 hL hst6 hl6 ha6 hlt6 m0 m1 m2 m3)
  with_reducible refine hsee.out.mono ?_
  rintro e w9 ⟨rfl, hL⟩
  obtain ⟨y0, y1, hL9⟩ := h9.out _ hL R
  replace hL9 := Lib.hid hL9
  clear hL hsee h9 z1 z2
  go_wp2_with (fail)
  with_reducible refine (hra.out _).mono ?_
  rintro e w10 ⟨rfl, rfl⟩
  go_wp2
  go_ret
  exact ⟨rfl, hL9.out⟩
theorem dcommit_at (w : World) (h : DocAt col c w q S) (hf : Fresh col w) (hok : S.ok) (hn : S.os.length ≤ 1000) {tx t ms : Int} (t0 : 0 ≤ t) (t1 : t ≤ 18446744073709551615) : Calls Try.prog 11 #[.pointer (some ⟨q, 0, none⟩), .int .u64 tx, .int .u64 t, .int .i64 ms] w fun e w' =>
    e = .returned (.int .i64 (coE S tx t ms)) ∧ DLv col c q (coS S tx t ms) w w' := by
  have hst := Lib.hid (dlv_stay h hf (Below.refl _ _))
  have hrd := Lib.hid (rreads_any ms w)
  cases hr : rdB ms with
  | false =>
    have e1 : coE S tx t ms = 1 := if_pos hr
    have e3 : coS S tx t ms = S := by unfold coS; rw [e1]; rfl
    rw [e1, e3]
    rw [hr] at hrd
    clear h hok e1 e3 hr hf
    go_enter Try.func11, Try.ntmps11
    go_wp2_with (fail)
    with_reducible refine hrd.out.mono ?_
    rintro e w' ⟨rfl, rfl⟩
    go_wp2
    go_ret
    exact ⟨rfl, hst.out⟩
  | true =>
    cases hfn : fnd S.os tx with
    | none =>
      have e1 : coE S tx t ms = 7 := by unfold coE; rw [if_neg (by rw [hr]; simp), hfn]
      have e3 : coS S tx t ms = S := by unfold coS; rw [e1]; rfl
      have e4 : fdI S.os tx = -1 := by unfold fdI; rw [hfn]; rfl
      have hfi := dfind_at w h hn tx
      rw [e4] at hfi
      replace hfi := Lib.hid hfi
      rw [e1, e3]
      rw [hr] at hrd
      clear h hok e1 e3 e4 hr hf hfn
      go_enter Try.func11, Try.ntmps11
      go_wp2_with (fail)
      with_reducible refine hrd.out.mono ?_
      rintro e w' ⟨rfl, rfl⟩
      go_wp2_with (fail)
      with_reducible refine hfi.out.mono ?_
      rintro e w' ⟨rfl, rfl⟩
      go_wp2
      go_ret
      exact ⟨rfl, hst.out⟩
    | some s =>
      by_cases hts : t < s
      · have e1 : coE S tx t ms = 11 := by unfold coE; rw [if_neg (by rw [hr]; simp), hfn]; exact if_pos hts
        have e3 : coS S tx t ms = S := by unfold coS; rw [e1]; rfl
        have e4 : fdI S.os tx = (pos S.os tx : Nat) := by unfold fdI; rw [hfn]; rfl
        have hfi := dfind_at w h hn tx
        rw [e4] at hfi
        replace hfi := Lib.hid hfi
        rw [e1, e3]
        rw [hr] at hrd
        obtain ⟨A, cA, h⟩ := h
        obtain ⟨k0, k1, f0, f1⟩ := h.cells
        have hpl := pos_lt hfn
        obtain ⟨g, rfl, c0, c1⟩ := h.ro.at_ (pos_at hfn)
        have hPI : (pos S.os tx : Int) < (S.os.length : Int) := by omega
        generalize pos S.os tx = P at *
        simp only at c0 c1
        clear h hok e1 e3 e4 hr hf hfn
        generalize S.ck = ck at *
        generalize S.os = os at *
        go_enter Try.func11, Try.ntmps11
        go_wp2_with (fail)
        with_reducible refine hrd.out.mono ?_
        rintro e w' ⟨rfl, rfl⟩
        go_wp2_with (fail)
        with_reducible refine hfi.out.mono ?_
        rintro e w' ⟨rfl, rfl⟩
        go_wp2
        go_ret
        exact ⟨rfl, hst.out⟩
      · have e1 : coE S tx t ms = 0 := by unfold coE; rw [if_neg (by rw [hr]; simp), hfn]; exact if_neg hts
        have e3 : coS S tx t ms = ⟨rsN (mx S.ck t) ms, rm S.os tx⟩ := if_pos e1
        rw [e1, e3]
        exact dcommit_yes w h hf hok hn t0 t1 hr hfn hts
end
end Go.Proofs.Yteelndiiennhkaa.ptR
