/- The contract of the program's writer of version 1. -/
import Derived.Test.YtkbhmeajgmecoaaWirG
import Derived.Test.YtkbhmeajgmecoaaWirB
import Derived.Test.YtkbhmeajgmecoaaWirL
namespace Go.Proofs.Ytkbhmeajgmecoaa.wirH
open Go.ChangeShapes Go.WideShapes Go.ChangeAt Go.RowKit
open numM numN rowA byt numA numB numC numD numE wirM wirA wirB wirD wirE wirF wirG wirL

/-- A message's cells at block b, which is there. -/
abbrev SM (b : Nat) (m : Ms) (t : At) (w : World) : Prop :=
  w.cell? ⟨b, 0, none⟩ = some (.int .i64 m.kind) ∧ w.cell? ⟨b, 1, none⟩ = some (.int .u64 m.id) ∧ w.cell? ⟨b, 2, none⟩ = some (.int .u64 m.n) ∧ w.cell? ⟨b, 3, none⟩ = some (.int .u64 m.ts) ∧
  w.cell? ⟨b, 4, none⟩ = some (.string m.lo) ∧ w.cell? ⟨b, 5, none⟩ = some (.string m.hi) ∧ w.cell? ⟨b, 6, none⟩ = some (.slice t.va m.vers.length t.vc) ∧ w.cell? ⟨b, 7, none⟩ = some (.slice t.na m.vec.length t.nc) ∧
  w.cell? ⟨b, 8, none⟩ = some (.int .i64 m.cmd.kind) ∧ w.cell? ⟨b, 9, none⟩ = some (.int .i64 m.cmd.dc) ∧ w.cell? ⟨b, 10, none⟩ = some (.int .i64 m.cmd.shard) ∧
  w.cell? ⟨b, 11, none⟩ = some (.int .i64 m.cmd.node) ∧ w.cell? ⟨b, 12, none⟩ = some (.int .i64 m.cmd.mode) ∧ w.cell? ⟨b, 13, none⟩ = some (.string m.cmd.key) ∧ b < w.heap.size
theorem SM.below {b : Nat} {m : Ms} {t : At} {w w1 : World} (h : SM b m t w) (hB : Below w.heap.size w w1) : SM b m t w1 := by
  obtain ⟨h0, h1, h2, h3, h4, h5, h6, h7, h8, h9, h10, h11, h12, h13, h14⟩ := h
  obtain ⟨hk, -⟩ := bcell hB
  refine ⟨?_, ?_, ?_, ?_, ?_, ?_, ?_, ?_, ?_, ?_, ?_, ?_, ?_, ?_, by have := hB.size; omega⟩
  all_goals (rw [hk _ _ h14]; assumption)
theorem SM.alloc {b : Nat} {m : Ms} {t : At} {w : World} (h : SM b m t w) (o : Obj) : SM b m t (w.alloc o) := h.below (alloc_below w o)
theorem SM.of_box {b : Nat} {m : Ms} {t : At} {w : World} (h : Box w b (cm m t) 28) : SM b m t w := by
  obtain ⟨h0, h1, h2, h3, h4, h5, h6, h7, h8, h9, h10, h11, h12, h13⟩ := h.msg
  exact ⟨h0, h1, h2, h3, h4, h5, h6, h7, h8, h9, h10, h11, h12, h13, h.lt⟩
theorem SM.new (w : World) (m : Ms) (t : At) : SM w.heap.size m t (w.alloc (.cells (cm m t) 28)) := SM.of_box (Box.new w (cm m t) 28)
theorem SM.drew {b : Nat} {m : Ms} {t : At} {w : World} (h : SM b m t w) : SM b m t w.drew := h

/-- the parts at the head of a body by version 1 -/
def e0 (m : Ms) : List (List Nat) := [fx 1 m.kind.toNat, fx 8 m.id, fx 8 m.n, fx 8 m.ts, tx1 m.lo, tx1 m.hi, fx 2 m.vers.length]
theorem nat_ok {c : Cm} (h : c.ok) {k : Nat} (hk : k < 5) : 0 ≤ nat c k ∧ nat c k ≤ 255 := by
  refine nums_ok h (nat c k) ?_
  unfold nat; rw [List.getD_eq_getElem?_getD, List.getElem?_eq_getElem (by simpa [nums] using hk)]
  exact List.getElem_mem _
theorem nums_take {c : Cm} {k : Nat} (h : k < 5) (f : Int → List Nat) : ((nums c).take (k + 1)).map f = ((nums c).take k).map f ++ [f (nat c k)] := by
  have e : (nums c)[k]'(by simpa [nums] using h) = nat c k := by unfold nat; rw [List.getD_eq_getElem?_getD, List.getElem?_eq_getElem (by simpa [nums] using h)]; rfl
  rw [take_map f (nums c) (by simpa [nums] using h), e]

/-- the parts of a body by version 1, so far -/
def eL1 (m : Ms) (k : Nat) : List (List Nat) := e0 m ++ (m.vers.take k).map ev
def eL2 (m : Ms) (k : Nat) : List (List Nat) := eL1 m m.vers.length ++ [fx 1 m.vec.length] ++ (m.vec.take k).map (fx 8)
def eL3 (m : Ms) (k : Nat) : List (List Nat) := eL2 m m.vec.length ++ ((nums m.cmd).take k).map fun x => fx 1 x.toNat
theorem eL1_0 (m : Ms) : eL1 m 0 = e0 m := by simp [eL1]
theorem eL1_s (m : Ms) {k : Nat} (h : k < m.vers.length) : eL1 m k ++ [ev (vth m.vers k)] = eL1 m (k + 1) := by
  unfold eL1; rw [List.append_assoc, take_map ev m.vers h, vth_eq h]
theorem eL2_0 (m : Ms) : eL1 m m.vers.length ++ [fx 1 m.vec.length] = eL2 m 0 := by simp [eL2]
theorem nth_eq {l : List Nat} {k : Nat} (h : k < l.length) : nth l k = l[k] := by unfold nth; rw [List.getD_eq_getElem?_getD, List.getElem?_eq_getElem h]; rfl
theorem eL2_s (m : Ms) {k : Nat} (h : k < m.vec.length) : eL2 m k ++ [fx 8 (nth m.vec k)] = eL2 m (k + 1) := by
  unfold eL2; rw [List.append_assoc, take_map (fx 8) m.vec h, nth_eq h]
theorem eL3_0 (m : Ms) : eL2 m m.vec.length = eL3 m 0 := by simp [eL3]
theorem eL3_s (m : Ms) {k : Nat} (h : k < 5) : eL3 m k ++ [fx 1 (nat m.cmd k).toNat] = eL3 m (k + 1) := by
  unfold eL3; rw [List.append_assoc, nums_take h]
theorem eL_end (m : Ms) : (eL3 m 5 ++ [tx1 m.cmd.key]).flatten = elder m := by
  have e5 : (nums m.cmd).take 5 = nums m.cmd := rfl
  unfold eL3 eL2 eL1 elder e0
  rw [e5, List.take_length, List.take_length]
  simp [List.flatten_append, List.append_assoc]
theorem eL1_n (m : Ms) (k : Nat) (h : k ≤ 4096) : (eL1 m k).length ≤ 5000 := by
  unfold eL1; rw [List.length_append, List.length_map, List.length_take]; simp [e0]; omega
theorem eL2_n (m : Ms) (k : Nat) (h : k ≤ 32) (hv : m.vers.length ≤ 4096) : (eL2 m k).length ≤ 6000 := by
  have := eL1_n m m.vers.length hv
  unfold eL2; rw [List.length_append, List.length_append, List.length_map, List.length_take, List.length_singleton]; omega
theorem eL3_n (m : Ms) (k : Nat) (h : k ≤ 5) (hv : m.vers.length ≤ 4096) (hn : m.vec.length ≤ 32) : (eL3 m k).length ≤ 7000 := by
  have := eL2_n m m.vec.length hn hv
  unfold eL3; rw [List.length_append, List.length_map, List.length_take]; omega

set_option maxRecDepth 100000 in
set_option maxHeartbeats 4000000 in
theorem welder_any (m : Ms) (t : At) (w : World) (h : HM w m t) (hok : m.ok) : Calls Try.prog 29 #[.agg (cm m t)] w (Makes w (elder m)) := by
  have hel := Lib.hid (elder_le m hok)
  obtain ⟨va, vc, na, nc⟩ := t
  have hvl : Hid (VL w va m.vers.length m.vers) := h.vers
  have hnl : Hid (NL w na m.vec.length m.vec) := h.vec
  obtain ⟨-, f1, f2, f3, -, -, fv, fn, fc⟩ := h.fits
  obtain ⟨o0, o1, o2, o3, o4, o5, o6, o7⟩ := hok
  have k0 : m.kind < 256 := by omega
  have k00 : 0 ≤ m.kind := by omega
  have k1 : m.lo.size ≤ 64 := by omega
  have k2 : m.hi.size ≤ 64 := by omega
  have k3 : m.vers.length < 65536 := by omega
  have k4 : m.vec.length < 256 := by omega
  have w0 := wrap64i m.kind (by omega) (by omega)
  have w1 := wrap64_nat m.vers.length (by omega)
  have w2 := wrap64_nat m.vec.length (by omega)
  have k5 : m.cmd.key.size ≤ 64 := by have := o7.key; omega
  replace o5 := Lib.hid o5
  replace o7 := Lib.hid o7
  replace fv := Lib.hid fv
  replace fn := Lib.hid fn
  replace fc := Lib.hid fc
  clear h o2 o3
  obtain ⟨i0, hi0, hz0, hz1, hz2⟩ := info_parts bytes24
  have hS := Lib.hid (SM.new w m ⟨va, vc, na, nc⟩)
  have hW := Lib.hid (alloc_below w (.cells (cm m ⟨va, vc, na, nc⟩) 28))
  have hbx := Lib.hid (Box.new w (cm m ⟨va, vc, na, nc⟩) 28)
  go_enter Try.func29, Try.ntmps29
  go_wp2
  generalize w.alloc (.cells (cm m ⟨va, vc, na, nc⟩) 28) = W at *
  have ha : Acc W W.drew [] [] := Acc.start (Below.refl _ _).drew
  go_region_held3 (SM w.heap.size m ⟨va, vc, na, nc⟩)
    (first | exact hS.out.drew | assumption | exact SM.below (by assumption) (by assumption) | exact SM.alloc (by assumption) _)
    (first
      | (go_at_call 45; ((with_reducible refine (acc_of (etext_any _ _ (by assumption)) (by assumption)).mono ?_); rintro e w' ⟨A, cap, rfl, hacc, hB⟩))
      | (go_at_call 44; ((with_reducible refine (acc_of (wide8 _ _ (by assumption)) (by assumption)).mono ?_); rintro e w' ⟨A, cap, rfl, hacc, hB⟩))
      | (go_at_call 44; ((with_reducible refine (acc_of (wide1i _ _ (by assumption) (by assumption)) (by assumption)).mono ?_); rintro e w' ⟨A, cap, rfl, hacc, hB⟩))
      | (go_at_call 44; ((with_reducible refine (acc_of (wide2 _ _ (by assumption)) (by assumption)).mono ?_); rintro e w' ⟨A, cap, rfl, hacc, hB⟩)))
  rename_i wz A cap hacc hB hHeld
  have hrow := Prt.lit hacc _ rfl 7 rfl (by simp)
  simp only [List.nil_append, List.cons_append] at hrow
  change Prt W _ _ (e0 m) at hrow
  have hrow0 := Lib.hid hrow
  have c06 := (hbx.out.below hrow.bel).msg.2.2.2.2.2.2.1
  clear hrow hHeld ha hS
  repeat (rename Acc _ _ _ _ => hq; clear hq)
  revert hW
  repeat (rename Below _ _ _ => hq; clear hq)
  intro hW
  go_wp2
  clear c06
  go_loopw [3, 38] (fun v i wr => ∃ k : Nat, k ≤ m.vers.length ∧ i = .int .i64 k ∧ Hid (Prt W wr v (eL1 m k))) (fun _ i _ => m.vers.length - (intOf i).toNat)
  case atStart => exact ⟨0, by omega, rfl, by rw [eL1_0]; exact hrow0⟩
  case round =>
    obtain ⟨k, hk, rfl, hrow⟩ := hrel
    clear hrow0
    have hWr := Lib.hid (hrow.out.trans hW.out)
    by_cases hlt : k < m.vers.length
    · obtain ⟨b, off, rfl, hbl, hvc⟩ := (hvl.out.below hWr.out).at hlt
      have hvo := Lib.hid (o5.out _ (vth_mem hlt))
      have hvf := Lib.hid (fv.out _ (vth_mem hlt)).2.2.1
      have htk := Lib.hid (eL1_s m hlt)
      generalize vth m.vers k = v at *
      obtain ⟨c1, c2, c3, c4, c5, c6⟩ := hvc
      go_wp2_with (fail)
      refine (ever_any v _ hvo.out hvf.out).mono ?_
      rintro e w2 ⟨A, cap, rfl, ho, hB2⟩
      have hm := (hrow.out.alloc (.cells (cv v) 51)).made ho hB2
      have hr2 := Lib.hid hm.1
      have hp2 := Lib.hid hm.2
      have hlr := Lib.hid (show (eL1 m k).length ≤ 100000 by have := eL1_n m k (by omega); omega)
      clear hm ho hB2 c1 c2 c3 c4 c5 c6 hrow
      go_wp2_with (at_builtin; refine wpList_addp rfl (.tmp 42) (.tmp 45) 69 rfl i0 Try.underlying69 hi0 hz0 hz1 hz2 _ _ rfl hr2.out _ (ev v) hp2.out rfl hlr.out ?_)
      intro v' w3 hr3
      replace hr3 := Lib.hid hr3
      rw [htk.out] at hr3
      clear hr2 hp2
      go_wp2
      go_roundw
      case rel => exact ⟨k + 1, by omega, by go_num, hr3⟩
      case measure => simp [intOf]; omega
    · obtain rfl : k = m.vers.length := by omega
      have c07 := (hbx.out.below hrow.out.bel).msg.2.2.2.2.2.2.2.1
      clear hvl o5 fv
      go_wp2_with (fail)
      refine (wide1 m.vec.length _ k4).mono ?_
      rintro e w2 ⟨A, cap, rfl, ho, hB2⟩
      have hm := hrow.out.made ho hB2
      have hr2 := Lib.hid hm.1
      have hp2 := Lib.hid hm.2
      have hlr := Lib.hid (show (eL1 m m.vers.length).length ≤ 100000 by have := eL1_n m m.vers.length o4; omega)
      clear hm ho hB2 hrow c07
      go_wp2_with (at_builtin; refine wpList_addp rfl (.tmp 48) (.tmp 54) 69 rfl i0 Try.underlying69 hi0 hz0 hz1 hz2 _ _ rfl hr2.out _ (fx 1 m.vec.length) hp2.out rfl hlr.out ?_)
      intro v3 w3 hr3
      rw [eL2_0] at hr3
      replace hr3 := Lib.hid hr3
      have c07 := (hbx.out.below hr3.out.bel).msg.2.2.2.2.2.2.2.1
      clear hr2 hp2 hWr hlr
      go_wp2
      clear c07
      go_loopw [3, 59] (fun v i wr => ∃ k : Nat, k ≤ m.vec.length ∧ i = .int .i64 k ∧ Hid (Prt W wr v (eL2 m k))) (fun _ i _ => m.vec.length - (intOf i).toNat)
      case atStart => exact ⟨0, by omega, rfl, hr3⟩
      case round =>
        obtain ⟨k, hk, rfl, hrow⟩ := hrel
        clear hr3
        have hWr := Lib.hid (hrow.out.trans hW.out)
        by_cases hlt : k < m.vec.length
        · obtain ⟨b, off, rfl, hbl, hvc⟩ := (hnl.out.below hWr.out).at hlt
          have hvf := Lib.hid (fn.out _ (nth_mem hlt))
          have htk := Lib.hid (eL2_s m hlt)
          generalize nth m.vec k = v at *
          go_wp2_with (fail)
          refine (wide8 v _ hvf.out).mono ?_
          rintro e w2 ⟨A, cap, rfl, ho, hB2⟩
          have hm := hrow.out.made ho hB2
          have hr2 := Lib.hid hm.1
          have hp2 := Lib.hid hm.2
          have hlr := Lib.hid (show (eL2 m k).length ≤ 100000 by have := eL2_n m k (by omega) o4; omega)
          clear hm ho hB2 hvc hrow
          go_wp2_with (at_builtin; refine wpList_addp rfl (.tmp 63) (.tmp 66) 69 rfl i0 Try.underlying69 hi0 hz0 hz1 hz2 _ _ rfl hr2.out _ (fx 8 v) hp2.out rfl hlr.out ?_)
          intro v' w3 hr3
          replace hr3 := Lib.hid hr3
          rw [htk.out] at hr3
          clear hr2 hp2
          go_wp2
          go_roundw
          case rel => exact ⟨k + 1, by omega, by go_num, hr3⟩
          case measure => simp [intOf]; omega
        · obtain rfl : k = m.vec.length := by omega
          rw [eL3_0] at hrow
          obtain ⟨-, -, -, -, -, -, -, -, d8, d9, d10, d11, d12, d13⟩ := (hbx.out.below hrow.out.bel).msg
          clear hnl fn
          go_wp2_with (fail)
          refine (numsOf_any m.cmd _).mono ?_
          rintro e w2 ⟨rfl, hB2⟩
          have hr2 := Lib.hid (hrow.out.below hB2)
          clear hrow hB2 d8 d9 d10 d11 d12 d13 hWr
          go_wp2
          go_loopw [3, 72] (fun v i wr => ∃ k : Nat, k ≤ 5 ∧ i = .int .i64 k ∧ Hid (Prt W wr v (eL3 m k))) (fun _ i _ => 5 - (intOf i).toNat)
          case atStart => exact ⟨0, by omega, rfl, hr2⟩
          case round =>
            obtain ⟨k, hk5, rfl, hrow⟩ := hrel
            clear hr2
            by_cases hlt : k < 5
            · have hidx := index5 m.cmd k hlt wr
              obtain ⟨x0, x1⟩ := nat_ok o7.out hlt
              have htk := Lib.hid (eL3_s m hlt)
              generalize nat m.cmd k = x at *
              have x2 : x < 256 := by omega
              have x3 := wrap64i x x0 (by omega)
              go_wp2_with (fail)
              refine (wide1i x _ x0 x2).mono ?_
              rintro e w2 ⟨A, cap, rfl, ho, hB2⟩
              have hm := hrow.out.made ho hB2
              have hr2 := Lib.hid hm.1
              have hp2 := Lib.hid hm.2
              have hlr := Lib.hid (show (eL3 m k).length ≤ 100000 by have := eL3_n m k (by omega) o4 o6; omega)
              clear hm ho hB2 hrow hidx
              go_wp2_with (at_builtin; refine wpList_addp rfl (.tmp 75) (.tmp 79) 69 rfl i0 Try.underlying69 hi0 hz0 hz1 hz2 _ _ rfl hr2.out _ (fx 1 x.toNat) hp2.out rfl hlr.out ?_)
              intro v' w3 hr3
              replace hr3 := Lib.hid hr3
              rw [htk.out] at hr3
              clear hr2 hp2
              go_wp2
              go_roundw
              case rel => exact ⟨k + 1, by omega, by go_num, hr3⟩
              case measure => simp [intOf]; omega
            · obtain rfl : k = 5 := by omega
              have d13 := (hbx.out.below hrow.out.bel).msg.2.2.2.2.2.2.2.2.2.2.2.2.2
              have hen := Lib.hid (eL_end m)
              go_wp2_with (fail)
              refine (etext_any m.cmd.key _ k5).mono ?_
              rintro e w2 ⟨A, cap, rfl, ho, hB2⟩
              have hm := hrow.out.made ho hB2
              have hr2 := Lib.hid hm.1
              have hp2 := Lib.hid hm.2
              have hlr := Lib.hid (show (eL3 m 5).length ≤ 100000 by have := eL3_n m 5 (by omega) o4 o6; omega)
              clear hm ho hB2 hrow d13
              go_wp2_with (at_builtin; refine wpList_addp rfl (.tmp 82) (.tmp 87) 69 rfl i0 Try.underlying69 hi0 hz0 hz1 hz2 _ _ rfl hr2.out _ (tx1 m.cmd.key) hp2.out rfl hlr.out ?_)
              intro v' w3 hr3
              obtain ⟨-, xs, hq, -⟩ := id hr3
              obtain ⟨A', c', rfl⟩ : ∃ A c, v' = .slice A (eL3 m 5 ++ [tx1 m.cmd.key]).length c := by
                rcases hq.2 with ⟨e, e0⟩ | ⟨g, cap, cur, e, _⟩
                · exact ⟨none, 0, by rw [e, e0]⟩
                · exact ⟨_, cap, e⟩
              clear hq
              have hl := (hr3.lst (by have := hlr.out; rw [List.length_append, List.length_singleton]; have := eL3_n m 5 (by omega) o4 o6; omega)).2
              have hj := joined_any none A' (eL3 m 5 ++ [tx1 m.cmd.key]).length c' _ w3 hl (by rw [hen.out]; exact hel.out)
              rw [hen.out] at hj
              replace hj := Lib.hid hj
              have hB3 := Lib.hid (hr3.trans hW.out)
              clear hl hr3 hr2 hp2
              generalize (eL3 m 5 ++ [tx1 m.cmd.key]).length = nn at *
              go_wp2_with (fail)
              refine hj.out.mono ?_
              rintro e w4 ⟨A4, c4, rfl, ho4, hB4⟩
              go_wp2
              go_ret
              exact Makes.of rfl (Own.more (base' := w.heap.size) ho4 hB3.out.size) (trans0 hB3.out hB4)
end Go.Proofs.Ytkbhmeajgmecoaa.wirH
