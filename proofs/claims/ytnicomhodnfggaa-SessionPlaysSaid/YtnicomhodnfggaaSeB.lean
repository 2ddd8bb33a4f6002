/- The contract of slices.BinarySearchFunc by keys; find. -/
import Derived.Test.YtnicomhodnfggaaSeN
set_option linter.unusedVariables false
set_option linter.unusedSimpArgs false
set_option maxRecDepth 100000
namespace Go.Proofs.Ytnicomhodnfggaa.seB
open Go.ChangeShapes Go.WideShapes Go.ChangeAt Go.RowKit Go.Deep
open opV chnM gen chnA chnR chnE seM seI ordC seL seN

set_option maxHeartbeats 1000000 in
theorem bsf_any (A : Option Addr) (c : Nat) (l : List Ver) (k : ByteArray) (w : World) (h : HV w A c l) (hu : Up l) :
    Calls Try.prog 35 #[.slice A l.length c, .string k, .func (.func 36) #[] #[]] w fun e w' =>
      e = .returned (.tuple #[.int .i64 (pos l k), .bool (is l k)]) ∧ Below w.heap.size w w' := by
  have hn : l.length ≤ 2199023255552 := by have := h.sm; omega
  have hfound := Lib.hid (fun i => hu.search (k := k) (i := i))
  have hmono := Lib.hid (fun (i j : Nat) (hij : i < j) (hj : j < l.length) => hu.lt hij hj)
  have hthere := Lib.hid (hu.is_at (k := k))
  replace h := Lib.hid h
  have hcmp := Lib.hid (fun x w => by_key x k w)
  obtain ⟨Q, hQ⟩ : ∃ Q, pos l k = Q := ⟨_, rfl⟩
  obtain ⟨T, hT⟩ : ∃ T, is l k = T := ⟨_, rfl⟩
  rw [hQ, hT] at hthere
  rw [hQ] at hfound
  rw [hQ, hT]
  clear hQ hT hu
  go_enter Try.func35, Try.ntmps35
  go_wp2
  go_loopw [9, 10] (fun s t wr => ∃ i j : Nat, i ≤ j ∧ j ≤ l.length ∧ s = .int .i64 i ∧ t = .int .i64 j ∧ Hid (∀ m, m < i → slt (nt l m).key k = true) ∧ Hid (∀ m, j ≤ m → m < l.length → slt (nt l m).key k = false) ∧ Hid (Below w.heap.size w wr)) (fun s t _ => (intOf t - intOf s).toNat)
  case atStart => exact ⟨0, l.length, by omega, by omega, rfl, rfl, Lib.hid (fun k hk => by omega), Lib.hid (fun k h1 h2 => by omega), Lib.hid (Below.refl _ _)⟩
  case round =>
    obtain ⟨i, j, hij, hj, rfl, rfl, h1, h2, hB⟩ := hrel
    by_cases hlt : i < j
    · obtain ⟨q, hq⟩ : ∃ q, (i + j) / 2 = q := ⟨_, rfl⟩
      have hq1 : i ≤ q ∧ q < j := by omega
      have hltI : (i : Int) < (j : Int) := by omega
      have hqI : ((i : Int) + (j : Int)) / 2 = (q : Int) := by omega
      have hqn : (q : Int) < (l.length : Int) := by omega
      have hq0 : (0 : Int) ≤ (q : Int) := by omega
      have hql : q < l.length := by omega
      obtain ⟨pb, po, rfl, hpb, hc⟩ := (h.out.below hB.out).at hql
      obtain ⟨z, hz⟩ : ∃ z, kc (nt l q).key k = z := ⟨_, rfl⟩
      have hcm := Lib.hid (fun w => (by have := hcmp.out (nt l q) w; rwa [hz] at this : Calls Try.prog 36 #[vv (nt l q), .string k] w fun e w' => e = .returned (.int .i64 z) ∧ Below w.heap.size w w'))
      clear hq
      cases ha : slt (nt l q).key k with
      | true =>
        have hzn : z < 0 := by rw [← hz]; exact (kc_lt _ _).2 ha
        have hs' : Hid (∀ m, m < q + 1 → slt (nt l m).key k = true) := Lib.hid (fun m hm => by
          by_cases hkq : m = q
          · rw [hkq]; exact ha
          · exact slt_trans (hmono.out m q (by omega) hql) ha)
        clear hz ha h1
        generalize nt l q = x at *
        obtain ⟨c0, c1, c2, c3, c4, c5⟩ := hc
        go_wp2_with (go_at_call 36; (with_reducible refine (hcm.out _).mono ?_); rintro e w' ⟨rfl, hB9⟩)
        have hB' := Lib.hid (trans0 hB.out hB9)
        clear hB hB9 hcmp hcm
        go_roundw
        case rel => exact ⟨q + 1, j, by omega, hj, by go_num, rfl, hs', h2, hB'⟩
        case measure => simp [intOf]; omega
      | false =>
        have hzn : ¬ z < 0 := by rw [← hz]; intro h9; rw [(kc_lt _ _).1 h9] at ha; cases ha
        have hs' : Hid (∀ m, q ≤ m → m < l.length → slt (nt l m).key k = false) := Lib.hid (fun m hk hkl => by
          by_cases hkq : m = q
          · rw [hkq]; exact ha
          · cases h9 : slt (nt l m).key k
            · rfl
            · rw [slt_trans (hmono.out q m (by omega) hkl) h9] at ha; cases ha)
        clear hz ha h2
        generalize nt l q = x at *
        obtain ⟨c0, c1, c2, c3, c4, c5⟩ := hc
        go_wp2_with (go_at_call 36; (with_reducible refine (hcm.out _).mono ?_); rintro e w' ⟨rfl, hB9⟩)
        have hB' := Lib.hid (trans0 hB.out hB9)
        clear hB hB9 hcmp hcm
        go_roundw
        case rel => exact ⟨i, q, by omega, by omega, rfl, rfl, h1, hs', hB'⟩
        case measure => simp [intOf]; omega
    · obtain rfl : i = j := by omega
      have hf := hfound.out i hj h1.out h2.out
      subst hf
      clear hfound hmono h1 h2
      by_cases hin : i < l.length
      · have hinI : (i : Int) < (l.length : Int) := by omega
        obtain ⟨pb, po, rfl, hpb, hc⟩ := (h.out.below hB.out).at hin
        have hTz : T = (kc (nt l i).key k == 0) := by
          have h9 := hthere.out
          by_cases h8 : kc (nt l i).key k = 0
          · rw [h8]; exact h9.2 ⟨hin, (kc_zero _ _).1 h8⟩
          · rw [beq_false_of_ne h8]
            cases hT : T
            · rfl
            · exact absurd ((kc_zero _ _).2 (h9.1 hT).2) h8
        have hcm := Lib.hid (hcmp.out (nt l i))
        clear hthere hcmp
        generalize kc (nt l i).key k = z at *
        generalize nt l i = x at *
        obtain ⟨c0, c1, c2, c3, c4, c5⟩ := hc
        replace hTz := Lib.hid hTz
        go_wp2_with (go_at_call 36; (with_reducible refine (hcm.out _).mono ?_); rintro e w' ⟨rfl, hB9⟩)
        have hB' := Lib.hid (trans0 hB.out hB9)
        clear hB hB9 hcm
        go_ret2
        exact ⟨by rw [hTz.out]; rfl, hB'.out⟩
      · have hT : T = false := by
          cases hT : T
          · rfl
          · exact absurd (hthere.out.1 hT).1 hin
        have hinI : ¬ (i : Int) < (l.length : Int) := by omega
        clear hthere hcmp
        subst hT
        go_wp2
        go_ret2
        exact ⟨rfl, hB.out⟩
section
variable {col : Nat → Nat} {c p : Nat} {S : Ss}
theorem find_at (w : World) (h : SesAt col c w p S) (hok : S.ok) (k : ByteArray) : Calls Try.prog 28 #[.pointer (some ⟨p, 0, none⟩), .string k] w fun e w' =>
    e = .returned (.tuple #[.int .i64 (pos S.ws k), .bool (is S.ws k)]) ∧ Below w.heap.size w w' := by
  obtain ⟨A, cw, mb, n, D, h, hr⟩ := h
  obtain ⟨k0, k1, k2, k3, k4⟩ := h.cells
  have hb := Lib.hid (fun w' (hB : Below w.heap.size w w') => bsf_any A cw S.ws k w' ((h.below hB).ro.hv (by have := hok.le; omega)) hok.up)
  have hB := Below.refl w.heap.size w
  clear h hr
  generalize pos S.ws k = Q at *
  generalize is S.ws k = T at *
  go_enter Try.func28, Try.ntmps28
  go_wp2_with (go_at_call 35; (with_reducible refine (hb.out _ hB).mono ?_); rintro e w' ⟨rfl, hB9⟩)
  go_ret2
  exact ⟨rfl, hB9⟩
end
end Go.Proofs.Ytnicomhodnfggaa.seB
