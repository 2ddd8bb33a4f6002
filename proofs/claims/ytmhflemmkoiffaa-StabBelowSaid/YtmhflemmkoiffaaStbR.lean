/- StabRises. -/
import Derived.Test.YtmhflemmkoiffaaStbM
import Derived.Test.YtmhflemmkoiffaaStbN
set_option linter.unusedVariables false
set_option linter.unusedSimpArgs false
namespace Go.Proofs.Ytmhflemmkoiffaa.stbR
open Go.ChangeShapes Go.WideShapes Go.ChangeAt Go.RowKit Go.Deep
open opG opB stVA stVB stVC stVD stVF stVH stVP stbA stbB stbC stbD stbE stbF stbG stbH stbN stbM

/-- nobody counts, as it is asked -/
abbrev nb (v : V) : Bool := b4 v.h0 v.h1 v.h2 v.h3 false false false false
theorem nb_iff (v : V) : nb v = true ↔ nob v := by
  unfold nb b4 nob
  simp
/-- the round's table, what was kept of the round before -/
abbrev RS (W : World) (p q : Nat) (s : Tb) (w : World) : Prop := stbA.T p q s w ∧ Below W.heap.size W w
theorem kp_below {W w w1 : World} {p q : Nat} (hB : Below W.heap.size W w) (h : Kp p q w w1) (hp : W.heap.size ≤ p) (hq : W.heap.size ≤ q) : Below W.heap.size W w1 := hB.trans (h.below hB.size hp hq)
theorem R4.kp {b p q : Nat} {m : V} {w w1 : World} (h : R4 b m w) (hk : Kp p q w w1) (hp : b ≠ p) (hq : b ≠ q) : R4 b m w1 := h.of_block (hk.block b h.lt hp hq)
set_option maxRecDepth 100000 in
set_option maxHeartbeats 4000000 in
theorem rises_any (dc n : Int) (g : V) (a : Option Addr) (len cap : Nat) (l : List opB.Op) (W : World) (h : Rs W QOp 4 a len l) : Calls Try.prog 3 #[.int .i64 dc, .int .i64 n, hV g, .slice a len cap] W fun r w' => r = .returned (.bool true) ∧ Below W.heap.size W w' := by
  obtain ⟨hl, hm, h0⟩ := h
  have hB0 := Lib.hid (al0 W (.cells (aH g) 22))
  have hG := Lib.hid (R4.new W g)
  by_cases hok : dc < 0 ∨ 4 ≤ dc ∨ n < 1 ∨ 4 < n
  · obtain ⟨g0, g1, g2, g3⟩ := R4.cells hG.out
    clear h0
    go_enter Try.func3, Try.ntmps3
    go_wp2_with (fail)
    refine (new_arg dc n g _ hok).mono ?_
    rintro e w1 ⟨rfl, hB1⟩
    have hB2 := Lib.hid (trans0 hB0.out hB1)
    clear hB1 g0 g1 g2 g3
    go_wp2_with (fail)
    refine (awake_any _).mono ?_
    rintro e w2 ⟨rfl, hB3⟩
    have hB4 := Lib.hid (trans0 hB2.out hB3)
    clear hB3
    go_wp2
    go_ret
    exact ⟨rfl, hB4.out⟩
  obtain ⟨m, rfl⟩ := Int.eq_ofNat_of_zero_le (show 0 ≤ n by omega)
  have hnw := Lib.hid (new_ok dc m g (W.alloc (.cells (aH g) 22)) (by omega) (by omega))
  obtain ⟨g0, g1, g2, g3⟩ := R4.cells hG.out
  rcases h0 with h0 | ⟨b, off, rfl, hb, hq⟩
  · subst h0
    go_enter Try.func3, Try.ntmps3
    go_wp2_with (fail)
    refine hnw.out.mono ?_
    rintro e w1 ⟨p, q, rfl, hp, hq, hT, hB1⟩
    have hB2 := Lib.hid (trans0 hB0.out hB1)
    clear hB1 g0 g1 g2 g3 hnw hB0 hG hT
    go_wp2
    go_loopw [11] (fun i wr => i = .int .i64 0 ∧ wr = w1) (fun i _ => 50 - (intOf i).toNat)
    case atStart => exact ⟨rfl, rfl⟩
    case round =>
      obtain ⟨rfl, rfl⟩ := hrel
      go_wp2_with (fail)
      refine (awake_any _).mono ?_
      rintro e w2 ⟨rfl, hB⟩
      replace hB := Lib.hid (trans0 hB2.out hB)
      go_wp2
      go_ret
      exact ⟨rfl, hB.out⟩
  · have hq' := Lib.hid hq
    clear hq
    have hl' := Lib.hid hl
    clear hl
    go_enter Try.func3, Try.ntmps3
    go_wp2_with (fail)
    refine hnw.out.mono ?_
    rintro e w1 ⟨p, q, rfl, hp, hq, hT, hB1⟩
    have hB2 := Lib.hid (trans0 hB0.out hB1)
    have hT1 := Lib.hid hT
    have hpq : Hid (W.heap.size ≤ p ∧ W.heap.size ≤ q) := Lib.hid (by rw [World.size_alloc] at hp hq; omega)
    have he1 := Lib.hid (eq_new dc m g)
    clear hB1 g0 g1 g2 g3 hnw hB0 hG hT hp hq
    go_wp2
    go_loopw [11] (fun i wr => ∃ (j : Nat) (s : Tb), i = .int .i64 j ∧ j ≤ len ∧ j ≤ 150 ∧ Hid (stbA.T p q s wr) ∧ Hid s.eq ∧ Hid (Below W.heap.size W wr)) (fun i _ => 150 - (intOf i).toNat)
    case atStart => exact ⟨0, _, rfl, by omega, by omega, hT1, he1, hB2⟩
    case round =>
      clear hT1 he1 hB2 hok
      obtain ⟨j, s, rfl, hj, hj5, hT, hE, hB⟩ := hrel
      by_cases h1 : j < len
      · by_cases h2 : j < 150
        · have hQ := Lib.hid (hq'.out j h1)
          generalize l.getD j default = o at *
          have hr1 := Lib.hid (rise_loc s o)
          have hr2 := Lib.hid (rise_st s o)
          have hr3 := Lib.hid (rise_ap s o)
          have kD := Lib.hid (fun wx (hx : stbA.T p q s wx) => do_any o wx hx hE.out)
          have hE2 := Lib.hid (eq_do hE.out o)
          generalize doS s o = s2 at *
          generalize doE s o = er at *
          have kA := Lib.hid (fun wx (hx : stbA.T p q s wx) => applied_any wx hx)
          have kL := Lib.hid (fun wx (hx : stbA.T p q s wx) => local_any wx hx)
          have kA2 := Lib.hid (fun wx (hx : stbA.T p q s2 wx) => applied_any wx hx)
          have kL2 := Lib.hid (fun wx (hx : stbA.T p q s2 wx) => local_any wx hx)
          generalize ap s = ap1 at *
          generalize ap s2 = ap2 at *
          generalize loc s = lo1 at *
          generalize loc s2 = lo2 at *
          go_wp2_with (fail)
          refine (kL.out _ hT.out).mono ?_
          rintro e wa ⟨rfl, rfl⟩
          go_wp2_with (fail)
          refine (kA.out _ hT.out).mono ?_
          rintro e w2 ⟨rfl, hB9⟩
          have hT2 := Lib.hid (hT.out.below hB9)
          have hB2 := Lib.hid (trans0 hB.out hB9)
          clear hB9 hT hB
          go_wp2_with (fail)
          refine (stable_any _ hT2.out).mono ?_
          rintro e wb ⟨rfl, rfl⟩
          go_wp2_with (fail)
          refine (members_any _ hT2.out).mono ?_
          rintro e w3 ⟨rfl, hB9⟩
          have hT3 := Lib.hid (hT2.out.below (bal hB9 (.cells (aH s.g) 22)))
          have hB3 := Lib.hid (trans0 hB2.out (bal hB9 (.cells (aH s.g) 22)))
          have hR3 := Lib.hid (R4.new w3 s.g)
          have hbx : Hid (w3.heap.size ≠ p ∧ w3.heap.size ≠ q) := Lib.hid (by have h1 := hT2.out.row.lt; have h2 := hT2.out.bts.lt; have h3 := hB9.size; omega)
          clear hB9 hT2 hB2
          obtain ⟨k0, k1, k2, k3⟩ := op_at hQ.out hB3.out
          go_wp2_with (fail)
          refine (kD.out _ hT3.out).mono ?_
          rintro e w5 ⟨rfl, hT5, hK5⟩
          replace hT5 := Lib.hid hT5
          have hB5 := Lib.hid (kp_below hB3.out hK5 hpq.out.1 hpq.out.2)
          have hR5 := Lib.hid (R4.kp hR3.out hK5 hbx.out.1 hbx.out.2)
          clear hK5 hT3 hR3 hB3 k0 k1 k2 k3 hbx
          generalize w3.heap.size = bx at *
          go_upto_region 10 with (fail)
          obtain ⟨x1, hx1⟩ : ∃ x, nb s2.g = x := ⟨_, rfl⟩
          obtain ⟨x2, hx2⟩ : ∃ x, nb s.g = x := ⟨_, rfl⟩
          have hr4 : Hid ((x1 && !x2) = true ∨ ap1 ≤ ap2 ∨ o.k = 3) := Lib.hid (by
            by_cases hk : o.k = 3
            · exact .inr (.inr hk)
            · rcases hr3.out hk with ⟨a, b⟩ | c
              · refine .inl ?_
                rw [← hx1, ← hx2, (nb_iff _).2 a]
                cases e : nb s.g
                · rfl
                · exact absurd ((nb_iff _).1 e) b
              · exact .inr (.inl c))
          replace hr4 : Hid (∃ y, (x1 && !x2) = y ∧ (y = true ∨ ap1 ≤ ap2 ∨ o.k = 3)) := Lib.hid ⟨_, rfl, hr4.out⟩
          obtain ⟨y, hy, hr5⟩ := hr4.out
          replace hy := Lib.hid hy
          replace hr5 := Lib.hid hr5
          clear hr3 hr4
          go_cut [16] from 63 to 71 (fun v wx => v = .bool y ∧ Hid (stbA.T p q s2 wx ∧ Below W.heap.size W wx))
          case first =>
            clear hr1 hr2 hr5 hQ kA kL kA2 kL2 kD
            have hB6 := Lib.hid (show ∀ w6, Below w5.heap.size w5 w6 → stbA.T p q s2 w6 ∧ Below W.heap.size W w6 from fun w6 h6 => ⟨hT5.out.below h6, trans0 hB5.out h6⟩)
            go_wp2_with (fail)
            refine (members_any _ hT5.out).mono ?_
            rintro e w6 ⟨rfl, hB9⟩
            have hB7 := Lib.hid (hB6.out _ hB9)
            obtain ⟨g0, g1, g2, g3⟩ := R4.cells (R4.below hR5.out hB9)
            clear hB9 hT5 hB5 hR5 hB6
            cases x1
            · cases hy.out
              go_wp2
              go_meet
              exact ⟨rfl, hB7⟩
            · cases x2
              · cases hy.out
                go_wp2
                go_meet
                exact ⟨rfl, hB7⟩
              · cases hy.out
                go_wp2
                go_meet
                exact ⟨rfl, hB7⟩
          case rest =>
            obtain ⟨rfl, hQ6⟩ := hcut
            have hT6 := Lib.hid hQ6.out.1
            have hB6 := Lib.hid hQ6.out.2
            clear hQ6 hx1 hx2 hy hT5 hB5 hR5
            have hr6 : ¬ lo2 < lo1 := by have := hr1.out; omega
            have hr7 : ¬ s2.st < s.st := by have := hr2.out; omega
            by_cases hap : ap2 < ap1
            · have hr8 : y = true ∨ o.k = 3 := by rcases hr5.out with h | h | h; exact .inl h; omega; exact .inr h
              have hkc : o.k = 3 ∨ (o.k ≠ 3 ∧ y = true) := by
                by_cases hk : o.k = 3
                · exact .inl hk
                · exact .inr ⟨hk, by rcases hr8 with h | h; exact h; exact absurd h hk⟩
              clear hr5 hr8
              rcases hkc with hk | ⟨hk, rfl⟩
              · go_wp2_with (fail)
                refine (kL2.out _ hT6.out).mono ?_
                rintro e w7 ⟨rfl, rfl⟩
                go_wp2_with (fail)
                refine (stable_any _ hT6.out).mono ?_
                rintro e w7 ⟨rfl, rfl⟩
                go_wp2_with (fail)
                refine (kA2.out _ hT6.out).mono ?_
                rintro e w8 ⟨rfl, hB9⟩
                have hT8 := Lib.hid (hT6.out.below hB9)
                have hB8 := Lib.hid (trans0 hB6.out hB9)
                clear hB9 hT6 hB6
                obtain ⟨k0, -, -, -⟩ := op_at hQ.out hB8.out
                rw [hk] at k0
                clear hk
                go_wp2
                go_roundw
                case rel => exact ⟨j + 1, s2, by go_num, by omega, by omega, hT8, hE2, hB8⟩
                case measure => simp [intOf]; omega
              · have hkb : (o.k != 3) = true := by simpa using hk
                go_wp2_with (fail)
                refine (kL2.out _ hT6.out).mono ?_
                rintro e w7 ⟨rfl, rfl⟩
                go_wp2_with (fail)
                refine (stable_any _ hT6.out).mono ?_
                rintro e w7 ⟨rfl, rfl⟩
                go_wp2_with (fail)
                refine (kA2.out _ hT6.out).mono ?_
                rintro e w8 ⟨rfl, hB9⟩
                have hT8 := Lib.hid (hT6.out.below hB9)
                have hB8 := Lib.hid (trans0 hB6.out hB9)
                clear hB9 hT6 hB6
                obtain ⟨k0, -, -, -⟩ := op_at hQ.out hB8.out
                go_wp2
                go_roundw
                case rel => exact ⟨j + 1, s2, by go_num, by omega, by omega, hT8, hE2, hB8⟩
                case measure => simp [intOf]; omega
            · go_wp2_with (fail)
              refine (kL2.out _ hT6.out).mono ?_
              rintro e w7 ⟨rfl, rfl⟩
              go_wp2_with (fail)
              refine (stable_any _ hT6.out).mono ?_
              rintro e w7 ⟨rfl, rfl⟩
              go_wp2_with (fail)
              refine (kA2.out _ hT6.out).mono ?_
              rintro e w8 ⟨rfl, hB9⟩
              have hT8 := Lib.hid (hT6.out.below hB9)
              have hB8 := Lib.hid (trans0 hB6.out hB9)
              clear hB9 hT6 hB6
              go_wp2
              go_roundw
              case rel => exact ⟨j + 1, s2, by go_num, by omega, by omega, hT8, hE2, hB8⟩
              case measure => simp [intOf]; omega
        · obtain rfl : j = 150 := by omega
          go_wp2_with (fail)
          refine (awake_any _).mono ?_
          rintro e w2 ⟨rfl, hB2⟩
          have hB3 := Lib.hid (trans0 hB.out hB2)
          go_wp2
          go_ret
          exact ⟨rfl, hB3.out⟩
      · obtain rfl : j = len := by omega
        go_wp2_with (fail)
        refine (awake_any _).mono ?_
        rintro e w2 ⟨rfl, hB2⟩
        have hB3 := Lib.hid (trans0 hB.out hB2)
        go_wp2
        go_ret
        exact ⟨rfl, hB3.out⟩
end Go.Proofs.Ytmhflemmkoiffaa.stbR
