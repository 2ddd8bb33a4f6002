/- OrderRises: the walk. -/
import Derived.Test.YtipnmgihbpbonaaOrdRi
set_option linter.unusedVariables false
set_option linter.unusedSimpArgs false
set_option maxRecDepth 100000
namespace Go.Proofs.Ytipnmgihbpbonaa.ordRj
open Go.ChangeShapes Go.WideShapes Go.ChangeAt Go.RowKit Go.Deep
open opG opV opR chnM gen chnA chnR chnE ordA ordB ordC ordM ordL ordD ordH ordI ordK ordRl ordW ordS ordE2 ordE3 ordRi

theorem rst_new (w : World) : Rst w w.heap.size L0 0 none 0 [] (w.alloc (.cells #[.slice none 0 0, .slice none 0 0, .int .u64 0] T1)) := by
  obtain ⟨hA, hfA, heA⟩ := at_new (T := T1) (col := fun _ => 0) (c := 1) w (by decide) (fun _ _ => rfl)
  exact ⟨_, hA, ok0, hfA, fun k hk => by unfold colP; rw [if_neg (by omega)]; exact (by decide : (0 : Nat) ≠ 1), Cz.nil_ _ _, by simp [L0], al0 _ _⟩
set_option maxHeartbeats 4000000 in
theorem rises_any (A : Option Addr) (len cap : Nat) (ops : List Oq) (w : World) (hq : Rs w QOp 6 A len ops) : Calls Try.prog 4 #[.slice A len cap] w fun e w' => e = .returned (.bool true) ∧ Below w.heap.size w w' := by
  have hlen9 := hq.2.1
  have hcell := Lib.hid (fun (j : Nat) (hj : j < len) => (show ∃ b off, A = some ⟨b, off, none⟩ ∧ b < w.heap.size ∧ QOp w b (off + j * 6) (ops.getD j default) by
    rcases hq.2.2 with h0 | ⟨b, off, e, h3, h4⟩
    · omega
    · exact ⟨b, off, e, h3, h4 j hj⟩))
  have h0 := Lib.hid (rst_new w)
  obtain ⟨W, hW⟩ : ∃ W, w.alloc (.cells #[.slice none 0 0, .slice none 0 0, .int .u64 0] T1) = W := ⟨_, rfl⟩
  rw [hW] at h0
  replace hW := Lib.hid hW
  clear hq
  go_enter Try.func4, Try.ntmps4
  go_wp2_with (fail)
  with_reducible refine (new_any w).mono ?_
  rintro e w1 ⟨rfl, rfl⟩
  rw [hW.out]
  go_wp2
  go_loopw [4, 5] (fun s t wr => ∃ (j : Nat) (A' : Option Addr) (c' : Nat) (l : List MR) (L : Lg), s = .slice A' l.length c' ∧ t = .int .i64 j ∧ j ≤ len ∧ j ≤ 60 ∧ Hid (Rst w w.heap.size L j A' c' l wr) ∧ Hid (l.map MR.r = L.st)) (fun _ t _ => 60 - (intOf t).toNat)
  case atStart => exact ⟨0, none, 0, [], L0, rfl, rfl, by omega, by omega, h0, Lib.hid rfl⟩
  case round =>
    clear h0
    obtain ⟨j, A', c', l, L, rfl, rfl, hj, hj6, hR, hl⟩ := hrel
    by_cases h1 : j < len
    · by_cases h2 : j < 60
      · obtain ⟨b, off, rfl, hbl, hQ⟩ := hcell.out j h1
        generalize ops.getD j default = o at *
        obtain ⟨k0, ⟨k1, k2, k3, k4⟩, k5⟩ := op_cells hQ hR.out.bel
        have hjI : (j : Int) < (len : Int) := by omega
        have hj60 : (j : Int) < 60 := by omega
        have hal := al0 wr (.cells (oC o) 34)
        have hbx := Lib.hid (B6.new wr o)
        have hR1 := Lib.hid (hR.out.below hal)
        obtain ⟨W1, hW1⟩ : ∃ W1, wr.alloc (.cells (oC o) 34) = W1 := ⟨_, rfl⟩
        rw [hW1] at hal hbx hR1
        replace hW1 := Lib.hid hW1
        have hkm := Lib.hid (fun w' (hB : Below w.heap.size w w') => hQ.2.2.1.2.2.2.1.below hB)
        have hks := Lib.hid hQ.2.2.1.2.2.2.2
        clear hQ hal
        go_upto_if 28 with (fail)
        rw [hW1.out]
        clear k0 k1 k2 k3 k4 k5
        go_cut [] from 28 to 37 (fun wx => Hid (∃ L', Rst w w.heap.size L' (j + 1) A' c' l wx ∧ ∃ r, L'.st = L.st ++ r))
        case first =>
          obtain ⟨k0, ⟨k1, k2, k3, k4⟩, k5⟩ := hbx.out
          by_cases hk : o.kind = 0
          · have hkb : (o.kind == 0) = true := by simpa using hk
            have hmv := hkm.out W1 hR1.out.bel
            have hfe := Lib.hid (few_any o.m W1 hmv.le hmv.top)
            replace hmv := Lib.hid hmv
            clear hk k0 k5
            go_wp2_with (fail)
            refine hfe.out.mono ?_
            rintro e w2 ⟨rfl, hB2⟩
            have hR2 := hR1.out.below hB2
            have hd := Lib.hid (hR2.decide_ (by omega) (fw o.m) (HV.few (hmv.out.below hB2)) (sm_few hks.out))
            clear hfe hB2 hR2 k1 k2 k3 k4
            go_wp2_with (fail)
            refine hd.out.mono ?_
            rintro e w3 ⟨rfl, hR3⟩
            have hcut := Lib.hid (show ∃ L', Rst w w.heap.size L' (j + 1) A' c' l w3 ∧ ∃ r, L'.st = L.st ++ r from ⟨_, hR3, [], by rw [(len_dS L _).1, List.append_nil]⟩)
            clear hR3 hd
            go_wp2
            go_meet
            exact hcut
          · have hkb : (o.kind == 0) = false := by simpa using hk
            have hd := Lib.hid (hR1.out.release (by omega) o.t)
            clear hk k0 k1 k2 k3 k4
            go_wp2_with (fail)
            refine hd.out.mono ?_
            rintro e w3 ⟨rfl, hR3⟩
            have hcut := Lib.hid (show ∃ L', Rst w w.heap.size L' (j + 1) A' c' l w3 ∧ ∃ r, L'.st = L.st ++ r from ⟨_, hR3, _, rfl⟩)
            clear hR3 hd
            go_wp2
            go_meet
            exact hcut
        case rest =>
        obtain ⟨L', hR2, r, hst⟩ := hcut.out
        have hsb := Lib.hid (hR2.stable_ (by omega) 0 (by omega))
        clear hcut hR hR1 hbx hkm hks
        replace hst := Lib.hid hst
        replace hR2 := Lib.hid hR2
        go_wp2_with (fail)
        refine hsb.out.mono ?_
        rintro e w4 ⟨A2, c2, l2, rfl, hl2, hR4, hR5⟩
        have hl2' := Lib.hid (show l2.map MR.r = L'.st from hl2)
        have hlen2 : l2.length = L'.st.length := by rw [← hl2'.out, List.length_map]
        have hlen1 : l.length = L.st.length := by rw [← hl.out, List.length_map]
        have hle : l.length ≤ l2.length := by rw [hlen1, hlen2, hst.out, List.length_append]; omega
        have hd1 : decide (l2.length < l.length) = false := decide_eq_false (by omega)
        have hd2 : ¬ ((l2.length : Int) < (l.length : Int)) := by omega
        obtain ⟨col, -, hok', -, -, hC1, -, -⟩ := hR4
        obtain ⟨col2, -, -, -, -, hC2, -, -⟩ := id hR5
        have hc2 := hC2.row.le
        have ht2 := hC2.row.top
        have hs1 := slice_to A2 l2.length c2 l.length (by omega)
        have hsm := same_any A2 c2 (l2.take l.length) A' c' l w4 (hC2.take hle).rr2 hC1.rr2
        rw [show (l2.take l.length).length = l.length by simp; omega, show (l2.take l.length).map MR.r = l.map MR.r by rw [List.map_take, hl2'.out, hl.out, hst.out, hlen1, List.take_left], decide_eq_true rfl] at hsm
        have hup : Hid (∀ k, k + 1 < l2.length → isAhead (nt l2 k).k (nt l2 (k + 1)).k = true) := Lib.hid (fun k hk => by
          have := (hok'.upS).lt (i := k) (k := k + 1) (by omega) (by omega)
          rw [← hl2'.out, nt_map (by omega), nt_map (by omega)] at this
          exact this)
        replace hlen2 := Lib.hid hlen2
        replace hsm := Lib.hid hsm
        replace hR5 := Lib.hid hR5
        clear hl2 hC1 hC2 hok' hlen1 hle hst hsb hl
        go_wp2_with (fail)
        refine hsm.out.mono ?_
        rintro e w5 ⟨rfl, hB5⟩
        have hR6 := Lib.hid (hR5.out.below hB5)
        have hln := Lib.hid (hR6.out.len_)
        rw [← hlen2.out] at hln
        clear hB5 hR5 hsm hs1
        go_wp2_with (fail)
        refine hln.out.mono ?_
        rintro e w6 ⟨rfl, rfl⟩
        clear hln hlen2
        go_wp2
        generalize wr = wo at *
        have hC6 := Lib.hid (fun wx (h : Rst w w.heap.size L' (j + 1) A2 c2 l2 wx) => (by obtain ⟨_, _, _, _, _, hC, _, _⟩ := h; exact hC.row : HR wx A2 c2 l2))
        go_loopw [8] (fun t wx => ∃ q : Nat, t = .int .i64 ((q : Int) + 1) ∧ (q + 1 ≤ l2.length ∨ q = 0) ∧ Hid (Rst w w.heap.size L' (j + 1) A2 c2 l2 wx)) (fun t _ => l2.length + 1 - (intOf t).toNat)
        case atStart => exact ⟨0, rfl, .inr rfl, hR6⟩
        case round =>
          clear hR6
          obtain ⟨q, rfl, hql, hR7⟩ := hrel
          have hl9 : l2.length ≤ 9223372036854775807 := by omega
          by_cases hk : q + 1 < l2.length
          · have hkI : (q : Int) + 1 < (l2.length : Int) := by omega
            have hrow := hC6.out wr hR7.out
            obtain ⟨pb, po, rfl, hpb, hc⟩ := hrow.at (show q < l2.length by omega)
            obtain ⟨pb', po', e9, -, hc'⟩ := hrow.at hk
            cases e9
            have hS : Hid (D2 pb (po + q * 4) pb (po + (q + 1) * 4) (nt l2 q) (nt l2 (q + 1)) wr.drew ∧ Below wr.heap.size wr wr.drew) := Lib.hid ⟨⟨hc, hc'⟩, below_drew _⟩
            have hles := Lib.hid (less_any (nt l2 q).k (nt l2 (q + 1)).k)
            rw [hup.out q hk] at hles
            have hmx := Lib.hid (rmark_any (nt l2 q))
            have hmy := Lib.hid (rmark_any (nt l2 (q + 1)))
            clear hrow
            generalize nt l2 q = x at *
            generalize nt l2 (q + 1) = y at *
            generalize x.k = kx at *
            generalize y.k = ky at *
            obtain ⟨c0, c1, c2', c3⟩ := hc
            obtain ⟨d0, d1, d2', d3⟩ := hc'
            have g1 : (0 : Int) ≤ (q : Int) := by omega
            have g2 : (q : Int) < (l2.length : Int) := by omega
            have g3 : (0 : Int) ≤ (q : Int) + 1 := by omega
            have g4 : ((q : Int) + 1).toNat = q + 1 := by omega
            have g5 : IntKind.i64.wrap ((q : Int) + 1 - 1) = (q : Int) := by rw [show (q : Int) + 1 - 1 = q by omega]; exact wrap_in _ (by omega) (by omega)
            have g6 : IntKind.i64.wrap (q : Int) = (q : Int) := wrap_in _ (by omega) (by omega)
            go_wp2
            go_region_held3 (fun w' => D2 pb (po + q * 4) pb (po + (q + 1) * 4) x y w' ∧ Below wr.heap.size wr w')
              (first | with_reducible exact hS.out | with_reducible assumption | with_reducible exact ⟨D2.below (And.left (by assumption)) (by assumption), trans0 (And.right (by assumption)) (by assumption)⟩ | fail)
              (first
                | (go_at_call 21; ((with_reducible refine (hmx.out _).mono ?_); rintro e w' ⟨rfl, hB9⟩))
                | (go_at_call 21; ((with_reducible refine (hmy.out _).mono ?_); rintro e w' ⟨rfl, hB9⟩))
                | (go_at_call 20; ((with_reducible refine (hles.out _).mono ?_); rintro e w' ⟨rfl, hB9⟩)) | fail)
            all_goals
              rename_i hHeld
              have hR8 := Lib.hid (hR7.out.below hHeld.2)
              clear hHeld hS hles hmx hmy g5 g6 c0 c1 c2' c3 d0 d1 d2' d3 hR7
              go_wp2
              go_roundw
              case rel => exact ⟨q + 1, by go_num, .inl (by omega), hR8⟩
              case measure => simp [intOf]; omega
          · have hkI : ¬ (q : Int) + 1 < (l2.length : Int) := by omega
            go_wp2
            go_roundw
            case rel => exact ⟨j + 1, A2, c2, l2, L', rfl, by go_num, by omega, by omega, hR7, hl2'⟩
            case measure => simp [intOf]; omega
      · obtain rfl : j = 60 := by omega
        have h1I : (60 : Int) < (len : Int) := by omega
        have hB := Lib.hid hR.out.bel
        clear hR hl
        go_wp2_with (fail)
        refine (awake_any wr).mono ?_
        rintro e w3 ⟨rfl, hB3⟩
        have hf := Lib.hid (trans0 hB.out hB3)
        clear hB3
        go_wp2
        go_ret
        exact ⟨rfl, hf.out⟩
    · have h1I : ¬ (j : Int) < (len : Int) := by omega
      have hB := Lib.hid hR.out.bel
      clear hR hl
      go_wp2_with (fail)
      refine (awake_any wr).mono ?_
      rintro e w3 ⟨rfl, hB3⟩
      have hf := Lib.hid (trans0 hB.out hB3)
      clear hB3
      go_wp2
      go_ret
      exact ⟨rfl, hf.out⟩
end Go.Proofs.Ytipnmgihbpbonaa.ordRj
