/- The contract of the document's Put. -/
import Derived.Test.YtlojmojmijklmaaChnJ
set_option linter.unusedVariables false
set_option maxRecDepth 100000
namespace Go.Proofs.Ytlojmojmijklmaa.chnK
open Go.ChangeShapes Go.WideShapes Go.ChangeAt Go.RowKit Go.Deep
open opV chnM gen chnA chnB chnR chnC chnD chnE chnF chnG chnI chnJ

/-- a list into which x came at j, as far as place q -/
def spA (l : List Ver) (j q : Nat) (x : Ver) : List Ver := if j < q then insA (l.take q) j x else l.take q
theorem sp_low (l : List Ver) (j q : Nat) (x : Ver) (hq : q < l.length) (hj : q < j) : spA l j (q + 1) x = spA l j q x ++ [nt l q] := by
  unfold spA; rw [if_neg (by omega), if_neg (by omega), take_nt hq]
theorem sp_high (l : List Ver) (j q : Nat) (x : Ver) (hq : q < l.length) (hj : j < q) : spA l j (q + 1) x = spA l j q x ++ [nt l q] := by
  unfold spA; rw [if_pos (by omega), if_pos hj, take_nt hq]
  have hl : (l.take q).length = q := by simp; omega
  generalize l.take q = a at *
  unfold insA
  rw [List.take_append_of_le_length (by omega), List.drop_append_of_le_length (by omega), List.append_assoc, List.cons_append]
theorem sp_at (l : List Ver) (j : Nat) (x : Ver) (hq : j < l.length) : spA l j (j + 1) x = spA l j j x ++ [x] ++ [nt l j] := by
  unfold spA; rw [if_pos (by omega), if_neg (by omega), take_nt hq]
  have hl : (l.take j).length = j := by simp; omega
  generalize l.take j = a at *
  unfold insA
  rw [List.take_append_of_le_length (by omega), List.take_of_length_le (by omega), List.drop_append_of_le_length (by omega), List.drop_eq_nil_of_le (by omega)]
  simp
theorem sp_le (l : List Ver) (j q : Nat) (x : Ver) : (spA l j q x).length ≤ q + 1 := by unfold spA insA; split <;> simp <;> omega
theorem sp_end {l : List Ver} {q : Nat} {x : Ver} (h : q < l.length) : spA l q l.length x = insA l q x := by
  unfold spA; rw [if_pos h, List.take_length]
theorem sp_out {l : List Ver} {x : Ver} : spA l l.length l.length x ++ [x] = insA l l.length x := by
  unfold spA insA; rw [if_neg (by omega), List.take_length, List.drop_length]
theorem grow_two {W X X1 w9 w8 : World} {A A9 A8 : Option Addr} {c c9 c8 base : Nat} {k : List Ver} {x y : Ver} (hW : Below W.heap.size W X) (hG : GV X base A c k) (hb : W.heap.size ≤ base) (hB : Below X.heap.size X X1)
    (hr9 : w9.ownsRow base 35 6 (.slice A9 (k.length + 1) c9) (k.length + 1) (fl k ++ [.string x.key, .string x.val, .bool x.gone, .int .u64 x.ts, .int .i64 x.dc, .int .i64 x.tx])) (hg9 : X1.grownBy w9 (Value.slice A k.length c).ownBlock)
    {X2 : World} (hB2 : Below w9.heap.size w9 X2)
    (ho : w8.ownsRow base 35 6 (.slice A8 (k.length + 1 + 1) c8) (k.length + 1 + 1) (fl k ++ [.string x.key, .string x.val, .bool x.gone, .int .u64 x.ts, .int .i64 x.dc, .int .i64 x.tx] ++ [.string y.key, .string y.val, .bool y.gone, .int .u64 y.ts, .int .i64 y.dc, .int .i64 y.tx])) (hg : X2.grownBy w8 (Value.slice A9 (k.length + 1) c9).ownBlock) :
    GV w8 base A8 c8 (k ++ [x] ++ [y]) ∧ Below W.heap.size W w8 := by
  obtain ⟨hG9, hB9⟩ := grow_on hW hG hb hB hr9 hg9
  have hl : (k ++ [x] ++ [y]).length = k.length + 1 + 1 := by simp
  have hB8 := trans0 hB9 hB2
  refine ⟨?_, hB8.grown hg hB8.size (fun b e => by have := (World.ownsRow.lt hr9 b e).1; omega)⟩
  unfold GV
  rw [hl, fl_app, fl_app, fl_one, fl_one]
  exact ho
theorem len_two {k : List Ver} {x y : Ver} : (k ++ [x] ++ [y]).length = k.length + 1 + 1 := by simp
set_option maxRecDepth 100000 in
set_option maxHeartbeats 4000000 in
theorem rput_any (A : Option Addr) (c : Nat) (l : List Ver) (v : Ver) (w : World) (h : HV w A c l) (h9 : l.length ≤ 100000) :
    Calls Try.prog 37 #[.slice A l.length c, .agg #[.string v.key, .string v.val, .bool v.gone, .int .u64 v.ts, .int .i64 v.dc, .int .i64 v.tx]] w (TV (putE l v) (putL l v) w) := by
  have hl9 : l.length ≤ 9223372036854775807 := Nat.le_trans h.le h.top
  obtain ⟨iV, hiV, hzV0, hzV1, hzV2⟩ := info_parts infoV
  have hB0 := al0 w (.cells #[.string v.key, .string v.val, .bool v.gone, .int .u64 v.ts, .int .i64 v.dc, .int .i64 v.tx] 35)
  have hv0 := V6.new w v 35
  obtain ⟨W, hW⟩ : ∃ W, w.alloc (.cells #[.string v.key, .string v.val, .bool v.gone, .int .u64 v.ts, .int .i64 v.dc, .int .i64 v.tx] 35) = W := ⟨_, rfl⟩
  rw [hW] at hB0 hv0
  have h := h.below hB0
  have hb := Lib.hid hB0.size
  replace hB0 := Lib.hid hB0
  replace hv0 := Lib.hid hv0
  replace hW := Lib.hid hW
  replace h := Lib.hid h
  obtain ⟨E, hE⟩ : ∃ E, putE l v = E := ⟨_, rfl⟩
  obtain ⟨R, hR⟩ : ∃ R, putL l v = R := ⟨_, rfl⟩
  rw [hE, hR]
  replace hE := Lib.hid hE
  replace hR := Lib.hid hR
  go_enter Try.func37, Try.ntmps37
  go_wp2
  rw [hW.out]
  go_loopw [6] (fun i wr => ∃ j : Nat, j ≤ l.length ∧ i = .int .i64 j ∧ Hid (∀ i, i < j → same (nt l i) v = false) ∧ Hid (Below W.heap.size W wr)) (fun i _ => l.length - (intOf i).toNat)
  case atStart => exact ⟨0, by omega, rfl, Lib.hid (fun i hi => by omega), Lib.hid (Below.refl _ _)⟩
  case round =>
    obtain ⟨j, hj, rfl, hs, hB⟩ := hrel
    by_cases hlt : j < l.length
    · obtain ⟨pb, po, rfl, hpb, hc⟩ := (h.out.below hB.out).at hlt
      have hjI : (j : Int) < (l.length : Int) := by omega
      have hbx := hv0.out.below hB.out
      have hsm := Lib.hid (same_lt (nt l j) v)
      have hc1 := Lib.hid (rless_any (nt l j) v)
      have hc2 := Lib.hid (rless_any v (nt l j))
      obtain ⟨x, hx⟩ : ∃ x, nt l j = x := ⟨_, rfl⟩
      rw [hx] at hc hsm hc1 hc2
      have hS : Hid (S2 pb (po + j * 6) w.heap.size 0 x v wr.drew ∧ Below wr.heap.size wr wr.drew) := Lib.hid ⟨⟨hc, hbx⟩, below_drew _⟩
      replace hx := Lib.hid hx
      cases h1 : lt x v with
      | true =>
        have hs2 := Lib.hid (show ∀ i, i < j + 1 → same (nt l i) v = false from fun i hi => by
          by_cases e : i = j
          · rw [e, hx.out, hsm.out, h1]; rfl
          · exact hs.out i (by omega))
        rw [h1] at hc1
        clear h1 hs hsm hbx hx hc2
        obtain ⟨c0, c1, c2, c3, c4, c5⟩ := hc
        obtain ⟨b0, b1, b2, b3, b4, b5⟩ := hS.out.1.2
        go_wp2
        first | (go_region_law ((go_simp; go_at_call 56; (with_reducible refine (hc1.out _).mono ?_); rintro e w' ⟨rfl, hB9⟩))) | fail
        all_goals
          have hB' := Lib.hid (trans0 hB.out (undrew hB9))
          clear hB hB9
          go_wp2
          go_roundw
          case rel => exact ⟨j + 1, by omega, by go_num, hs2, hB'⟩
          case measure => simp [intOf]; omega
      | false =>
        cases h2 : lt v x with
        | true =>
        have hs2 := Lib.hid (show ∀ i, i < j + 1 → same (nt l i) v = false from fun i hi => by
          by_cases e : i = j
          · rw [e, hx.out, hsm.out, h1, h2]; rfl
          · exact hs.out i (by omega))
        rw [h1] at hc1
        rw [h2] at hc2
        clear h1 h2 hs hsm hbx hx
        obtain ⟨c0, c1, c2, c3, c4, c5⟩ := hc
        go_wp2
        go_region_held3 (fun w' => S2 pb (po + j * 6) w.heap.size 0 x v w' ∧ Below wr.heap.size wr w')
          (first | with_reducible exact hS.out | with_reducible assumption | with_reducible exact ⟨S2.below (And.left (by assumption)) (by assumption), trans0 (And.right (by assumption)) (by assumption)⟩ | fail)
          (first
            | (go_at_call 56; first | ((with_reducible refine (hc1.out _).mono ?_); rintro e w' ⟨rfl, hB9⟩) | ((with_reducible refine (hc2.out _).mono ?_); rintro e w' ⟨rfl, hB9⟩) | fail) | fail)
        all_goals
          rename_i hHeld
          have hB' := Lib.hid (trans0 hB.out hHeld.2)
          clear hB hHeld
          go_wp2
          go_roundw
          case rel => exact ⟨j + 1, by omega, by go_num, hs2, hB'⟩
          case measure => simp [intOf]; omega
        | false =>
        have hpj : plc l v = j := idx_eq (fun x => same x v) l j hlt (by show same (nt l j) v = true; rw [hx.out, hsm.out, h1, h2]; rfl) hs.out
        have hEE : E = if x = v then 8 else 3 := by rw [← hE.out]; unfold putE; rw [hpj, if_pos hlt, hx.out]
        have hRR : R = [] := by rw [← hR.out]; unfold putL; rw [hE.out, hEE]; split <;> rfl
        subst hRR
        have hq := eql_ver x v
        rw [h1] at hc1
        rw [h2] at hc2
        clear h1 h2 hs hsm hbx hx hpj
        obtain ⟨c0, c1, c2, c3, c4, c5⟩ := hc
        by_cases he : x = v
        · rw [if_pos he] at hEE
          subst hEE
          rw [decide_eq_true he] at hq
          clear he
          go_wp2
          go_region_held3 (fun w' => S2 pb (po + j * 6) w.heap.size 0 x v w' ∧ Below wr.heap.size wr w')
            (first | with_reducible exact hS.out | with_reducible assumption | with_reducible exact ⟨S2.below (And.left (by assumption)) (by assumption), trans0 (And.right (by assumption)) (by assumption)⟩ | fail)
            (first
              | (go_at_call 56; first | ((with_reducible refine (hc1.out _).mono ?_); rintro e w' ⟨rfl, hB9⟩) | ((with_reducible refine (hc2.out _).mono ?_); rintro e w' ⟨rfl, hB9⟩) | fail) | fail)
          all_goals
            rename_i hHeld
            have hB' := Lib.hid (trans0 hB0.out (trans0 hB.out hHeld.2))
            obtain ⟨⟨⟨d0, d1, d2, d3, d4, d5⟩, ⟨e0, e1, e2, e3, e4, e5⟩⟩, -⟩ := hHeld
            clear hB hS c0 c1 c2 c3 c4 c5
            go_wp2
            go_quiet (fail)
            have hB2 := Lib.hid (bdrN nq hB'.out)
            go_wp2
            go_ret2
            exact ⟨none, 0, rfl, GV.nil_ _ _, hB2.out⟩
        · rw [if_neg he] at hEE
          subst hEE
          rw [decide_eq_false he] at hq
          clear he
          go_wp2
          go_region_held3 (fun w' => S2 pb (po + j * 6) w.heap.size 0 x v w' ∧ Below wr.heap.size wr w')
            (first | with_reducible exact hS.out | with_reducible assumption | with_reducible exact ⟨S2.below (And.left (by assumption)) (by assumption), trans0 (And.right (by assumption)) (by assumption)⟩ | fail)
            (first
              | (go_at_call 56; first | ((with_reducible refine (hc1.out _).mono ?_); rintro e w' ⟨rfl, hB9⟩) | ((with_reducible refine (hc2.out _).mono ?_); rintro e w' ⟨rfl, hB9⟩) | fail) | fail)
          all_goals
            rename_i hHeld
            have hB' := Lib.hid (trans0 hB0.out (trans0 hB.out hHeld.2))
            obtain ⟨⟨⟨d0, d1, d2, d3, d4, d5⟩, ⟨e0, e1, e2, e3, e4, e5⟩⟩, -⟩ := hHeld
            clear hB hS c0 c1 c2 c3 c4 c5
            go_wp2
            go_quiet (fail)
            have hB2 := Lib.hid (bdrN nq hB'.out)
            go_wp2
            go_ret2
            exact ⟨none, 0, rfl, GV.nil_ _ _, hB2.out⟩
    · obtain rfl : j = l.length := by omega
      have hpn : plc l v = l.length := idx_all (fun x => same x v) l hs.out
      have hEE : E = 0 := by rw [← hE.out]; unfold putE; rw [hpn, if_neg (by omega)]
      subst hEE
      have hRR := Lib.hid (show insA l (putI l v) v = R by rw [← hR.out]; unfold putL put; rw [hE.out, if_pos rfl])
      have hqle := putI_le l v
      have hqno := Lib.hid (idx_no (fun x => lt v x) l)
      have hqat := Lib.hid (idx_at (fun x => lt v x) l)
      change Hid (∀ i, i < putI l v → lt v (nt l i) = false) at hqno
      change Hid (putI l v < l.length → lt v (nt l (putI l v)) = true) at hqat
      generalize putI l v = q at *
      have hsp := Lib.hid (sp_le l q)
      clear hs hpn hE hR
      go_wp2
      have hBr := hB
      clear hB
      generalize wr = w6 at *
      go_loopw [7, 8, 9] (fun s z i wr => ∃ (j : Nat) (k : List Ver) (A' : Option Addr) (c' : Nat), j ≤ l.length ∧ s = .slice A' k.length c' ∧ z = .bool (decide (q < j)) ∧ i = .int .i64 j ∧ Hid (k = spA l q j v) ∧ Hid (GV wr W.heap.size A' c' k) ∧ Hid (Below W.heap.size W wr)) (fun _ _ i _ => l.length - (intOf i).toNat)
      case atStart => exact ⟨0, [], none, 0, by omega, rfl, by simp, rfl, Lib.hid (by unfold spA; simp), Lib.hid (GV.nil_ _ _), hBr⟩
      case round =>
        clear hBr
        obtain ⟨j, k, A', c', hj, rfl, rfl, rfl, hk, hG, hB⟩ := hrel
        by_cases hlt : j < l.length
        · rcases Nat.lt_trichotomy j q with hjq | hjq | hjq
          · have hd : decide (q < j) = false := decide_eq_false (by omega)
            have hd2 : decide (q < j + 1) = false := decide_eq_false (by omega)
            rw [hd]
            replace hd2 := Lib.hid hd2
            clear hd
            obtain ⟨pb, po, rfl, hpb, hc⟩ := (h.out.below hB.out).at hlt
            have hjI : (j : Int) < (l.length : Int) := by omega
            have hbx := hv0.out.below hB.out
            have hkl : k.length ≤ j + 1 := by rw [hk.out]; exact hsp.out j v
            have hk2 := Lib.hid (show k ++ [nt l j] = spA l q (j + 1) v by rw [hk.out, sp_low l q j v hlt hjq])
            have hno := hqno.out j hjq
            generalize nt l j = x at *
            clear hk
            have hc2 := Lib.hid (rless_any v x)
            rw [hno] at hc2
            have hS : Hid (S2 pb (po + j * 6) w.heap.size 0 x v wr.drew ∧ Below wr.heap.size wr wr.drew) := Lib.hid ⟨⟨hc, hbx⟩, below_drew _⟩
            obtain ⟨c0, c1, c2, c3, c4, c5⟩ := hc
            clear hbx hno
            go_wp2
            go_region_held3 (fun w' => S2 pb (po + j * 6) w.heap.size 0 x v w' ∧ Below wr.heap.size wr w')
                (first | with_reducible exact hS.out | with_reducible assumption | with_reducible exact ⟨S2.below (And.left (by assumption)) (by assumption), trans0 (And.right (by assumption)) (by assumption)⟩ | fail)
                (first
                  | (go_at_call 56; ((with_reducible refine (hc2.out _).mono ?_); rintro e w' ⟨rfl, hB9⟩)) | fail)
            rename_i hHeld
            have hB2 := Lib.hid (trans0 hB.out hHeld.2)
            have hG2 := Lib.hid (hG.out.below hHeld.2)
            have hHk := Lib.hid hHeld.1
            clear hB hG hS c0 c1 c2 c3 c4 c5 hHeld hc2
            obtain ⟨⟨c0, c1, c2, c3, c4, c5⟩, -⟩ := hHk.out
            have hls : Hid (k.length + 1 ≤ maxLen ∧ (k.length + 1) * 64 ≤ 140737488355328 ∧ W.heap.size ≤ (w'.alloc (.cells #[.string x.key, .string x.val, .bool x.gone, .int .u64 x.ts, .int .i64 x.dc, .int .i64 x.tx] 35)).heap.size) := Lib.hid ⟨by unfold maxLen; omega, by omega, (bal hB2.out _).size⟩
            go_wp2_with (at_builtin; go_must (refine wpList_gen rfl (.tmp 58) (.tmp 63) 30 rfl W.heap.size 35 iV _ 6 64 Try.underlying30 hiV hzV0 hzV1 hzV2 rfl (by decide) _ k.length (fl k) (by rfl) (World.ownsRow.alloc hG2.out _) (some ⟨_, 0, none⟩) 1 1 [_, _, _, _, _, _] (by rfl) rfl (stand_at (by simp)) (six_one rfl rfl rfl rfl rfl rfl) hls.out.1 hls.out.2.1 hls.out.2.2 ?_); intro A9 c9 w9 hr9 hg9 hat9; obtain ⟨hG9, hB9⟩ := grow_on hB2.out hG2.out (Nat.le_refl _) (al0 _ _) hr9 hg9; have hG9' := Lib.hid hG9; have hB9' := Lib.hid hB9; clear hr9 hg9 hat9 hG9 hB9)
            go_roundw
            case rel => exact ⟨j + 1, k ++ [x], A9, c9, by omega, by rw [len_on], by rw [hd2.out], by go_num, hk2, hG9', hB9'⟩
            case measure => simp [intOf]; omega
          · subst hjq
            have hd : decide (j < j) = false := decide_eq_false (by omega)
            have hd2 : decide (j < j + 1) = true := decide_eq_true (by omega)
            rw [hd]
            replace hd2 := Lib.hid hd2
            clear hd
            obtain ⟨pb, po, rfl, hpb, hc⟩ := (h.out.below hB.out).at hlt
            have hjI : (j : Int) < (l.length : Int) := by omega
            have hbx := hv0.out.below hB.out
            have hkl : k.length ≤ j + 1 := by rw [hk.out]; exact hsp.out j v
            have hk2 := Lib.hid (show k ++ [v] ++ [nt l j] = spA l j (j + 1) v by rw [hk.out, sp_at l j v hlt])
            have hno := hqat.out hlt
            have hxx := Lib.hid (fun X (hX : Below W.heap.size W X) => (h.out.below hX).at hlt)
            generalize nt l j = x at *
            clear hk
            have hc2 := Lib.hid (rless_any v x)
            rw [hno] at hc2
            have hS : Hid (S2 pb (po + j * 6) w.heap.size 0 x v wr.drew ∧ Below wr.heap.size wr wr.drew) := Lib.hid ⟨⟨hc, hbx⟩, below_drew _⟩
            obtain ⟨c0, c1, c2, c3, c4, c5⟩ := hc
            clear hbx hno
            go_wp2
            go_region_held3 (fun w' => S2 pb (po + j * 6) w.heap.size 0 x v w' ∧ Below wr.heap.size wr w')
                (first | with_reducible exact hS.out | with_reducible assumption | with_reducible exact ⟨S2.below (And.left (by assumption)) (by assumption), trans0 (And.right (by assumption)) (by assumption)⟩ | fail)
                (first
                  | (go_at_call 56; ((with_reducible refine (hc2.out _).mono ?_); rintro e w' ⟨rfl, hB9⟩)) | fail)
            rename_i hHeld
            have hB2 := Lib.hid (trans0 hB.out hHeld.2)
            have hG2 := Lib.hid (hG.out.below hHeld.2)
            have hHk := Lib.hid hHeld.1
            clear hB hG hS c0 c1 c2 c3 c4 c5 hHeld hc2
            obtain ⟨-, ⟨c0, c1, c2, c3, c4, c5⟩⟩ := hHk.out
            have hls : Hid (k.length + 1 ≤ maxLen ∧ (k.length + 1) * 64 ≤ 140737488355328 ∧ W.heap.size ≤ (w'.alloc (.cells #[.string v.key, .string v.val, .bool v.gone, .int .u64 v.ts, .int .i64 v.dc, .int .i64 v.tx] 35)).heap.size) := Lib.hid ⟨by unfold maxLen; omega, by omega, (bal hB2.out _).size⟩
            go_wp2_with (first
              | (at_builtin; refine wpList_gen rfl (.tmp 54) (.tmp 56) 30 rfl W.heap.size 35 iV _ 6 64 Try.underlying30 hiV hzV0 hzV1 hzV2 rfl (by decide) _ k.length (fl k) (by rfl) (World.ownsRow.alloc hG2.out _) (some ⟨_, 0, none⟩) 1 1 [_, _, _, _, _, _] (by rfl) rfl (stand_at (by simp)) (six_one rfl rfl rfl rfl rfl rfl) hls.out.1 hls.out.2.1 hls.out.2.2 ?_; intro A9 c9 w9 hr9 hg9 hat9; obtain ⟨hG7, hB7⟩ := grow_on hB2.out hG2.out (Nat.le_refl _) (al0 _ _) hr9 hg9; obtain ⟨pb3, po3, ea, -, ⟨d0, d1, d2, d3, d4, d5⟩⟩ := hxx.out w9 hB7; simp only [Option.some.injEq, Addr.mk.injEq, and_true] at ea; obtain ⟨rfl, rfl⟩ := ea; have hls2 : Hid (k.length + 1 + 1 ≤ maxLen ∧ (k.length + 1 + 1) * 64 ≤ 140737488355328 ∧ W.heap.size ≤ (w9.alloc (.cells #[.string x.key, .string x.val, .bool x.gone, .int .u64 x.ts, .int .i64 x.dc, .int .i64 x.tx] 35)).heap.size) := Lib.hid ⟨by unfold maxLen; omega, by omega, (bal hB7 _).size⟩; have hr9' := Lib.hid hr9; have hg9' := Lib.hid hg9; clear hr9 hg9 hat9 hG7 hB7)
              | (at_builtin; refine wpList_gen rfl (.tmp 58) (.tmp 63) 30 rfl W.heap.size 35 iV _ 6 64 Try.underlying30 hiV hzV0 hzV1 hzV2 rfl (by decide) _ (k.length + 1) (fl k ++ [_, _, _, _, _, _]) (by rfl) (World.ownsRow.alloc hr9'.out _) (some ⟨_, 0, none⟩) 1 1 [_, _, _, _, _, _] (by rfl) rfl (stand_at (by simp)) (six_one rfl rfl rfl rfl rfl rfl) hls2.out.1 hls2.out.2.1 hls2.out.2.2 ?_; intro A8 c8 w8 hr8 hg8 hat8; obtain ⟨hG8, hB8⟩ := grow_two hB2.out hG2.out (Nat.le_refl _) (al0 _ _) hr9'.out hg9'.out (al0 _ _) hr8 hg8; have hG9' := Lib.hid hG8; have hB9' := Lib.hid hB8; clear hr8 hg8 hat8 hG8 hB8) | fail)
            go_roundw
            case rel => exact ⟨j + 1, k ++ [v] ++ [x], A8, c8, by omega, by rw [len_two], by rw [hd2.out], by go_num, hk2, hG9', hB9'⟩
            case measure => simp [intOf]; omega
          · have hd : decide (q < j) = true := decide_eq_true (by omega)
            have hd2 : decide (q < j + 1) = true := decide_eq_true (by omega)
            rw [hd]
            replace hd2 := Lib.hid hd2
            clear hd
            obtain ⟨pb, po, rfl, hpb, hc⟩ := (h.out.below hB.out).at hlt
            have hjI : (j : Int) < (l.length : Int) := by omega
            have hbx := hv0.out.below hB.out
            have hkl : k.length ≤ j + 1 := by rw [hk.out]; exact hsp.out j v
            have hk2 := Lib.hid (show k ++ [nt l j] = spA l q (j + 1) v by rw [hk.out, sp_high l q j v hlt hjq])
            generalize nt l j = x at *
            clear hk hbx
            have hcc := Lib.hid hc
            obtain ⟨c0, c1, c2, c3, c4, c5⟩ := hc
            go_wp2
            go_quiet (fail)
            have hB2 := Lib.hid (trans0 hB.out (bdrN nq (Below.refl wr.heap.size wr)))
            have hG2 := Lib.hid (hG.out.below (bdrN nq (Below.refl wr.heap.size wr)))
            have hc' := hcc.out.below (bdrN nq (Below.refl wr.heap.size wr))
            clear hB hG c0 c1 c2 c3 c4 c5 hcc
            obtain ⟨c0, c1, c2, c3, c4, c5⟩ := hc'
            generalize wr.drewN nq = w2 at *
            have hls : Hid (k.length + 1 ≤ maxLen ∧ (k.length + 1) * 64 ≤ 140737488355328 ∧ W.heap.size ≤ (w2.alloc (.cells #[.string x.key, .string x.val, .bool x.gone, .int .u64 x.ts, .int .i64 x.dc, .int .i64 x.tx] 35)).heap.size) := Lib.hid ⟨by unfold maxLen; omega, by omega, (bal hB2.out _).size⟩
            go_wp2_with (at_builtin; go_must (refine wpList_gen rfl (.tmp 58) (.tmp 63) 30 rfl W.heap.size 35 iV _ 6 64 Try.underlying30 hiV hzV0 hzV1 hzV2 rfl (by decide) _ k.length (fl k) (by rfl) (World.ownsRow.alloc hG2.out _) (some ⟨_, 0, none⟩) 1 1 [_, _, _, _, _, _] (by rfl) rfl (stand_at (by simp)) (six_one rfl rfl rfl rfl rfl rfl) hls.out.1 hls.out.2.1 hls.out.2.2 ?_); intro A9 c9 w9 hr9 hg9 hat9; obtain ⟨hG9, hB9⟩ := grow_on hB2.out hG2.out (Nat.le_refl _) (al0 _ _) hr9 hg9; have hG9' := Lib.hid hG9; have hB9' := Lib.hid hB9; clear hr9 hg9 hat9 hG9 hB9)
            go_roundw
            case rel => exact ⟨j + 1, k ++ [x], A9, c9, by omega, by rw [len_on], by rw [hd2.out], by go_num, hk2, hG9', hB9'⟩
            case measure => simp [intOf]; omega
        · obtain rfl : j = l.length := by omega
          by_cases hql : q < l.length
          · have hd : decide (q < l.length) = true := decide_eq_true hql
            rw [hd]
            obtain rfl : k = R := by rw [hk.out, ← hRR.out, sp_end hql]
            have hfin := Lib.hid (show TV 0 k w (.returned (.tuple #[.slice A' k.length c', .int .i64 (0 : Nat)])) wr from ⟨A', c', rfl, hG.out.more hb.out, trans0 hB0.out hB.out⟩)
            clear hd hk hG hB
            go_wp2
            go_ret2
            exact hfin.out
          · obtain rfl : q = l.length := by omega
            have hd : decide (l.length < l.length) = false := decide_eq_false (by omega)
            rw [hd]
            have hkk := Lib.hid (show k ++ [v] = R by rw [hk.out, ← hRR.out, sp_out])
            have hkl : k.length ≤ l.length + 1 := by rw [hk.out]; exact hsp.out _ v
            obtain ⟨c0, c1, c2, c3, c4, c5⟩ := hv0.out.below hB.out
            have hls : Hid (k.length + 1 ≤ maxLen ∧ (k.length + 1) * 64 ≤ 140737488355328 ∧ W.heap.size ≤ (wr.alloc (.cells #[.string v.key, .string v.val, .bool v.gone, .int .u64 v.ts, .int .i64 v.dc, .int .i64 v.tx] 35)).heap.size) := Lib.hid ⟨by unfold maxLen; omega, by omega, (bal hB.out _).size⟩
            clear hd hk hql
            go_wp2_with (at_builtin; go_must (refine wpList_gen rfl (.tmp 67) (.tmp 69) 30 rfl W.heap.size 35 iV _ 6 64 Try.underlying30 hiV hzV0 hzV1 hzV2 rfl (by decide) _ k.length (fl k) (by rfl) (World.ownsRow.alloc hG.out _) (some ⟨_, 0, none⟩) 1 1 [_, _, _, _, _, _] (by rfl) rfl (stand_at (by simp)) (six_one rfl rfl rfl rfl rfl rfl) hls.out.1 hls.out.2.1 hls.out.2.2 ?_); intro A9 c9 w9 hr9 hg9 hat9; obtain ⟨hG9, hB9⟩ := grow_on hB.out hG.out (Nat.le_refl _) (al0 _ _) hr9 hg9; have hG9' := Lib.hid hG9; have hB9' := Lib.hid hB9; clear hr9 hg9 hat9 hG9 hB9)
            have hlR := Lib.hid (show R.length = k.length + 1 by rw [← hkk.out, len_on])
            rw [hkk.out] at hG9'
            go_ret2
            exact ⟨A9, c9, by rw [hlR.out]; rfl, hG9'.out.more hb.out, trans0 hB0.out hB9'.out⟩
end Go.Proofs.Ytlojmojmijklmaa.chnK
