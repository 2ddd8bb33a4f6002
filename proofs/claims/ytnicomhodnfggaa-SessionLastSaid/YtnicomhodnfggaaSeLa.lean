/- SessionLast: an open transaction writes what it wrote last of each key, keys rising, at most eight. -/
import Derived.Test.YtnicomhodnfggaaSeLm
set_option linter.unusedVariables false
set_option linter.unusedSimpArgs false
set_option maxRecDepth 100000
namespace Go.Proofs.Ytnicomhodnfggaa.seLa
open Go.ChangeShapes Go.WideShapes Go.ChangeAt Go.RowKit Go.Deep
open opV opO chnM gen chnA chnR chnE seM seI ordC seL seN seB seK seV seW seG seC seA seS seJ seRi seT seOw seLm
attribute [local go_sem high] bin_slt bin_sle bin_sge bin_sgt bin_seq bin_sne

/-- the row that Writes answered, while it is gone through -/
structure LR (w : World) (p : Nat) (S : Ss) (mb m : Nat) (A : Option Addr) (c : Nat) (ks : List ByteArray) (A9 : Option Addr) (c9 : Nat) (V : World) : Prop where
  j : J w (X2 (XS p S) (XL mb S.ws m A c ks)) V
  hv : HV V A9 c9 S.ws
theorem LR.below {w V V' : World} {p mb m c c9 : Nat} {S : Ss} {A A9 : Option Addr} {ks : List ByteArray} (h : LR w p S mb m A c ks A9 c9 V) (hB : Below V.heap.size V V') : LR w p S mb m A c ks A9 c9 V' :=
  ⟨h.j.below (st9 (st_XL (by decide))) hB, h.hv.below hB⟩
theorem l_wide {w V : World} {p mb m c : Nat} {S : Ss} {A : Option Addr} {ws : List Ver} {ks : List ByteArray} (h : J w (X2 (XS p S) (XL mb ws m A c ks)) V) : J w (X2 (XS p S) (XL mb ws (m + 1) A c ks)) V := by
  obtain ⟨col, h1, h2, h3⟩ := h
  obtain ⟨n, D, k1, k2, k3⟩ := h3.mp
  exact ⟨col, h1, h2, { h3 with mp := ⟨n, D, k1, k2, by omega⟩ }⟩
set_option maxHeartbeats 4000000 in
theorem last_any (A : Option Addr) (n c : Nat) (l : List Oq) (w : World) (h : Rs w A n l) (hc : n ≤ c) (hc9 : c ≤ 9223372036854775807) :
    Calls Try.prog 6 #[.slice A n c] w fun e w' => e = .returned (.bool true) ∧ Below w.heap.size w w' := by
  have hcell := Lib.hid (rs_at h)
  have hnew := Lib.hid (new_any w)
  have hJ0 := j_new w
  obtain ⟨W1, hW1⟩ : ∃ W1, newS w = W1 := ⟨_, rfl⟩
  obtain ⟨p, hp⟩ : ∃ p, w.heap.size + 1 = p := ⟨_, rfl⟩
  rw [hW1, hp] at hnew hJ0
  have hbe := Lib.hid (j_begin hJ0 (st_XT 1) ok_S0 0)
  rw [show beT S0 0 = 0 from rfl, show beE S0 = 0 from rfl] at hbe
  have hl0 := Lib.hid (fun V (hV : J w (X2 (XS p (beS S0 0)) XT) V) => l_start hV)
  have hok := Lib.hid (wn_ok l)
  have hopn := Lib.hid (wn_op l)
  have hmm := @run_makeMap Try.prog
  obtain ⟨iS, hiS, hzS0, hzS1, hzS2⟩ := info_parts infoSt
  clear h hW1 hp hJ0
  go_enter Try.func6, Try.ntmps6
  go_wp2_with (fail)
  with_reducible refine hnew.out.mono ?_
  rintro e w1 ⟨rfl, rfl⟩
  clear hnew
  go_wp2_with (fail)
  with_reducible refine hbe.out.mono ?_
  rintro e w2 ⟨rfl, hJ2⟩
  have hJ3 := Lib.hid (hl0.out _ hJ2)
  clear hbe hJ2 hl0
  go_upto_region 9 with (fail)
  obtain ⟨W3, hW3⟩ : ∃ W3, w2.alloc (.map #[] 0) = W3 := ⟨_, rfl⟩
  rw [hW3] at hJ3 ⊢
  generalize w2.heap.size = mb at *
  clear hW3
  go_wp2
  go_loopw [6, 8] (fun u i wr => ∃ (j : Nat) (kA : Option Addr) (kc : Nat) (ks : List ByteArray), u = .slice kA ks.length kc ∧ i = .int .i64 j ∧ j ≤ n ∧ j ≤ 60 ∧ ks.length = (wn l j).ws.length ∧ Hid (J w (X2 (XS p (wn l j)) (XL mb (wn l j).ws j kA kc ks)) wr)) (fun _ i _ => n - (intOf i).toNat)
  case atStart => exact ⟨0, none, 0, [], rfl, rfl, by omega, by omega, rfl, hJ3⟩
  case round =>
    clear hJ3
    obtain ⟨j, kA, kc, ks, rfl, rfl, hj, hj1, hkl, hJ⟩ := hrel
    by_cases hlt : j < n ∧ j < 60
    · obtain ⟨hlt, h120⟩ := hlt
      obtain ⟨pb, po, rfl, hpb, hO, hko⟩ := hcell.out j hlt
      have hjI : (j : Int) < (n : Int) := by omega
      have hj6 : (j : Int) < 60 := by omega
      have hoj := Lib.hid (hok.out j)
      have hop := hopn.out j
      have hle := hoj.out.le
      have hup := Lib.hid hoj.out.up
      have hkl8 : ks.length ≤ 8 := by omega
      have hWe : Hid (wn l (j + 1) = wrS (wn l j) (nt l j).key (nt l j).val (nt l j).gone) := Lib.hid rfl
      obtain ⟨o0, o1, o2, o3, o4, o5, o6, o7⟩ := o8_step hO hJ.out.bel (Nat.le_refl _)
      obtain ⟨S2, hSe⟩ : ∃ S2, wn l (j + 1) = S2 := ⟨_, rfl⟩
      rw [hSe] at hWe
      replace hSe := Lib.hid hSe
      have hJ3 := j_box2 hJ.out (st_XL (by decide)) (nt l j)
      generalize wn l j = S at *
      generalize nt l j = o at *
      obtain ⟨W3, hW3⟩ : ∃ W3, wr.alloc (.cells (cO o) 33) = W3 := ⟨_, rfl⟩
      obtain ⟨B, hB⟩ : ∃ B, wr.heap.size = B := ⟨_, rfl⟩
      rw [hW3, hB] at hJ3
      have hd3 := Lib.hid (j_write hJ3 (st_X2 (st_XB (by decide)) (st_XL (by decide))) hoj.out o.key o.val o.gone)
      have hO3 := j_o8 hJ3
      have hkz : o.key.size ≤ maxLen := by unfold maxLen; have := hko.2.1; omega
      have hlk := Lib.hid (fun V S' (hV : J w (X2 (XS p S') (X2 (XB B o) (XL mb S.ws j kA kc ks))) V) => l_look hV o.key hkz)
      have hbx := Lib.hid (fun V S' (hV : J w (X2 (XS p S') (X2 (XB B o) (XL mb S.ws j kA kc ks))) V) ob => hV.below (st9 (st_X2 (st_XB (by decide)) (st_XL (by decide)))) (al0 V ob))
      replace hW3 := Lib.hid hW3
      replace hB := Lib.hid hB
      have hws := wr_ways (S := S) hop hle o.key o.val o.gone
      obtain ⟨lv, hlv⟩ : ∃ v, (fnd S.ws o.key).getD default = v := ⟨_, rfl⟩
      obtain ⟨hs, hhs⟩ : ∃ b, is S.ws o.key = b := ⟨_, rfl⟩
      rw [hlv, hhs] at hlk
      rw [hhs] at hws
      have hki : S.ws.length = 8 → ((ks.length : Nat) : Int) = 8 := fun h => by omega
      have hkj : S.ws.length < 8 → ¬ ((ks.length : Nat) : Int) = 8 := fun h => by omega
      replace hki := Lib.hid hki
      replace hkj := Lib.hid hkj
      replace hkl := Lib.hid hkl
      clear hcell hO hoj hJ hJ3 hkz hok hopn
      rcases hws with ⟨q1, q2⟩ | ⟨q1, q2, q3⟩ | ⟨q1, q2, q3, q4, q5⟩ | ⟨q1, q2, q3, q4⟩ | ⟨q1, q2, q3, q4, q5⟩
      · have qE := Lib.hid q2
        rw [q2, wrS_not (S := S) (key := o.key) (val := o.val) (gone := o.gone) (by rw [q2]; decide)] at hd3
        have h3 : (16 : Int) < (o.key.size : Int) ∨ (¬ (16 : Int) < (o.key.size : Int) ∧ (64 : Int) < (o.val.size : Int)) := by unfold isLong at q1; omega
        clear q1 q2 hop hle hhs hlv hko
        go_upto_region 13 with (fail)
        rw [hW3.out, hB.out]
        clear o0 o1 o2 o3 o4 o5 o6 o7 hW3 hB
        obtain ⟨o0, o1, o2, o3, o4, o5, o6, o7⟩ := hO3
        go_wp2_with (fail)
        with_reducible refine hd3.out.mono ?_
        rintro e w4 ⟨rfl, hJ4⟩
        clear o0 o1 o2 o3 o4 o5 o6 o7 hd3
        have hl4 := hlk.out _ _ hJ4
        have hJ5 := hbx.out _ _ hJ4 (.cells #[.string lv.key, .string lv.val, .bool lv.gone, .int .u64 lv.ts, .int .i64 lv.dc, .int .i64 lv.tx] 41)
        obtain ⟨W5, hW5⟩ : ∃ W5, w4.alloc (.cells #[.string lv.key, .string lv.val, .bool lv.gone, .int .u64 lv.ts, .int .i64 lv.dc, .int .i64 lv.tx] 41) = W5 := ⟨_, rfl⟩
        rw [hW5] at hJ5
        replace hW5 := Lib.hid hW5
        obtain ⟨o0, o1, o2, o3, o4, o5, o6, o7⟩ := j_o8 hJ4
        replace hJ5 := Lib.hid hJ5
        clear hJ4 hlk hbx
        go_upto_region 15 with (fail)
        rw [hW5.out]
        generalize w4.heap.size = vb at *
        clear hW5 hl4 o0 o1 o2 o3 o4 o5 o6 o7
        obtain ⟨o0, o1, o2, o3, o4, o5, o6, o7⟩ := j_o8 hJ5.out
        rcases h3 with h3 | ⟨h3, h4⟩
        all_goals
          have hJ6 := Lib.hid (l_wide (j_drop hJ5.out))
          clear hJ5
          go_wp2
          go_roundw
          case rel => exact ⟨j + 1, kA, kc, ks, rfl, by go_num, by omega, by omega, by rw [hSe.out, hWe.out, wrS_not (S := S) (key := o.key) (val := o.val) (gone := o.gone) (by rw [qE.out]; decide)]; exact hkl.out, by rw [hSe.out, hWe.out, wrS_not (S := S) (key := o.key) (val := o.val) (gone := o.gone) (by rw [qE.out]; decide)]; exact hJ6⟩
          case measure => simp [intOf]; omega
      · have qE := Lib.hid q3
        rw [q3, wrS_not (S := S) (key := o.key) (val := o.val) (gone := o.gone) (by rw [q3]; decide)] at hd3
        have h4 : ¬ (16 : Int) < (o.key.size : Int) := by unfold isLong at q1; omega
        have h5 : ¬ (64 : Int) < (o.val.size : Int) := by unfold isLong at q1; omega
        obtain ⟨og, hog⟩ : ∃ g, o.gone = g := ⟨_, rfl⟩
        have h6 : seq o.key emp = true ∨ (seq o.key emp = false ∧ o.gone = true ∧ seq o.val emp = false) := by
          unfold isArg at q2
          cases h7 : seq o.key emp <;> cases h9 : o.gone <;> cases h8 : seq o.val emp <;> simp [h7, h8, h9] at q2 ⊢
        clear q1 q2 q3 hop hle hhs hlv hko hog
        go_upto_region 13 with (fail)
        rw [hW3.out, hB.out]
        clear o0 o1 o2 o3 o4 o5 o6 o7 hW3 hB
        obtain ⟨o0, o1, o2, o3, o4, o5, o6, o7⟩ := hO3
        go_wp2_with (fail)
        with_reducible refine hd3.out.mono ?_
        rintro e w4 ⟨rfl, hJ4⟩
        clear o0 o1 o2 o3 o4 o5 o6 o7 hd3
        have hl4 := hlk.out _ _ hJ4
        have hJ5 := hbx.out _ _ hJ4 (.cells #[.string lv.key, .string lv.val, .bool lv.gone, .int .u64 lv.ts, .int .i64 lv.dc, .int .i64 lv.tx] 41)
        obtain ⟨W5, hW5⟩ : ∃ W5, w4.alloc (.cells #[.string lv.key, .string lv.val, .bool lv.gone, .int .u64 lv.ts, .int .i64 lv.dc, .int .i64 lv.tx] 41) = W5 := ⟨_, rfl⟩
        rw [hW5] at hJ5
        replace hW5 := Lib.hid hW5
        obtain ⟨o0, o1, o2, o3, o4, o5, o6, o7⟩ := j_o8 hJ4
        replace hJ5 := Lib.hid hJ5
        clear hJ4 hlk hbx
        go_upto_region 15 with (fail)
        rw [hW5.out]
        generalize w4.heap.size = vb at *
        clear hW5 hl4 o0 o1 o2 o3 o4 o5 o6 o7
        obtain ⟨o0, o1, o2, o3, o4, o5, o6, o7⟩ := j_o8 hJ5.out
        rcases h6 with h6 | ⟨h6, h7, h8⟩
        all_goals
          have hJ6 := Lib.hid (l_wide (j_drop hJ5.out))
          clear hJ5
          go_wp2
          go_roundw
          case rel => exact ⟨j + 1, kA, kc, ks, rfl, by go_num, by omega, by omega, by rw [hSe.out, hWe.out, wrS_not (S := S) (key := o.key) (val := o.val) (gone := o.gone) (by rw [qE.out]; decide)]; exact hkl.out, by rw [hSe.out, hWe.out, wrS_not (S := S) (key := o.key) (val := o.val) (gone := o.gone) (by rw [qE.out]; decide)]; exact hJ6⟩
          case measure => simp [intOf]; omega
      · have qE := Lib.hid q5
        rw [q5, wrS_not (S := S) (key := o.key) (val := o.val) (gone := o.gone) (by rw [q5]; decide)] at hd3
        have h4 : ¬ (16 : Int) < (o.key.size : Int) := by unfold isLong at q1; omega
        have h5 : ¬ (64 : Int) < (o.val.size : Int) := by unfold isLong at q1; omega
        have h6 : seq o.key emp = false ∧ (o.gone = false ∨ (o.gone = true ∧ seq o.val emp = true)) := by
          unfold isArg at q2
          cases h7 : seq o.key emp <;> cases h9 : o.gone <;> cases h8 : seq o.val emp <;> simp [h7, h8, h9] at q2 ⊢
        obtain ⟨h6, h7⟩ := h6
        have hk8 := hki.out q4
        subst q3
        clear q1 q2 q4 q5 hop hle hhs hlv hko
        go_upto_region 13 with (fail)
        rw [hW3.out, hB.out]
        clear o0 o1 o2 o3 o4 o5 o6 o7 hW3 hB
        obtain ⟨o0, o1, o2, o3, o4, o5, o6, o7⟩ := hO3
        go_wp2_with (fail)
        with_reducible refine hd3.out.mono ?_
        rintro e w4 ⟨rfl, hJ4⟩
        clear o0 o1 o2 o3 o4 o5 o6 o7 hd3
        have hl4 := hlk.out _ _ hJ4
        have hJ5 := hbx.out _ _ hJ4 (.cells #[.string lv.key, .string lv.val, .bool lv.gone, .int .u64 lv.ts, .int .i64 lv.dc, .int .i64 lv.tx] 41)
        obtain ⟨W5, hW5⟩ : ∃ W5, w4.alloc (.cells #[.string lv.key, .string lv.val, .bool lv.gone, .int .u64 lv.ts, .int .i64 lv.dc, .int .i64 lv.tx] 41) = W5 := ⟨_, rfl⟩
        rw [hW5] at hJ5
        replace hW5 := Lib.hid hW5
        obtain ⟨o0, o1, o2, o3, o4, o5, o6, o7⟩ := j_o8 hJ4
        replace hJ5 := Lib.hid hJ5
        clear hJ4 hlk hbx
        go_upto_region 15 with (fail)
        rw [hW5.out]
        generalize w4.heap.size = vb at *
        clear hW5 hl4 o0 o1 o2 o3 o4 o5 o6 o7
        obtain ⟨o0, o1, o2, o3, o4, o5, o6, o7⟩ := j_o8 hJ5.out
        rcases h7 with h7 | ⟨h7, h8⟩
        all_goals
          have hJ6 := Lib.hid (l_wide (j_drop hJ5.out))
          clear hJ5
          go_wp2
          go_roundw
          case rel => exact ⟨j + 1, kA, kc, ks, rfl, by go_num, by omega, by omega, by rw [hSe.out, hWe.out, wrS_not (S := S) (key := o.key) (val := o.val) (gone := o.gone) (by rw [qE.out]; decide)]; exact hkl.out, by rw [hSe.out, hWe.out, wrS_not (S := S) (key := o.key) (val := o.val) (gone := o.gone) (by rw [qE.out]; decide)]; exact hJ6⟩
          case measure => simp [intOf]; omega
      · have qE := Lib.hid q4
        have hy : wrS S o.key o.val o.gone = { S with ws := pK S.ws (wv o.key o.val o.gone) } := if_pos q4
        rw [q4, hy] at hd3
        have h4 : ¬ (16 : Int) < (o.key.size : Int) := by unfold isLong at q1; omega
        have h5 : ¬ (64 : Int) < (o.val.size : Int) := by unfold isLong at q1; omega
        have h6 : seq o.key emp = false ∧ (o.gone = false ∨ (o.gone = true ∧ seq o.val emp = true)) := by
          unfold isArg at q2
          cases h7 : seq o.key emp <;> cases h9 : o.gone <;> cases h8 : seq o.val emp <;> simp [h7, h8, h9] at q2 ⊢
        obtain ⟨h6, h7⟩ := h6
        have hk16 : (wv o.key o.val o.gone).key.size ≤ 16 := by show o.key.size ≤ 16; omega
        have hln : Hid ((pK S.ws (wv o.key o.val o.gone)).length = S.ws.length) := Lib.hid ((hup.out.pK_lens).trans (if_pos (show is S.ws o.key = true from by rw [hhs]; exact q3)))
        subst q3
        clear q1 q2 q4 hy hop hle hhs hlv hko hup
        go_upto_region 13 with (fail)
        rw [hW3.out, hB.out]
        clear o0 o1 o2 o3 o4 o5 o6 o7 hW3 hB
        obtain ⟨o0, o1, o2, o3, o4, o5, o6, o7⟩ := hO3
        go_wp2_with (fail)
        with_reducible refine hd3.out.mono ?_
        rintro e w4 ⟨rfl, hJ4⟩
        clear o0 o1 o2 o3 o4 o5 o6 o7 hd3
        have hl4 := hlk.out _ _ hJ4
        have hJ5 := hbx.out _ _ hJ4 (.cells #[.string lv.key, .string lv.val, .bool lv.gone, .int .u64 lv.ts, .int .i64 lv.dc, .int .i64 lv.tx] 41)
        obtain ⟨W5, hW5⟩ : ∃ W5, w4.alloc (.cells #[.string lv.key, .string lv.val, .bool lv.gone, .int .u64 lv.ts, .int .i64 lv.dc, .int .i64 lv.tx] 41) = W5 := ⟨_, rfl⟩
        rw [hW5] at hJ5
        replace hW5 := Lib.hid hW5
        obtain ⟨o0, o1, o2, o3, o4, o5, o6, o7⟩ := j_o8 hJ4
        replace hJ5 := Lib.hid hJ5
        clear hJ4 hlk hbx
        go_upto_region 15 with (fail)
        rw [hW5.out]
        generalize w4.heap.size = vb at *
        clear hW5 hl4 o0 o1 o2 o3 o4 o5 o6 o7
        obtain ⟨o0, o1, o2, o3, o4, o5, o6, o7⟩ := j_o8 hJ5.out
        rcases h7 with h7 | ⟨h7, h8⟩
        all_goals
          have hwe : Hid (S2 = { S with ws := pK S.ws (wv o.key o.val o.gone) }) := Lib.hid (by rw [hWe.out]; exact if_pos qE.out)
          obtain ⟨V6, hr6, hJ6⟩ := l_store hJ5.out (wv o.key o.val o.gone) hk16 (by omega)
          unfold wv at hr6
          rw [h7] at hr6
          replace hJ6 := Lib.hid (j_drop hJ6)
          clear hJ5
          go_wp2
          go_roundw
          case rel => exact ⟨j + 1, kA, kc, ks, rfl, by go_num, by omega, by omega, by rw [hSe.out, hwe.out, hkl.out]; exact hln.out.symm, by rw [hSe.out, hwe.out]; exact hJ6⟩
          case measure => simp [intOf]; omega
      · have qE := Lib.hid q5
        have hy : wrS S o.key o.val o.gone = { S with ws := pK S.ws (wv o.key o.val o.gone) } := if_pos q5
        rw [q5, hy] at hd3
        have h4 : ¬ (16 : Int) < (o.key.size : Int) := by unfold isLong at q1; omega
        have h5 : ¬ (64 : Int) < (o.val.size : Int) := by unfold isLong at q1; omega
        have h6 : seq o.key emp = false ∧ (o.gone = false ∨ (o.gone = true ∧ seq o.val emp = true)) := by
          unfold isArg at q2
          cases h7 : seq o.key emp <;> cases h9 : o.gone <;> cases h8 : seq o.val emp <;> simp [h7, h8, h9] at q2 ⊢
        obtain ⟨h6, h7⟩ := h6
        have hk16 : (wv o.key o.val o.gone).key.size ≤ 16 := by show o.key.size ≤ 16; omega
        have hln : Hid ((pK S.ws (wv o.key o.val o.gone)).length = S.ws.length + 1) := Lib.hid ((hup.out.pK_lens).trans (if_neg (show ¬ is S.ws o.key = true from by rw [hhs, q3]; simp)))
        have hk8 := hkj.out q4
        subst q3
        clear q1 q2 q5 hy hop hle hhs hlv hko hup
        go_upto_region 13 with (fail)
        rw [hW3.out, hB.out]
        clear o0 o1 o2 o3 o4 o5 o6 o7 hW3 hB
        obtain ⟨o0, o1, o2, o3, o4, o5, o6, o7⟩ := hO3
        go_wp2_with (fail)
        with_reducible refine hd3.out.mono ?_
        rintro e w4 ⟨rfl, hJ4⟩
        clear o0 o1 o2 o3 o4 o5 o6 o7 hd3
        have hl4 := hlk.out _ _ hJ4
        have hJ5 := hbx.out _ _ hJ4 (.cells #[.string lv.key, .string lv.val, .bool lv.gone, .int .u64 lv.ts, .int .i64 lv.dc, .int .i64 lv.tx] 41)
        obtain ⟨W5, hW5⟩ : ∃ W5, w4.alloc (.cells #[.string lv.key, .string lv.val, .bool lv.gone, .int .u64 lv.ts, .int .i64 lv.dc, .int .i64 lv.tx] 41) = W5 := ⟨_, rfl⟩
        rw [hW5] at hJ5
        replace hW5 := Lib.hid hW5
        obtain ⟨o0, o1, o2, o3, o4, o5, o6, o7⟩ := j_o8 hJ4
        replace hJ5 := Lib.hid hJ5
        clear hJ4 hlk hbx
        go_upto_region 15 with (fail)
        rw [hW5.out]
        generalize w4.heap.size = vb at *
        clear hW5 hl4 o0 o1 o2 o3 o4 o5 o6 o7
        obtain ⟨o0, o1, o2, o3, o4, o5, o6, o7⟩ := j_o8 hJ5.out
        rcases h7 with h7 | ⟨h7, h8⟩
        all_goals
          have hwe : Hid (S2 = { S with ws := pK S.ws (wv o.key o.val o.gone) }) := Lib.hid (by rw [hWe.out]; exact if_pos qE.out)
          have hJ6 := hJ5.out.below (st9 (st_X2 (st_XB (by decide)) (st_XL (by decide)))) (al0 W5 (.cells #[.string o.key] 9))
          have hst6 := Lib.hid (stand_new W5 [.string o.key] 9 1)
          have hown6 := Lib.hid (l_row hJ6)
          have happ := Lib.hid (fun w7 A9 c9 hg hr hat => l_app (V' := w7) (A' := A9) (c' := c9) hJ6 o.key hg hr hat)
          have hsto := Lib.hid (fun w7 A9 c9 (h7 : J w (X2 (XS p { S with ws := pK S.ws (wv o.key o.val o.gone) }) (X2 (XB B o) (XL mb S.ws j A9 c9 (ks ++ [o.key])))) w7) => l_store h7 (wv o.key o.val o.gone) hk16 (by omega))
          have hkl2 : (ks ++ [o.key]).length = ks.length + 1 := by simp
          replace hkl2 := Lib.hid hkl2
          clear hJ5 hJ6
          go_wp2_with (at_builtin; refine wpList_gen rfl (.tmp 96) (.tmp 99) 51 rfl 0 9 iS _ 1 16 Try.underlying51 hiS hzS0 hzS1 hzS2 rfl (by decide) _ ks.length (ks.map Value.string) (by rfl) hown6.out (some ⟨W5.heap.size, 0, none⟩) 1 1 [.string o.key] (by rfl) rfl hst6.out (by intro u hu; rw [List.mem_singleton.1 hu]; rfl) (by unfold maxLen; omega) (by omega) (Nat.zero_le _) ?_; intro A9 c9 w7 hr9 hg9 hat9; have hJ7 := happ.out w7 A9 c9 hg9 hr9 hat9; obtain ⟨V8, hr8, hJ8⟩ := hsto.out w7 A9 c9 hJ7; clear o0 o1 o2 o3 o4 o5 o6 o7; obtain ⟨o0, o1, o2, o3, o4, o5, o6, o7⟩ := j_o8 hJ7; unfold wv at hr8; rw [h7] at hr8; replace hJ8 := Lib.hid (j_drop hJ8); clear hr9 hg9 hat9 hJ7)
          go_roundw
          case rel => exact ⟨j + 1, A9, c9, ks ++ [o.key], by rw [hkl2.out], by go_num, by omega, by omega, by rw [hkl2.out, hSe.out, hwe.out, hkl.out]; exact hln.out.symm, by rw [hSe.out, hwe.out]; exact hJ8⟩
          case measure => simp [intOf]; omega
    · have hcut : (n ≤ j) ∨ (j < n ∧ ¬ j < 60) := by omega
      have hJj := hJ.out
      have hoj := hok.out j
      generalize wn l j = S at *
      have hwr := Lib.hid (j_writes hJj (st_XL (by decide)) hoj)
      have hle := hoj.le
      have hup := Lib.hid hoj.up
      have hsm := Lib.hid (fun q (hq : q < S.ws.length) => (by have := hoj.ks _ (nt_mem hq); unfold maxLen; omega : (nt S.ws q).key.size ≤ maxLen))
      have hfn := Lib.hid (fun q (hq : q < S.ws.length) => (by
        rw [hoj.up.found, hoj.up.at_key hq rfl, if_pos ⟨hq, rfl⟩]; rfl : (fnd S.ws (nt S.ws q).key).getD default = nt S.ws q))
      have haw := Lib.hid awake_any
      have hLR := Lib.hid (fun V A9 c9 (hG : GV V wr.heap.size A9 c9 S.ws) (hV : J w (X2 (XS p S) (XL mb S.ws j kA kc ks)) V) => (⟨hV, hG.hv (by omega)⟩ : LR w p S mb j kA kc ks A9 c9 V))
      have hnq := Lib.hid neq_self
      have hkI : (S.ws.length : Int) = (ks.length : Int) := by omega
      clear hJ hJj hok hopn hcell hlt hoj
      rcases hcut with h1 | ⟨h1, h2⟩
      · have hjI : ¬ (j : Int) < (n : Int) := by omega
        go_wp2_with (fail)
        with_reducible refine hwr.out.mono ?_
        rintro e w5 ⟨A9, c9, rfl, hG5, hB5, hJ5⟩
        have hL5 := Lib.hid (hLR.out _ A9 c9 hG5 hJ5)
        clear hwr hG5 hB5 hJ5 hLR
        go_wp2
        go_loopw [115] (fun i wx => ∃ q : Nat, i = .int .i64 q ∧ q ≤ S.ws.length ∧ Hid (LR w p S mb j kA kc ks A9 c9 wx)) (fun i _ => S.ws.length - (intOf i).toNat)
        case atStart => exact ⟨0, rfl, by omega, hL5⟩
        case round =>
          clear hL5
          obtain ⟨q, rfl, hq, hL⟩ := hrel
          by_cases hql : q < S.ws.length
          · have hqI : (q : Int) < (S.ws.length : Int) := by omega
            obtain ⟨rb, ro, rfl, hrb, hx⟩ := hL.out.hv.at hql
            have hsz := hsm.out q hql
            have hfq := hfn.out q hql
            have hpre : Hid (∀ r, q = r + 1 → V6 rb (ro + r * 6) (nt S.ws r) wr ∧ slt (nt S.ws r).key (nt S.ws q).key = true) := Lib.hid (fun r hr => by
              obtain ⟨rb', ro', e, _, hx'⟩ := hL.out.hv.at (show r < S.ws.length by omega)
              cases e
              exact ⟨hx', hup.out.lt (by omega) hql⟩)
            obtain ⟨x, hxe⟩ : ∃ x, nt S.ws q = x := ⟨_, rfl⟩
            rw [hxe] at hx hsz hfq hpre
            have hl2 := Lib.hid (fun V (hV : LR w p S mb j kA kc ks (some ⟨rb, ro, none⟩) c9 V) => l_look1 hV.j x.key hsz)
            rw [hfq] at hl2
            obtain ⟨W6, hW6⟩ : ∃ W6, wr.alloc (.cells #[.string x.key, .string x.val, .bool x.gone, .int .u64 x.ts, .int .i64 x.dc, .int .i64 x.tx] 41) = W6 := ⟨_, rfl⟩
            have hB6 : Below wr.heap.size wr W6 := by rw [← hW6]; exact al0 _ _
            have hV6 : V6 wr.heap.size 0 x W6 := by rw [← hW6]; exact V6.new wr x _
            have hL6 := Lib.hid (hL.out.below hB6)
            have hll := Lib.hid (fun nn => hL6.out.below (bdrN nn (Below.refl _ _)))
            have hlk6 := fun nn => hl2.out _ (hll.out nn)
            have hnx := hnq.out x
            replace hW6 := Lib.hid hW6
            obtain ⟨c0, c1, c2, c3, c4, c5⟩ := hx
            rcases q with _ | r
            · simp only [Nat.zero_mul, Nat.add_zero] at c0 c1 c2 c3 c4 c5
              clear hpre hfq hL hl2
              go_upto_region 32 with (fail)
              rw [hW6.out]
              obtain ⟨d0, d1, d2, d3, d4, d5⟩ := hV6
              generalize wr.heap.size = vb at *
              go_quiet (fail)
              have hL7 := Lib.hid (hll.out nq)
              clear hll hlk6 c0 c1 c2 c3 c4 c5 d0 d1 d2 d3 d4 d5
              go_wp2
              go_roundw
              case rel => exact ⟨0 + 1, by go_num, by omega, hL7⟩
              case measure => simp [intOf]; omega
            · obtain ⟨hy, hlt⟩ := hpre.out r rfl
              obtain ⟨y, hye⟩ : ∃ y, nt S.ws r = y := ⟨_, rfl⟩
              rw [hye] at hy hlt
              obtain ⟨y0, y1, y2, y3, y4, y5⟩ := hy.below hB6
              have g0 : (0 : Int) < (r : Int) + 1 := by omega
              have g1 : IntKind.i64.wrap ((r : Int) + 1 - 1) = (r : Int) := by rw [show (r : Int) + 1 - 1 = (r : Int) by omega]; exact wrap_in _ (by omega) (by omega)
              have g2 : IntKind.i64.wrap (r : Int) = (r : Int) := wrap_in _ (by omega) (by omega)
              have g3 : (r : Int) < (S.ws.length : Int) := by omega
              have g4 : r < S.ws.length := by omega
              clear hpre hfq hL hl2 hy
              go_upto_region 32 with (fail)
              rw [hW6.out]
              obtain ⟨d0, d1, d2, d3, d4, d5⟩ := hV6
              generalize wr.heap.size = vb at *
              go_quiet (fail)
              have hL7 := Lib.hid (hll.out nq)
              clear hll hlk6 c0 c1 c2 c3 c4 c5 d0 d1 d2 d3 d4 d5 y0 y1 y2 y3 y4 y5
              go_wp2
              go_roundw
              case rel => exact ⟨r + 1 + 1, by go_num, by omega, hL7⟩
              case measure => simp [intOf]; omega
          · obtain rfl : q = S.ws.length := by omega
            have hbl := Lib.hid hL.out.j.bel
            clear hL hnq hfn hsm hup
            go_wp2_with (fail)
            with_reducible refine (haw.out _).mono ?_
            rintro e w7 ⟨rfl, hB7⟩
            have hfin := Lib.hid (trans0 hbl.out hB7)
            clear hB7 hbl haw
            go_wp2
            go_ret
            exact ⟨rfl, hfin.out⟩
      · have hjI : (j : Int) < (n : Int) := by omega
        have hj6 : ¬ (j : Int) < 60 := by omega
        go_wp2_with (fail)
        with_reducible refine hwr.out.mono ?_
        rintro e w5 ⟨A9, c9, rfl, hG5, hB5, hJ5⟩
        have hL5 := Lib.hid (hLR.out _ A9 c9 hG5 hJ5)
        clear hwr hG5 hB5 hJ5 hLR
        go_wp2
        go_loopw [115] (fun i wx => ∃ q : Nat, i = .int .i64 q ∧ q ≤ S.ws.length ∧ Hid (LR w p S mb j kA kc ks A9 c9 wx)) (fun i _ => S.ws.length - (intOf i).toNat)
        case atStart => exact ⟨0, rfl, by omega, hL5⟩
        case round =>
          clear hL5
          obtain ⟨q, rfl, hq, hL⟩ := hrel
          by_cases hql : q < S.ws.length
          · have hqI : (q : Int) < (S.ws.length : Int) := by omega
            obtain ⟨rb, ro, rfl, hrb, hx⟩ := hL.out.hv.at hql
            have hsz := hsm.out q hql
            have hfq := hfn.out q hql
            have hpre : Hid (∀ r, q = r + 1 → V6 rb (ro + r * 6) (nt S.ws r) wr ∧ slt (nt S.ws r).key (nt S.ws q).key = true) := Lib.hid (fun r hr => by
              obtain ⟨rb', ro', e, _, hx'⟩ := hL.out.hv.at (show r < S.ws.length by omega)
              cases e
              exact ⟨hx', hup.out.lt (by omega) hql⟩)
            obtain ⟨x, hxe⟩ : ∃ x, nt S.ws q = x := ⟨_, rfl⟩
            rw [hxe] at hx hsz hfq hpre
            have hl2 := Lib.hid (fun V (hV : LR w p S mb j kA kc ks (some ⟨rb, ro, none⟩) c9 V) => l_look1 hV.j x.key hsz)
            rw [hfq] at hl2
            obtain ⟨W6, hW6⟩ : ∃ W6, wr.alloc (.cells #[.string x.key, .string x.val, .bool x.gone, .int .u64 x.ts, .int .i64 x.dc, .int .i64 x.tx] 41) = W6 := ⟨_, rfl⟩
            have hB6 : Below wr.heap.size wr W6 := by rw [← hW6]; exact al0 _ _
            have hV6 : V6 wr.heap.size 0 x W6 := by rw [← hW6]; exact V6.new wr x _
            have hL6 := Lib.hid (hL.out.below hB6)
            have hll := Lib.hid (fun nn => hL6.out.below (bdrN nn (Below.refl _ _)))
            have hlk6 := fun nn => hl2.out _ (hll.out nn)
            have hnx := hnq.out x
            replace hW6 := Lib.hid hW6
            obtain ⟨c0, c1, c2, c3, c4, c5⟩ := hx
            rcases q with _ | r
            · simp only [Nat.zero_mul, Nat.add_zero] at c0 c1 c2 c3 c4 c5
              clear hpre hfq hL hl2
              go_upto_region 32 with (fail)
              rw [hW6.out]
              obtain ⟨d0, d1, d2, d3, d4, d5⟩ := hV6
              generalize wr.heap.size = vb at *
              go_quiet (fail)
              have hL7 := Lib.hid (hll.out nq)
              clear hll hlk6 c0 c1 c2 c3 c4 c5 d0 d1 d2 d3 d4 d5
              go_wp2
              go_roundw
              case rel => exact ⟨0 + 1, by go_num, by omega, hL7⟩
              case measure => simp [intOf]; omega
            · obtain ⟨hy, hlt⟩ := hpre.out r rfl
              obtain ⟨y, hye⟩ : ∃ y, nt S.ws r = y := ⟨_, rfl⟩
              rw [hye] at hy hlt
              obtain ⟨y0, y1, y2, y3, y4, y5⟩ := hy.below hB6
              have g0 : (0 : Int) < (r : Int) + 1 := by omega
              have g1 : IntKind.i64.wrap ((r : Int) + 1 - 1) = (r : Int) := by rw [show (r : Int) + 1 - 1 = (r : Int) by omega]; exact wrap_in _ (by omega) (by omega)
              have g2 : IntKind.i64.wrap (r : Int) = (r : Int) := wrap_in _ (by omega) (by omega)
              have g3 : (r : Int) < (S.ws.length : Int) := by omega
              have g4 : r < S.ws.length := by omega
              clear hpre hfq hL hl2 hy
              go_upto_region 32 with (fail)
              rw [hW6.out]
              obtain ⟨d0, d1, d2, d3, d4, d5⟩ := hV6
              generalize wr.heap.size = vb at *
              go_quiet (fail)
              have hL7 := Lib.hid (hll.out nq)
              clear hll hlk6 c0 c1 c2 c3 c4 c5 d0 d1 d2 d3 d4 d5 y0 y1 y2 y3 y4 y5
              go_wp2
              go_roundw
              case rel => exact ⟨r + 1 + 1, by go_num, by omega, hL7⟩
              case measure => simp [intOf]; omega
          · obtain rfl : q = S.ws.length := by omega
            have hbl := Lib.hid hL.out.j.bel
            clear hL hnq hfn hsm hup
            go_wp2_with (fail)
            with_reducible refine (haw.out _).mono ?_
            rintro e w7 ⟨rfl, hB7⟩
            have hfin := Lib.hid (trans0 hbl.out hB7)
            clear hB7 hbl haw
            go_wp2
            go_ret
            exact ⟨rfl, hfin.out⟩
end Go.Proofs.Ytnicomhodnfggaa.seLa
