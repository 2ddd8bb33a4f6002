/- SessionOwn: what a client committed it finds, till it reads at a time not below it. -/
import Derived.Test.YtnicomhodnfggaaSeRi
import Derived.Test.YtnicomhodnfggaaSeT
set_option linter.unusedVariables false
set_option linter.unusedSimpArgs false
set_option maxRecDepth 100000
namespace Go.Proofs.Ytnicomhodnfggaa.seOw
open Go.ChangeShapes Go.WideShapes Go.ChangeAt Go.RowKit Go.Deep
open opV opO chnM gen chnA chnR chnE seM seI ordC seL seN seB seK seV seW seG seC seA seS seJ seRi seT
attribute [local go_sem high] bin_slt bin_sle bin_sge bin_sgt bin_seq bin_sne

/-- the law's two boxes, of a color of their own -/
def XM (bm bl : Nat) (T : Tk) : Wh := fun col V => R6 bm T.mine V ∧ R6 bl T.last V ∧ col bm = 3 ∧ col bl = 3 ∧ bm ≠ bl
theorem st_XM {d bm bl : Nat} {T : Tk} (hd : d ≠ 3) : St d (XM bm bl T) := fun _ _ _ _ hg he ⟨h1, h2, h3, h4, h5⟩ =>
  ⟨h1.of_block (hg.block bm h1.lt (by rw [h3]; exact fun e => hd e.symm)), h2.of_block (hg.block bl h2.lt (by rw [h4]; exact fun e => hd e.symm)), (he bm h1.lt).trans h3, (he bl h2.lt).trans h4, h5⟩
section
variable {w V V' : World} {p B bm bl : Nat} {S : Ss} {o : Oq} {X Y : Wh} {T T' : Tk}
theorem j_box2 (h : J w (X2 (XS p S) Y) V) (hY : St 9 Y) (o : Oq) : J w (X2 (XS p S) (X2 (XB V.heap.size o) Y)) (V.alloc (.cells (cO o) 33)) := by
  obtain ⟨col, h1, h2, h3, h4⟩ := j_box h (st9 hY) o
  exact ⟨col, h1, h3, h2, h4⟩
theorem j_drop (h : J w (X2 (XS p S) (X2 (XB B o) Y)) V) : J w (X2 (XS p S) Y) V := by
  obtain ⟨col, h1, h2, h3, h4⟩ := h
  exact ⟨col, h1, h2, h4⟩
theorem j_m (h : J w (X2 X (X2 (XB B o) (XM bm bl T))) V) : R6 bm T.mine V ∧ R6 bl T.last V := by
  obtain ⟨col, h1, h2, h3, h4, h5, h6⟩ := h
  exact ⟨h4, h5⟩
theorem j_m2 (h : J w (X2 X (XM bm bl T)) V) : R6 bm T.mine V ∧ R6 bl T.last V := by
  obtain ⟨col, h1, h2, h4, h5, h6⟩ := h
  exact ⟨h4, h5⟩
/-- a box has been written -/
theorem j_put (h : J w (X2 (XS p S) (X2 (XB B o) (XM bm bl T))) V) (hg : ∀ col, col bm = 3 → col bl = 3 → Chg col 3 V V') (hn : bm ≠ bl → R6 bm T'.mine V' ∧ R6 bl T'.last V') : J w (X2 (XS p S) (X2 (XB B o) (XM bm bl T'))) V' := by
  obtain ⟨col, h1, h2, h3, h4, h5, h6, h7, h8⟩ := h
  have hC := hg col h6 h7
  obtain ⟨n1, n2⟩ := hn h8
  exact ⟨col, h1.go ⟨Ext.refl _ _, h1.fr.up hC.size, hC⟩ (by decide), st_XS (by decide) (by decide) _ _ _ _ hC (Ext.refl _ _) h2, st_XB (by decide) _ _ _ _ hC (Ext.refl _ _) h3, n1, n2, h6, h7, h8⟩
theorem chg_put6 {col : Nat → Nat} {b : Nat} (hb : col b = 3) (v : Ver) : Chg col 3 V (put6 V b v) :=
  ((((((Chg.refl _ _ _).setCell (p := ⟨b, 0, none⟩) hb _).setCell (p := ⟨b, 1, none⟩) hb _).setCell (p := ⟨b, 2, none⟩) hb _).setCell (p := ⟨b, 3, none⟩) hb _).setCell (p := ⟨b, 4, none⟩) hb _).setCell (p := ⟨b, 5, none⟩) hb _
theorem put6_other {b k : Nat} (h : k ≠ b) (w : World) (v : Ver) : (put6 w b v).heap[k]? = w.heap[k]? := by
  unfold put6
  rw [Below.heap_setCell _ _ _ _ h, Below.heap_setCell _ _ _ _ h, Below.heap_setCell _ _ _ _ h, Below.heap_setCell _ _ _ _ h, Below.heap_setCell _ _ _ _ h, Below.heap_setCell _ _ _ _ h]
theorem j_mine (h : J w (X2 (XS p S) (X2 (XB B o) (XM bm bl T))) V) (v : Ver) (i : Bool) : J w (X2 (XS p S) (X2 (XB B o) (XM bm bl { T with mine := v, is := i }))) (put6 V bm v) := by
  obtain ⟨m1, m2⟩ := j_m h
  exact j_put h (fun col h3 h4 => chg_put6 h3 v) fun hne => ⟨m1.put v, m2.of_block (put6_other hne.symm _ _)⟩
theorem j_last (h : J w (X2 (XS p S) (X2 (XB B o) (XM bm bl T))) V) (v : Ver) : J w (X2 (XS p S) (X2 (XB B o) (XM bm bl ⟨T.mine, v, false, true⟩))) (put6 V bl v) := by
  obtain ⟨m1, m2⟩ := j_m h
  exact j_put h (fun col h3 h4 => chg_put6 h4 v) fun hne => ⟨m1.of_block (put6_other hne _ _), m2.put v⟩
theorem j_sign (h : J w (X2 (XS p S) (X2 (XB B o) (XM bm bl ⟨T.mine, T.mine, false, true⟩))) V) (ts dc tx : Int) : J w (X2 (XS p S) (X2 (XB B o) (XM bm bl ⟨T.mine, sign ts dc tx T.mine, false, true⟩))) (((V.setCell ⟨bl, 3, none⟩ (.int .u64 ts)).setCell ⟨bl, 4, none⟩ (.int .i64 dc)).setCell ⟨bl, 5, none⟩ (.int .i64 tx)).drew := by
  obtain ⟨m1, m2⟩ := j_m h
  simp only at m1 m2
  refine j_put h (fun col h3 h4 => ((((Chg.refl _ _ _).setCell (p := ⟨bl, 3, none⟩) h4 _).setCell (p := ⟨bl, 4, none⟩) h4 _).setCell (p := ⟨bl, 5, none⟩) h4 _).drew) fun hne => ⟨?_, ?_⟩
  · refine m1.of_block (w' := (((V.setCell ⟨bl, 3, none⟩ (.int .u64 ts)).setCell ⟨bl, 4, none⟩ (.int .i64 dc)).setCell ⟨bl, 5, none⟩ (.int .i64 tx)).drew) ?_
    show (((V.setCell ⟨bl, 3, none⟩ (.int .u64 ts)).setCell ⟨bl, 4, none⟩ (.int .i64 dc)).setCell ⟨bl, 5, none⟩ (.int .i64 tx)).heap[bm]? = _
    rw [Below.heap_setCell _ _ _ _ hne, Below.heap_setCell _ _ _ _ hne, Below.heap_setCell _ _ _ _ hne]
  · exact (((m2.set 3 (.int .u64 ts)).set 4 (.int .i64 dc)).set 5 (.int .i64 tx)).congr fun i hi => by rcases six hi with rfl | rfl | rfl | rfl | rfl | rfl <;> rfl
theorem j_flag (h : J w (X2 (XS p S) (X2 (XB B o) (XM bm bl T))) V) (h1 : T'.mine = T.mine) (h2 : T'.last = T.last) : J w (X2 (XS p S) (X2 (XB B o) (XM bm bl T'))) V :=
  j_put h (fun col h3 h4 => Chg.refl _ _ _) fun hne => by rw [h1, h2]; exact j_m h
abbrev zV6 : Array Value := #[.string { data := #[] }, .string { data := #[] }, .bool false, .int .u64 0, .int .i64 0, .int .i64 0]
theorem j_start (h : J w (X2 (XS p S) XT) V) : J w (X2 (XS p S) (XM V.heap.size (V.heap.size + 1) T0)) ((V.alloc (.cells zV6 41)).alloc (.cells zV6 41)) := by
  obtain ⟨col, h1, h2, -⟩ := h
  have hB := trans0 (al0 V (.cells zV6 41)) (al0 (V.alloc (.cells zV6 41)) (.cells zV6 41))
  have hs1 : (V.alloc (.cells zV6 41)).heap.size = V.heap.size + 1 := by simp
  have hs : ((V.alloc (.cells zV6 41)).alloc (.cells zV6 41)).heap.size = V.heap.size + 1 + 1 := by simp
  have r1 : R6 V.heap.size default (V.alloc (.cells zV6 41)) := R6.new V default
  have r2 : R6 (V.heap.size + 1) default ((V.alloc (.cells zV6 41)).alloc (.cells zV6 41)) := by
    have := R6.new (V.alloc (.cells zV6 41)) default
    rw [hs1] at this
    exact this
  have hE : Ext V col (fun k => if k = V.heap.size ∨ k = V.heap.size + 1 then 3 else col k) := fun k hk => if_neg (by omega)
  have hg := Chg.of_below col 9 hB
  refine ⟨_, h1.go ⟨hE, fun k hk => ?_, hg⟩ (by decide), h2.other hg (by decide) (by decide) hE, r1.below (al0 _ _), r2, if_pos (.inl rfl), if_pos (.inr rfl), by omega⟩
  rw [hs] at hk
  show (if k = V.heap.size ∨ k = V.heap.size + 1 then 3 else col k) = 0
  rw [if_neg (by omega)]
  exact h1.fr k (by omega)
end
theorem neq_self (v : Ver) (w : World) : (binOp .neq 41 (.agg #[.string v.key, .string v.val, .bool v.gone, .int .u64 v.ts, .int .i64 v.dc, .int .i64 v.tx]) (.agg #[.string v.key, .string v.val, .bool v.gone, .int .u64 v.ts, .int .i64 v.dc, .int .i64 v.tx])).run Try.prog w = .ok (.bool false) w := by
  have := neq_ver v v w
  rwa [decide_eq_true rfl] at this
set_option maxHeartbeats 4000000 in
theorem own_any (A : Option Addr) (n c : Nat) (l : List Oq) (key : ByteArray) (w : World) (h : Rs w A n l) (hc : n ≤ c) (hc9 : c ≤ 9223372036854775807) (hkey : key.size ≤ 140737488351232) :
    Calls Try.prog 5 #[.slice A n c, .string key] w fun e w' => e = .returned (.bool true) ∧ Below w.heap.size w w' := by
  have hcell := Lib.hid (rs_at h)
  have hnew := Lib.hid (new_any w)
  have hJ0 := j_new w
  obtain ⟨W1, hW1⟩ : ∃ W1, newS w = W1 := ⟨_, rfl⟩
  obtain ⟨p, hp⟩ : ∃ p, w.heap.size + 1 = p := ⟨_, rfl⟩
  rw [hW1, hp] at hnew hJ0
  have hJ1 := j_start hJ0
  obtain ⟨W2, hW2⟩ : ∃ W2, (W1.alloc (.cells zV6 41)).alloc (.cells zV6 41) = W2 := ⟨_, rfl⟩
  rw [hW2] at hJ1
  replace hW2 := Lib.hid hW2
  obtain ⟨bm, hbm⟩ : ∃ b, W1.heap.size = b := ⟨_, rfl⟩
  obtain ⟨bl, hbl⟩ : ∃ b, W1.heap.size + 1 = b := ⟨_, rfl⟩
  rw [hbm] at hJ1
  rw [← hbm, hbl] at hJ1
  rw [hbm] at hJ1
  replace hJ1 := Lib.hid hJ1
  replace hbm := Lib.hid hbm
  replace hbl := Lib.hid hbl
  have hok := Lib.hid (rn_ok l)
  have hcn := Lib.hid (rn_cnt l)
  have hti := Lib.hid (tn_ti l key)
  clear h hW1 hp hJ0
  go_enter Try.func5, Try.ntmps5
  go_wp2_with (fail)
  with_reducible refine hnew.out.mono ?_
  rintro e w1 ⟨rfl, rfl⟩
  clear hnew
  go_upto_region 5 with (fail)
  rw [hW2.out, hbl.out, hbm.out]
  clear hW2 hbl hbm
  go_wp2
  go_loopw [8, 9, 10] (fun u v i wr => ∃ j : Nat, u = .bool (tn l key j).is ∧ v = .bool (tn l key j).was ∧ i = .int .i64 j ∧ j ≤ n ∧ j ≤ 120 ∧ Hid (J w (X2 (XS p (rn l j)) (XM bm bl (tn l key j))) wr)) (fun _ _ i _ => n - (intOf i).toNat)
  case atStart => exact ⟨0, rfl, rfl, rfl, by omega, by omega, hJ1⟩
  case round =>
    clear hJ1
    obtain ⟨j, rfl, rfl, rfl, hj, hj1, hJ⟩ := hrel
    by_cases hlt : j < n ∧ j < 120
    · obtain ⟨hlt, h120⟩ := hlt
      obtain ⟨pb, po, rfl, hpb, hO, hko⟩ := hcell.out j hlt
      have hjI : (j : Int) < (n : Int) := by omega
      have hj6 : (j : Int) < 120 := by omega
      have ht2 := hti.out (j + 1)
      have hok2 := Lib.hid (hok.out (j + 1))
      have hoj := Lib.hid (hok.out j)
      have hcj : Hid ((rn l j).cnt ≤ 100000) := Lib.hid (by have := hcn.out j; omega)
      have hS2 : Hid (rn l (j + 1) = stS (rn l j) (nt l j)) := Lib.hid rfl
      have hT2 : Hid (tn l key (j + 1) = tkS (tn l key j) (rn l j) (nt l j) key) := Lib.hid rfl
      have hrun := Lib.hid (fun V Y (hV : J w (X2 (XS p (rn l j)) Y) V) h1 h9 => j_do hV h1 h9 hoj.out hcj.out (nt l j))
      rw [← hS2.out] at hrun
      obtain ⟨o0, o1, o2, o3, o4, o5, o6, o7⟩ := o8_step hO hJ.out.bel (Nat.le_refl _)
      obtain ⟨S2, hSe⟩ : ∃ S2, rn l (j + 1) = S2 := ⟨_, rfl⟩
      obtain ⟨T2, hTe⟩ : ∃ T2, tn l key (j + 1) = T2 := ⟨_, rfl⟩
      rw [hSe] at hrun ht2 hok2
      rw [hTe] at hT2 ht2
      replace ht2 := Lib.hid ht2
      replace hSe := Lib.hid hSe
      replace hTe := Lib.hid hTe
      have hJ3 := j_box2 hJ.out (st_XM (by decide)) (nt l j)
      generalize rn l j = S at *
      generalize tn l key j = T at *
      generalize nt l j = o at *
      obtain ⟨W3, hW3⟩ : ∃ W3, wr.alloc (.cells (cO o) 33) = W3 := ⟨_, rfl⟩
      obtain ⟨B, hB⟩ : ∃ B, wr.heap.size = B := ⟨_, rfl⟩
      rw [hW3, hB] at hJ3
      have hd3 := Lib.hid (hrun.out _ _ hJ3 (st_X2 (st_XB (by decide)) (st_XM (by decide))) (st_X2 (st_XB (by decide)) (st_XM (by decide))))
      have hO3 := j_o8 hJ3
      replace hW3 := Lib.hid hW3
      replace hB := Lib.hid hB
      obtain ⟨ee, hEE⟩ : ∃ ee, stE S o = ee := ⟨_, rfl⟩
      rw [hEE] at hd3
      clear hcell hO hoj hcj hok hcn hS2 hrun hJ3 hJ hti
      obtain ⟨ti, hti⟩ : ∃ b, T.is = b := ⟨_, rfl⟩
      obtain ⟨tw, htw⟩ : ∃ b, T.was = b := ⟨_, rfl⟩
      rw [hti, htw]
      go_upto_region 10 with (fail)
      rw [hW3.out, hB.out]
      clear o0 o1 o2 o3 o4 o5 o6 o7 hW3 hB
      obtain ⟨o0, o1, o2, o3, o4, o5, o6, o7⟩ := hO3
      go_wp2_with (fail)
      with_reducible refine hd3.out.mono ?_
      rintro e w4 ⟨rfl, hJ4⟩
      clear o0 o1 o2 o3 o4 o5 o6 o7 hd3
      obtain ⟨o0, o1, o2, o3, o4, o5, o6, o7⟩ := j_o8 hJ4
      obtain ⟨rm, rl⟩ := j_m hJ4
      replace hJ4 := Lib.hid hJ4
      go_upto_if 36 with (fail)
      go_cut [8, 9] from 37 to 70 (fun u v wx => u = .bool T2.is ∧ v = .bool T2.was ∧ Hid (J w (X2 (XS p S2) (X2 (XB B o) (XM bm bl T2))) wx))
      case first =>
        obtain ⟨m0, m1, m2, m3, m4, m5⟩ := rm.v6
        obtain ⟨l0, l1, l2, l3, l4, l5⟩ := rl.v6
        obtain ⟨g0, g1, g2, g3, g4, g5⟩ := rm.fz
        obtain ⟨f0, f1, f2, f3, f4, f5⟩ := rl.fz
        have hll := rl.lt
        have hml := rm.lt
        clear rm rl
        by_cases hz : ee = 0
        · have hzz : stE S o = 0 := by rw [hEE]; exact hz
          subst hz
          rcases five_ways o.kind with e | e | e | e | ⟨e0, e1, e2, e3⟩
          · have hk0 : (o.kind == 0) = true := by simpa using e
            have hx : T2 = { T with is := false } := by rw [hT2.out]; exact tk0 hzz e
            have hJ5 := Lib.hid (j_flag (T' := { T with is := false }) hJ4.out rfl rfl)
            clear e hEE hzz
            go_wp2
            go_meet
            exact ⟨by rw [hx], by rw [hx, ← htw], by rw [hx]; exact hJ5⟩
          · have hk0 : (o.kind == 0) = false := by simp; omega
            have hk1 : (o.kind == 1) = true := by simpa using e
            cases hq : seq o.key key with
            | true =>
              have hx : T2 = { T with mine := wv key o.val o.gone, is := true } := by rw [hT2.out]; exact tk1y hzz e hq
              have hJ5 := Lib.hid (j_mine hJ4.out (wv key o.val o.gone) true)
              clear e hEE hzz
              go_wp2
              go_meet
              exact ⟨by rw [hx], by rw [hx, ← htw], by rw [hx]; exact hJ5⟩
            | false =>
              have hx : T2 = T := by rw [hT2.out]; exact tk1n hzz e hq
              clear e hEE hzz
              go_wp2
              go_meet
              exact ⟨by rw [hx, hti], by rw [hx, htw], by rw [hx]; exact hJ4⟩
          · have hk0 : (o.kind == 0) = false := by simp; omega
            have hk1 : (o.kind == 1) = false := by simp; omega
            have hk2 : (o.kind == 2) = true := by simpa using e
            cases hq : ti with
            | true =>
              rw [hq] at hti
              have hx : T2 = ⟨T.mine, sign o.ts o.dc o.tx T.mine, false, true⟩ := by rw [hT2.out]; exact tk2y hzz e hti
              have hJ5 := j_last hJ4.out T.mine
              have hJ6 := Lib.hid (fun ts dc tx => j_sign (T := T) hJ5 ts dc tx)
              obtain ⟨o0, o1, o2, o3, o4, o5, o6, o7⟩ := j_o8 hJ5
              obtain ⟨_, rl⟩ := j_m hJ5
              simp only at rl
              obtain ⟨W5, hW5⟩ : ∃ W5, put6 w4 bl T.mine = W5 := ⟨_, rfl⟩
              rw [hW5] at hJ6 o0 o1 o2 o3 o4 o5 o6 o7 rl
              unfold put6 at hW5
              replace hW5 := Lib.hid hW5
              clear e hEE hzz hJ5
              go_upto_region 21 with (fail)
              rw [hW5.out]
              clear m0 m1 m2 m3 m4 m5 l0 l1 l2 l3 l4 l5 g0 g1 g2 g3 g4 g5 f0 f1 f2 f3 f4 f5 hW5 hll hml
              obtain ⟨l0, l1, l2, l3, l4, l5⟩ := rl.v6
              obtain ⟨f0, f1, f2, f3, f4, f5⟩ := rl.fz
              clear rl
              go_region
              all_goals
                go_wp2
                go_meet
                exact ⟨by rw [hx], by rw [hx], by rw [hx]; exact Lib.hid (hJ6.out _ _ _)⟩
            | false =>
              rw [hq] at hti
              have hx : T2 = T := by rw [hT2.out]; exact tk2n hzz e hti
              clear e hEE hzz
              go_wp2
              go_meet
              exact ⟨by rw [hx, hti], by rw [hx, htw], by rw [hx]; exact hJ4⟩
          · have hk0 : (o.kind == 0) = false := by simp; omega
            have hk1 : (o.kind == 1) = false := by simp; omega
            have hk2 : (o.kind == 2) = false := by simp; omega
            have hk3 : (o.kind == 3) = true := by simpa using e
            have hx : T2 = { T with is := false } := by rw [hT2.out]; exact tk3 hzz e
            have hJ5 := Lib.hid (j_flag (T' := { T with is := false }) hJ4.out rfl rfl)
            clear e hEE hzz
            go_wp2
            go_meet
            exact ⟨by rw [hx], by rw [hx, ← htw], by rw [hx]; exact hJ5⟩
          · have hk0 : (o.kind == 0) = false := by simpa using e0
            have hk1 : (o.kind == 1) = false := by simpa using e1
            have hk2 : (o.kind == 2) = false := by simpa using e2
            have hk3 : (o.kind == 3) = false := by simpa using e3
            have hx : T2 = T := by rw [hT2.out]; exact tk4 e0 e1 e2 e3
            clear e0 e1 e2 e3 hEE hzz
            go_wp2
            go_meet
            exact ⟨by rw [hx, hti], by rw [hx, htw], by rw [hx]; exact hJ4⟩
        · have hzb : (ee == 0) = false := by simpa using hz
          have hx : T2 = T := by rw [hT2.out]; exact tk_no (by rw [hEE]; exact hz)
          clear hz hEE
          go_wp2
          go_meet
          exact ⟨by rw [hx, hti], by rw [hx, htw], by rw [hx]; exact hJ4⟩
      case rest =>
      obtain ⟨rfl, rfl, hJ5⟩ := hcut
      replace hJ5 := j_drop hJ5.out
      clear o0 o1 o2 o3 o4 o5 o6 o7 rm rl hJ4 hT2 hEE hti htw hko
      have hlk := Lib.hid (j_look hJ5 (st_XM (by decide)) hok2.out key (by omega))
      have hop := Lib.hid (fun V (hV : J w (X2 (XS p S2) (XM bm bl T2)) V) => j_open hV)
      have hsnq := Lib.hid (fun V (hV : J w (X2 (XS p S2) (XM bm bl T2)) V) n => quiet2 (j_snap (hV.below (st9 (st_XM (by decide))) (bdrN n (Below.refl _ _)))))
      have hall := Lib.hid (fun V (hV : J w (X2 (XS p S2) (XM bm bl T2)) V) n => hV.below (st9 (st_XM (by decide))) (bdrN n (Below.refl _ _)))
      have hbx := Lib.hid (fun V (hV : J w (X2 (XS p S2) (XM bm bl T2)) V) (v : Ver) => (by
        have h2 := hV.below (st9 (st_XM (by decide))) (al0 V (.cells #[.string v.key, .string v.val, .bool v.gone, .int .u64 v.ts, .int .i64 v.dc, .int .i64 v.tx] 41))
        exact ⟨h2, V6.new V v _, (j_m2 h2).1.v6, (j_m2 h2).2.v6⟩ : J w (X2 (XS p S2) (XM bm bl T2)) (V.alloc (.cells #[.string v.key, .string v.val, .bool v.gone, .int .u64 v.ts, .int .i64 v.dc, .int .i64 v.tx] 41)) ∧ V6 V.heap.size 0 v (V.alloc (.cells #[.string v.key, .string v.val, .bool v.gone, .int .u64 v.ts, .int .i64 v.dc, .int .i64 v.tx] 41)) ∧ V6 bm 0 T2.mine (V.alloc (.cells #[.string v.key, .string v.val, .bool v.gone, .int .u64 v.ts, .int .i64 v.dc, .int .i64 v.tx] 41)) ∧ V6 bl 0 T2.last (V.alloc (.cells #[.string v.key, .string v.val, .bool v.gone, .int .u64 v.ts, .int .i64 v.dc, .int .i64 v.tx] 41))))
      have hnq := Lib.hid neq_self
      have hli := ti_look ht2.out
      obtain ⟨lv, hlv⟩ : ∃ v, lkV S2 key = v := ⟨_, rfl⟩
      rw [hlv] at hlk hli
      clear hJ5 hok2 ht2 hlv
      rcases hli with ⟨a1, a2⟩ | ⟨a1, a2, a3, a4⟩ | ⟨a1, a2, a3, a4, a5, a6⟩ | ⟨a1, a2, a3, a4, a5⟩ | ⟨a1, a2, a3, a4⟩
      · rw [a2] at hlk
        rw [a1] at hop
        go_wp2_with (fail)
        with_reducible refine hlk.out.mono ?_
        rintro e w6 ⟨rfl, hJ6⟩
        obtain ⟨h7, hv7, hm7, hl7⟩ := hbx.out _ hJ6 lv
        obtain ⟨W7, hW7⟩ : ∃ W7, w6.alloc (.cells #[.string lv.key, .string lv.val, .bool lv.gone, .int .u64 lv.ts, .int .i64 lv.dc, .int .i64 lv.tx] 41) = W7 := ⟨_, rfl⟩
        rw [hW7] at h7 hv7 hm7 hl7
        have hop7 := Lib.hid (hop.out _ h7)
        have hsn7 := Lib.hid (hsnq.out _ h7)
        have hal7 := Lib.hid (hall.out _ h7)
        replace h7 := Lib.hid h7
        replace hW7 := Lib.hid hW7
        clear hlk hop hsnq hall hbx hJ6
        obtain ⟨v0', v1, v2, v3, v4, v5⟩ := hv7
        obtain ⟨m0, m1, m2, m3, m4, m5⟩ := hm7
        obtain ⟨l0, l1, l2, l3, l4, l5⟩ := hl7
        go_upto_region 25 with (fail)
        rw [hW7.out]
        generalize w6.heap.size = vb at *
        clear hW7
        go_wp2_with (fail)
        with_reducible refine hop7.out.mono ?_
        rintro e w8 ⟨rfl, rfl⟩
        clear hop7
        have h8 := h7
        go_wp2
        go_roundw
        case rel => exact ⟨j + 1, by rw [hTe.out], by rw [hTe.out], by go_num, by omega, by omega, by rw [hSe.out, hTe.out]; exact h8⟩
        case measure => simp [intOf]; omega
      · rw [a3] at hlk
        rw [a1] at hop
        rw [a2]
        have hnq1 := hnq.out T2.mine
        go_wp2_with (fail)
        with_reducible refine hlk.out.mono ?_
        rintro e w6 ⟨rfl, hJ6⟩
        obtain ⟨h7, hv7, hm7, hl7⟩ := hbx.out _ hJ6 lv
        obtain ⟨W7, hW7⟩ : ∃ W7, w6.alloc (.cells #[.string lv.key, .string lv.val, .bool lv.gone, .int .u64 lv.ts, .int .i64 lv.dc, .int .i64 lv.tx] 41) = W7 := ⟨_, rfl⟩
        rw [hW7] at h7 hv7 hm7 hl7
        have hop7 := Lib.hid (hop.out _ h7)
        have hsn7 := Lib.hid (hsnq.out _ h7)
        have hal7 := Lib.hid (hall.out _ h7)
        replace h7 := Lib.hid h7
        replace hW7 := Lib.hid hW7
        clear hlk hop hsnq hall hbx hJ6
        subst a4
        obtain ⟨v0', v1, v2, v3, v4, v5⟩ := hv7
        obtain ⟨m0, m1, m2, m3, m4, m5⟩ := hm7
        obtain ⟨l0, l1, l2, l3, l4, l5⟩ := hl7
        go_upto_region 25 with (fail)
        rw [hW7.out]
        generalize w6.heap.size = vb at *
        clear hW7
        go_wp2_with (fail)
        with_reducible refine hop7.out.mono ?_
        rintro e w8 ⟨rfl, rfl⟩
        clear hop7
        have h8 := h7
        go_wp2
        go_roundw
        case rel => exact ⟨j + 1, by rw [hTe.out, a2], by rw [hTe.out], by go_num, by omega, by omega, by rw [hSe.out, hTe.out]; exact h8⟩
        case measure => simp [intOf]; omega
      · rw [a5] at hlk
        rw [a1] at hop
        rw [a2, a3]
        have hnq1 := hnq.out T2.last
        go_wp2_with (fail)
        with_reducible refine hlk.out.mono ?_
        rintro e w6 ⟨rfl, hJ6⟩
        obtain ⟨h7, hv7, hm7, hl7⟩ := hbx.out _ hJ6 lv
        obtain ⟨W7, hW7⟩ : ∃ W7, w6.alloc (.cells #[.string lv.key, .string lv.val, .bool lv.gone, .int .u64 lv.ts, .int .i64 lv.dc, .int .i64 lv.tx] 41) = W7 := ⟨_, rfl⟩
        rw [hW7] at h7 hv7 hm7 hl7
        have hop7 := Lib.hid (hop.out _ h7)
        have hsn7 := Lib.hid (hsnq.out _ h7)
        have hal7 := Lib.hid (hall.out _ h7)
        replace h7 := Lib.hid h7
        replace hW7 := Lib.hid hW7
        clear hlk hop hsnq hall hbx hJ6
        subst a6
        obtain ⟨v0', v1, v2, v3, v4, v5⟩ := hv7
        obtain ⟨m0, m1, m2, m3, m4, m5⟩ := hm7
        obtain ⟨l0, l1, l2, l3, l4, l5⟩ := hl7
        go_upto_region 25 with (fail)
        rw [hW7.out]
        generalize w6.heap.size = vb at *
        clear hW7
        go_wp2_with (fail)
        with_reducible refine hop7.out.mono ?_
        rintro e w8 ⟨rfl, rfl⟩
        clear hop7
        go_upto_region 31 with (fail)
        go_quiet ((go_at_call 20; exact hsn7.out _))
        have h8 := Lib.hid (hal7.out nq)
        go_wp2
        go_roundw
        case rel => exact ⟨j + 1, by rw [hTe.out, a2], by rw [hTe.out, a3], by go_num, by omega, by omega, by rw [hSe.out, hTe.out]; exact h8⟩
        case measure => simp [intOf]; omega
      · rw [a5] at hlk
        rw [a1] at hop
        rw [a2, a3]
        go_wp2_with (fail)
        with_reducible refine hlk.out.mono ?_
        rintro e w6 ⟨rfl, hJ6⟩
        obtain ⟨h7, hv7, hm7, hl7⟩ := hbx.out _ hJ6 lv
        obtain ⟨W7, hW7⟩ : ∃ W7, w6.alloc (.cells #[.string lv.key, .string lv.val, .bool lv.gone, .int .u64 lv.ts, .int .i64 lv.dc, .int .i64 lv.tx] 41) = W7 := ⟨_, rfl⟩
        rw [hW7] at h7 hv7 hm7 hl7
        have hop7 := Lib.hid (hop.out _ h7)
        have hsn7 := Lib.hid (hsnq.out _ h7)
        have hal7 := Lib.hid (hall.out _ h7)
        replace h7 := Lib.hid h7
        replace hW7 := Lib.hid hW7
        clear hlk hop hsnq hall hbx hJ6
        obtain ⟨v0', v1, v2, v3, v4, v5⟩ := hv7
        obtain ⟨m0, m1, m2, m3, m4, m5⟩ := hm7
        obtain ⟨l0, l1, l2, l3, l4, l5⟩ := hl7
        go_upto_region 25 with (fail)
        rw [hW7.out]
        generalize w6.heap.size = vb at *
        clear hW7
        go_wp2_with (fail)
        with_reducible refine hop7.out.mono ?_
        rintro e w8 ⟨rfl, rfl⟩
        clear hop7
        go_upto_region 31 with (fail)
        go_quiet ((go_at_call 20; exact hsn7.out _))
        have h8 := Lib.hid (hal7.out nq)
        go_wp2
        go_roundw
        case rel => exact ⟨j + 1, by rw [hTe.out, a2], by rw [hTe.out, a3], by go_num, by omega, by omega, by rw [hSe.out, hTe.out]; exact h8⟩
        case measure => simp [intOf]; omega
      · rw [a4] at hlk
        rw [a1] at hop
        rw [a2, a3]
        go_wp2_with (fail)
        with_reducible refine hlk.out.mono ?_
        rintro e w6 ⟨rfl, hJ6⟩
        obtain ⟨h7, hv7, hm7, hl7⟩ := hbx.out _ hJ6 lv
        obtain ⟨W7, hW7⟩ : ∃ W7, w6.alloc (.cells #[.string lv.key, .string lv.val, .bool lv.gone, .int .u64 lv.ts, .int .i64 lv.dc, .int .i64 lv.tx] 41) = W7 := ⟨_, rfl⟩
        rw [hW7] at h7 hv7 hm7 hl7
        have hop7 := Lib.hid (hop.out _ h7)
        have hsn7 := Lib.hid (hsnq.out _ h7)
        have hal7 := Lib.hid (hall.out _ h7)
        replace h7 := Lib.hid h7
        replace hW7 := Lib.hid hW7
        clear hlk hop hsnq hall hbx hJ6
        obtain ⟨v0', v1, v2, v3, v4, v5⟩ := hv7
        obtain ⟨m0, m1, m2, m3, m4, m5⟩ := hm7
        obtain ⟨l0, l1, l2, l3, l4, l5⟩ := hl7
        go_upto_region 25 with (fail)
        rw [hW7.out]
        generalize w6.heap.size = vb at *
        clear hW7
        go_wp2_with (fail)
        with_reducible refine hop7.out.mono ?_
        rintro e w8 ⟨rfl, rfl⟩
        clear hop7
        go_upto_region 31 with (fail)
        go_quiet ((go_at_call 20; exact hsn7.out _))
        have h8 := Lib.hid (hal7.out nq)
        go_wp2
        go_roundw
        case rel => exact ⟨j + 1, by rw [hTe.out, a2], by rw [hTe.out, a3], by go_num, by omega, by omega, by rw [hSe.out, hTe.out]; exact h8⟩
        case measure => simp [intOf]; omega
    · clear hcell
      have hcut : (n ≤ j) ∨ (j < n ∧ ¬ j < 120) := by omega
      have haw := Lib.hid (awake_any wr)
      have hbl := Lib.hid hJ.out.bel
      clear hJ hok hcn hlt hti
      generalize (tn l key j).is = b1 at *
      generalize (tn l key j).was = b2 at *
      rcases hcut with h1 | ⟨h1, h2⟩
      · have hjI : ¬ (j : Int) < (n : Int) := by omega
        go_wp2_with (fail)
        with_reducible refine haw.out.mono ?_
        rintro e w2 ⟨rfl, hB2⟩
        have hfin := Lib.hid (trans0 hbl.out hB2)
        clear hB2 hbl haw
        go_wp2
        go_ret
        exact ⟨rfl, hfin.out⟩
      · have hjI : (j : Int) < (n : Int) := by omega
        have hj6 : ¬ (j : Int) < 120 := by omega
        go_wp2_with (fail)
        with_reducible refine haw.out.mono ?_
        rintro e w2 ⟨rfl, hB2⟩
        have hfin := Lib.hid (trans0 hbl.out hB2)
        clear hB2 hbl haw
        go_wp2
        go_ret
        exact ⟨rfl, hfin.out⟩
end Go.Proofs.Ytnicomhodnfggaa.seOw
