/- The contract of the document's own writer of version 2. -/
import Derived.Test.YtkbhmeajgmecoaaWirX
import Derived.Test.YtkbhmeajgmecoaaWirK
import Derived.Test.YtkbhmeajgmecoaaWirS
import Derived.Deep.RegionHeld
import Derived.Deep.CutRange
namespace Go.Proofs.Ytkbhmeajgmecoaa.wirZ
open Go.ChangeShapes Go.WideShapes Go.ChangeAt Go.RowKit
open numM numN rowA byt numA numB numC numD numE wirM wirA wirB wirD wirE wirF wirG wirL wirH wirI wirJ wirK wirX

/-- the first p parts -/
def fN (m : Ms) (p : Nat) : List Nat := ((pts m).take p).flatten
theorem fN_s (m : Ms) {p : Nat} (h : p < 8) : fN m (p + 1) = fN m p ++ lth (pts m) p := by
  have hl : p < (pts m).length := h
  unfold fN
  rw [List.take_succ_eq_append_getElem hl, List.flatten_append]
  unfold lth
  simp [List.getD_eq_getElem?_getD, List.getElem?_eq_getElem hl]
theorem fN_put (m : Ms) {p : Nat} (h : p < 8) : fN m p ++ [lth (pts m) p].flatten = fN m (p + 1) := by rw [fN_s m h]; simp
theorem fN_8 (m : Ms) : fN m 8 = (pts m).flatten := rfl
theorem fN_le (m : Ms) (p : Nat) : (fN m p).length ≤ (pts m).flatten.length := by
  have e : ((pts m).take p ++ (pts m).drop p).flatten.length = (pts m).flatten.length := by rw [List.take_append_drop]
  rw [List.flatten_append, List.length_append] at e
  unfold fN; omega
/-- what the writer has behind its first p parts -/
def NX (W : World) (m : Ms) (p : Nat) (u v : Value) (w : World) : Prop := ∃ q : Nat, u = .int .i64 q ∧ q = bk m p ∧ q < 2 ^ p ∧ Row W w v (fN m p)
theorem NX.same {W w w1 : World} {m : Ms} {p q : Nat} {v : Value} (hp : p < 8) (hq : q = bk m p ∧ q < 2 ^ p) (hr : Row W w v (fN m p)) (h0 : lth (pts m) p = []) (hB : Below w.heap.size w w1) : NX W m (p + 1) (.int .i64 q) v w1 := by
  refine ⟨q, rfl, ?_, ?_, ?_⟩
  · rw [bk, h0]; simp [bt]; exact hq.1
  · rw [Nat.pow_succ]; omega
  · rw [fN_s m hp, h0, List.append_nil]; exact hr.below hB
theorem NX.more {W w : World} {m : Ms} {p q : Nat} {v : Value} {x : Int} (hx : x = (q + 2 ^ p : Nat)) (hq : q = bk m p ∧ q < 2 ^ p) (h0 : (lth (pts m) p).length ≠ 0) (hr : Row W w v (fN m (p + 1))) : NX W m (p + 1) (.int .i64 x) v w := by
  refine ⟨q + 2 ^ p, by rw [hx], ?_, ?_, hr⟩
  · rw [bk]; unfold bt; rw [if_neg h0, ← hq.1]
  · rw [Nat.pow_succ]; omega
/-- the part of the versions, so far -/
def fV (m : Ms) (k : Nat) : List Nat := (nVs m.vers k).flatten
theorem flat_take_le (l : List (List Nat)) (k : Nat) : (l.take k).flatten.length ≤ l.flatten.length := by
  have e : (l.take k ++ l.drop k).flatten.length = l.flatten.length := by rw [List.take_append_drop]
  rw [List.flatten_append, List.length_append] at e
  omega
def fW (m : Ms) (k : Nat) : List Nat := fN m 5 ++ fV m k
theorem fW_end (m : Ms) (h : ¬ m.vers.length = 0) : fW m m.vers.length = fN m 6 := by
  unfold fW
  rw [fN_s m (p := 5) (by decide)]; unfold fV; rw [nVs_end m.vers h]; rfl
theorem fW_le (m : Ms) (h : ¬ m.vers.length = 0) (hf : (fN m 6).length ≤ 1099511627776) (k : Nat) : (fW m k).length ≤ 1099511627776 := by
  rw [← fW_end m h] at hf
  refine Nat.le_trans ?_ hf
  unfold fW
  rw [List.length_append, List.length_append]
  unfold fV nVs
  have h2 := flat_take_le (nvl 0 m.vers) k
  rw [show List.take m.vers.length (nvl 0 m.vers) = nvl 0 m.vers from List.take_of_length_le (by rw [nvl_len]; exact Nat.le_refl _)]
  rw [List.flatten_append, List.length_append, List.flatten_append, List.length_append]
  omega
theorem fW_s (m : Ms) {k : Nat} (h : k < m.vers.length) : fW m k ++ (nvs (ah m.vers k) (vth m.vers k)).flatten = fW m (k + 1) := by
  unfold fW fV; rw [← nVs_s m.vers h]; simp [nv]
theorem fW_0 (m : Ms) : fN m 5 ++ [uv m.vers.length].flatten = fW m 0 := by unfold fW fV; rw [nVs_0]
def fU (m : Ms) (k : Nat) : List Nat := fN m 6 ++ (nN m.vec k).flatten
theorem fU_0 (m : Ms) : fN m 6 ++ [uv m.vec.length].flatten = fU m 0 := by unfold fU; rw [nN_0]
theorem fU_s (m : Ms) {k : Nat} (h : k < m.vec.length) : fU m k ++ [uv (nth m.vec k)].flatten = fU m (k + 1) := by unfold fU; rw [← nN_s m.vec h]; simp
theorem fU_end (m : Ms) (h : ¬ m.vec.length = 0) : fU m m.vec.length = fN m 7 := by
  unfold fU
  rw [fN_s m (p := 6) (by decide), nN_end m.vec h]; rfl
theorem fU_le (m : Ms) (h : ¬ m.vec.length = 0) (hf : (fN m 7).length ≤ 1099511627776) (k : Nat) : (fU m k).length ≤ 1099511627776 := by
  rw [← fU_end m h] at hf
  refine Nat.le_trans ?_ hf
  unfold fU nN
  have h2 := flat_take_le (m.vec.map uv) k
  rw [← List.map_take] at h2
  rw [List.take_length]
  simp only [List.flatten_append, List.length_append]
  omega
def fC (m : Ms) (k : Nat) : List Nat := fN m 7 ++ (nC m.cmd k).flatten
theorem fC_0 (m : Ms) : fN m 7 = fC m 0 := by unfold fC; rw [nC_0]; simp
theorem fC_s (m : Ms) {k : Nat} (h : k < 5) : fC m k ++ [uv (nat m.cmd k).toNat].flatten = fC m (k + 1) := by unfold fC; rw [← nC_s m.cmd h]; simp
theorem fC_end (m : Ms) (h : m.cmd ≠ Cm.nought) : fC m 5 ++ [tx m.cmd.key].flatten = fN m 8 := by
  have := nC_end m.cmd h
  unfold fC
  rw [fN_s m (p := 7) (by decide)]
  show _ = fN m 7 ++ pCmd m.cmd
  rw [← this]; simp
theorem fC_le (m : Ms) (h : m.cmd ≠ Cm.nought) (hf : (fN m 8).length ≤ 1099511627776) (k : Nat) : (fC m k).length ≤ 1099511627776 := by
  rw [← fC_end m h] at hf
  refine Nat.le_trans ?_ hf
  unfold fC nC
  have h2 := flat_take_le ((nums m.cmd).map fun x => uv x.toNat) k
  rw [← List.map_take] at h2
  rw [show ((nums m.cmd).take 5) = nums m.cmd from rfl]
  simp only [List.length_append]
  omega
/-- put behind the two bytes at the head -/
theorem put_end {W w : World} {v : Value} {l l' : List Nat} {a b : Nat} (ha : a < 256) (hb : b < 256) (h : Row W w v l) (he : [a, b] ++ l = l') (hsz : l'.length ≤ 1099511627776) :
    Calls Try.prog 54 #[.slice (some ⟨w.heap.size, 0, none⟩) 2 2, .slice (some ⟨w.heap.size + 1, 0, none⟩) 1 1] ((w.alloc (.cells #[.int .u8 a, .int .u8 b] 5)).alloc (.cells #[v] 31)) (PutR W l') := by
  have ho := Own.made w W.heap.size h.2.size [a, b] (by intro c hc; simp at hc; rcases hc with rfl | rfl <;> assumption) (by simp) #[.int .u8 a, .int .u8 b] rfl
  obtain ⟨A, c, rfl⟩ := h.form
  have hp : PB none w (.slice A l.length c) l := PB.of_own h.1 (by intro k e; cases e)
  have hps : PBs none w [.slice A l.length c] [l] := ⟨hp, trivial⟩
  have hacc : AccX W (w.alloc (.cells #[.int .u8 a, .int .u8 b] 5)) (.slice (some ⟨w.heap.size, 0, none⟩) 2 2) [a, b] [.slice A l.length c] [l] :=
    ⟨⟨ho, h.2.trans ((alloc_below w _).mono h.2.size)⟩, PBs.below (alloc_below w _) (PBs.fresh (Nat.le_refl _) hps)⟩
  have hh := putx hacc #[.slice A l.length c] 1 1 rfl rfl (by simp) (l' := l') (by rw [← he]; simp) hsz
  rw [show (w.alloc (.cells #[.int .u8 (a : Int), .int .u8 (b : Int)] 5)).heap.size = w.heap.size + 1 from by simp] at hh
  exact hh

set_option maxRecDepth 100000 in
set_option maxHeartbeats 4000000 in
theorem rnewer_any (m : Ms) (t : At) (w : World) (h : HM w m t) (hok : m.ok) : Calls Try.prog 32 #[.agg (cm m t)] w (Makes w (newer m)) := by
  have hpl := Lib.hid (pts_le m hok h.fits)
  have hfl := Lib.hid (show ∀ p, (fN m p).length ≤ 1099511627776 from fun p => by have := fN_le m p; have := hpl.out; omega)
  obtain ⟨va, vc, na, nc⟩ := t
  have hvl : Hid (VL w va m.vers.length m.vers) := h.vers
  have hnl : Hid (NL w na m.vec.length m.vec) := h.vec
  obtain ⟨-, f1, f2, f3, -, -, fv, fn, fc⟩ := h.fits
  obtain ⟨o0, o1, o2, o3, o4, o5, o6, o7⟩ := hok
  have k0 : m.kind < 256 := by omega
  have k00 : 0 ≤ m.kind := by omega
  have k1 : m.lo.size ≤ 64 := by omega
  have k2 : m.hi.size ≤ 64 := by omega
  have w1 := wrap64_nat m.vers.length (by omega)
  have w2 := wrap64_nat m.vec.length (by omega)
  have k5 : m.cmd.key.size ≤ 64 := by have := o7.key; omega
  replace o5 := Lib.hid o5
  replace o7 := Lib.hid o7
  replace fv := Lib.hid fv
  replace fn := Lib.hid fn
  replace fc := Lib.hid fc
  clear h o2 o3
  have hW := Lib.hid (alloc_below w (.cells (cm m ⟨va, vc, na, nc⟩) 28))
  have hbx := Lib.hid (Box.new w (cm m ⟨va, vc, na, nc⟩) 28)
  go_enter Try.func32, Try.ntmps32
  go_upto_region 3 with fail
  generalize w.alloc (.cells (cm m ⟨va, vc, na, nc⟩) 28) = W at *
  have hq := Lib.hid (show (0 : Nat) = bk m 0 ∧ 0 < 2 ^ 0 from ⟨rfl, by decide⟩)
  have hrow : Hid (Row W W (.slice none 0 0) (fN m 0)) := ⟨Own.nil_ W _, Below.refl _ _⟩
  obtain ⟨q0, q1, q2, q3, q4, q5, q6, q7, q8, q9, q10, q11, q12, q13⟩ := (hbx.out.below hrow.out.bel).msg
  go_upto_if 13 with fail
  go_cut [3, 4] from 11 to 21 (fun u v wx => Hid (NX W m 1 u v wx))
  case first =>
    by_cases hx : m.id = 0
    · have hne : ((m.id : Int) != 0) = false := by rw [bne_eq_false_iff_eq]; omega
      have h0 := Lib.hid (show lth (pts m) 0 = [] from by show pNum m.id = []; exact if_pos hx)
      clear hx
      go_wp2_with (fail)
      go_meet
      exact NX.same (by decide) hq.out hrow.out h0.out (Below.refl _ _)
    · have hne : ((m.id : Int) != 0) = true := by rw [bne_iff_ne]; omega
      have h1 := Lib.hid (show lth (pts m) 0 = uv m.id from by show pNum m.id = uv m.id; exact if_neg hx)
      have hst := Lib.hid (show fN m 0 ++ [lth (pts m) 0].flatten = fN m 1 from fN_put m (by decide))
      rw [h1.out] at hst
      clear hx
      go_wp2_with (fail)
      refine (ruvar_any m.id _ (by assumption)).mono ?_
      rintro e w2 ⟨A, cap, rfl, ho, hB2⟩
      have ha := Lib.hid ((AccX.start hrow.out).step ho hB2)
      clear ho hB2 q0 q1 q2 q3 q4 q5 q6 q7 q8 q9 q10 q11 q12 q13
      go_wp2_with (fail)
      refine (putx (W := W) (l' := fN m 1) ha.out _ _ _ (by rfl) (by rfl) (by simp) hst.out (hfl.out _)).mono ?_
      rintro e w3 ⟨A3, c3, rfl, hrow3⟩
      replace hrow3 := Lib.hid hrow3
      clear ha
      go_wp2
      go_meet
      have hlt := hq.out.2
      exact NX.more (by first | rfl | (go_num; done) | (unfold wrap64; omega) | (simp [wrap64]; omega)) hq.out (by rw [h1.out]; have := uv_pos m.id; omega) hrow3.out
  case rest =>
  clear hrow hq q0 q1 q2 q3 q4 q5 q6 q7 q8 q9 q10 q11 q12 q13
  obtain ⟨q, rfl, hq1, hq2, hrow1⟩ := hcut.out
  have hq := Lib.hid (And.intro hq1 hq2)
  have hrow := Lib.hid hrow1
  clear hcut hq1 hq2 hrow1
  obtain ⟨q0, q1, q2, q3, q4, q5, q6, q7, q8, q9, q10, q11, q12, q13⟩ := (hbx.out.below hrow.out.bel).msg
  go_upto_if 24 with fail
  go_cut [3, 4] from 22 to 32 (fun u v wx => Hid (NX W m 2 u v wx))
  case first =>
    by_cases hx : m.n = 0
    · have hne : ((m.n : Int) != 0) = false := by rw [bne_eq_false_iff_eq]; omega
      have h0 := Lib.hid (show lth (pts m) 1 = [] from by show pNum m.n = []; exact if_pos hx)
      clear hx
      go_wp2_with (fail)
      go_meet
      exact NX.same (by decide) hq.out hrow.out h0.out (Below.refl _ _)
    · have hne : ((m.n : Int) != 0) = true := by rw [bne_iff_ne]; omega
      have h1 := Lib.hid (show lth (pts m) 1 = uv m.n from by show pNum m.n = uv m.n; exact if_neg hx)
      have hst := Lib.hid (show fN m 1 ++ [lth (pts m) 1].flatten = fN m 2 from fN_put m (by decide))
      rw [h1.out] at hst
      clear hx
      go_wp2_with (fail)
      refine (ruvar_any m.n _ (by assumption)).mono ?_
      rintro e w2 ⟨A, cap, rfl, ho, hB2⟩
      have ha := Lib.hid ((AccX.start hrow.out).step ho hB2)
      clear ho hB2 q0 q1 q2 q3 q4 q5 q6 q7 q8 q9 q10 q11 q12 q13
      go_wp2_with (fail)
      refine (putx (W := W) (l' := fN m 2) ha.out _ _ _ (by rfl) (by rfl) (by simp) hst.out (hfl.out _)).mono ?_
      rintro e w3 ⟨A3, c3, rfl, hrow3⟩
      replace hrow3 := Lib.hid hrow3
      clear ha
      go_wp2
      go_meet
      have hlt := hq.out.2
      exact NX.more (by first | rfl | (go_num; done) | (unfold wrap64; omega) | (simp [wrap64]; omega)) hq.out (by rw [h1.out]; have := uv_pos m.n; omega) hrow3.out
  case rest =>
  clear hrow hq q0 q1 q2 q3 q4 q5 q6 q7 q8 q9 q10 q11 q12 q13
  obtain ⟨q, rfl, hq1, hq2, hrow1⟩ := hcut.out
  have hq := Lib.hid (And.intro hq1 hq2)
  have hrow := Lib.hid hrow1
  clear hcut hq1 hq2 hrow1
  obtain ⟨q0, q1, q2, q3, q4, q5, q6, q7, q8, q9, q10, q11, q12, q13⟩ := (hbx.out.below hrow.out.bel).msg
  go_upto_if 35 with fail
  go_cut [3, 4] from 33 to 43 (fun u v wx => Hid (NX W m 3 u v wx))
  case first =>
    by_cases hx : m.ts = 0
    · have hne : ((m.ts : Int) != 0) = false := by rw [bne_eq_false_iff_eq]; omega
      have h0 := Lib.hid (show lth (pts m) 2 = [] from by show pNum m.ts = []; exact if_pos hx)
      clear hx
      go_wp2_with (fail)
      go_meet
      exact NX.same (by decide) hq.out hrow.out h0.out (Below.refl _ _)
    · have hne : ((m.ts : Int) != 0) = true := by rw [bne_iff_ne]; omega
      have h1 := Lib.hid (show lth (pts m) 2 = uv m.ts from by show pNum m.ts = uv m.ts; exact if_neg hx)
      have hst := Lib.hid (show fN m 2 ++ [lth (pts m) 2].flatten = fN m 3 from fN_put m (by decide))
      rw [h1.out] at hst
      clear hx
      go_wp2_with (fail)
      refine (ruvar_any m.ts _ (by assumption)).mono ?_
      rintro e w2 ⟨A, cap, rfl, ho, hB2⟩
      have ha := Lib.hid ((AccX.start hrow.out).step ho hB2)
      clear ho hB2 q0 q1 q2 q3 q4 q5 q6 q7 q8 q9 q10 q11 q12 q13
      go_wp2_with (fail)
      refine (putx (W := W) (l' := fN m 3) ha.out _ _ _ (by rfl) (by rfl) (by simp) hst.out (hfl.out _)).mono ?_
      rintro e w3 ⟨A3, c3, rfl, hrow3⟩
      replace hrow3 := Lib.hid hrow3
      clear ha
      go_wp2
      go_meet
      have hlt := hq.out.2
      exact NX.more (by first | rfl | (go_num; done) | (unfold wrap64; omega) | (simp [wrap64]; omega)) hq.out (by rw [h1.out]; have := uv_pos m.ts; omega) hrow3.out
  case rest =>
  clear hrow hq q0 q1 q2 q3 q4 q5 q6 q7 q8 q9 q10 q11 q12 q13
  obtain ⟨q, rfl, hq1, hq2, hrow1⟩ := hcut.out
  have hq := Lib.hid (And.intro hq1 hq2)
  have hrow := Lib.hid hrow1
  clear hcut hq1 hq2 hrow1
  obtain ⟨q0, q1, q2, q3, q4, q5, q6, q7, q8, q9, q10, q11, q12, q13⟩ := (hbx.out.below hrow.out.bel).msg
  go_upto_if 46 with fail
  generalize hy : (!m.lo.toList.isEmpty) = y
  replace hy := Lib.hid hy
  go_cut [3, 4] from 44 to 54 (fun u v wx => Hid (NX W m 4 u v wx))
  case first =>
    by_cases hx : m.lo.size = 0
    · obtain rfl : y = false := by rw [← hy.out, emp_yes hx]; rfl
      have h0 := Lib.hid (show lth (pts m) 3 = [] from by show pTxt m.lo = []; exact if_pos hx)
      clear hx
      go_wp2_with (fail)
      go_meet
      exact NX.same (by decide) hq.out hrow.out h0.out (Below.refl _ _)
    · obtain rfl : y = true := by rw [← hy.out, emp_no hx]; rfl
      have h1 := Lib.hid (show lth (pts m) 3 = tx m.lo from by show pTxt m.lo = tx m.lo; exact if_neg hx)
      have hst := Lib.hid (show fN m 3 ++ [lth (pts m) 3].flatten = fN m 4 from fN_put m (by decide))
      rw [h1.out] at hst
      clear hx
      go_wp2_with (fail)
      refine (text2_any m.lo _ (by assumption)).mono ?_
      rintro e w2 ⟨A, cap, rfl, ho, hB2⟩
      have ha := Lib.hid ((AccX.start hrow.out).step ho hB2)
      clear ho hB2 q0 q1 q2 q3 q4 q5 q6 q7 q8 q9 q10 q11 q12 q13
      go_wp2_with (fail)
      refine (putx (W := W) (l' := fN m 4) ha.out _ _ _ (by rfl) (by rfl) (by simp) hst.out (hfl.out _)).mono ?_
      rintro e w3 ⟨A3, c3, rfl, hrow3⟩
      replace hrow3 := Lib.hid hrow3
      clear ha
      go_wp2
      go_meet
      have hlt := hq.out.2
      exact NX.more (by first | rfl | (go_num; done) | (unfold wrap64; omega) | (simp [wrap64]; omega)) hq.out (by rw [h1.out]; unfold tx; rw [List.length_append]; have := uv_pos m.lo.size; omega) hrow3.out
  case rest =>
  clear hy y
  clear hrow hq q0 q1 q2 q3 q4 q5 q6 q7 q8 q9 q10 q11 q12 q13
  obtain ⟨q, rfl, hq1, hq2, hrow1⟩ := hcut.out
  have hq := Lib.hid (And.intro hq1 hq2)
  have hrow := Lib.hid hrow1
  clear hcut hq1 hq2 hrow1
  obtain ⟨q0, q1, q2, q3, q4, q5, q6, q7, q8, q9, q10, q11, q12, q13⟩ := (hbx.out.below hrow.out.bel).msg
  go_upto_if 57 with fail
  generalize hy : (!m.hi.toList.isEmpty) = y
  replace hy := Lib.hid hy
  go_cut [3, 4] from 55 to 65 (fun u v wx => Hid (NX W m 5 u v wx))
  case first =>
    by_cases hx : m.hi.size = 0
    · obtain rfl : y = false := by rw [← hy.out, emp_yes hx]; rfl
      have h0 := Lib.hid (show lth (pts m) 4 = [] from by show pTxt m.hi = []; exact if_pos hx)
      clear hx
      go_wp2_with (fail)
      go_meet
      exact NX.same (by decide) hq.out hrow.out h0.out (Below.refl _ _)
    · obtain rfl : y = true := by rw [← hy.out, emp_no hx]; rfl
      have h1 := Lib.hid (show lth (pts m) 4 = tx m.hi from by show pTxt m.hi = tx m.hi; exact if_neg hx)
      have hst := Lib.hid (show fN m 4 ++ [lth (pts m) 4].flatten = fN m 5 from fN_put m (by decide))
      rw [h1.out] at hst
      clear hx
      go_wp2_with (fail)
      refine (text2_any m.hi _ (by assumption)).mono ?_
      rintro e w2 ⟨A, cap, rfl, ho, hB2⟩
      have ha := Lib.hid ((AccX.start hrow.out).step ho hB2)
      clear ho hB2 q0 q1 q2 q3 q4 q5 q6 q7 q8 q9 q10 q11 q12 q13
      go_wp2_with (fail)
      refine (putx (W := W) (l' := fN m 5) ha.out _ _ _ (by rfl) (by rfl) (by simp) hst.out (hfl.out _)).mono ?_
      rintro e w3 ⟨A3, c3, rfl, hrow3⟩
      replace hrow3 := Lib.hid hrow3
      clear ha
      go_wp2
      go_meet
      have hlt := hq.out.2
      exact NX.more (by first | rfl | (go_num; done) | (unfold wrap64; omega) | (simp [wrap64]; omega)) hq.out (by rw [h1.out]; unfold tx; rw [List.length_append]; have := uv_pos m.hi.size; omega) hrow3.out
  case rest =>
  clear hy y
  clear hrow hq q0 q1 q2 q3 q4 q5 q6 q7 q8 q9 q10 q11 q12 q13
  obtain ⟨q, rfl, hq1, hq2, hrow1⟩ := hcut.out
  have hq := Lib.hid (And.intro hq1 hq2)
  have hrow := Lib.hid hrow1
  clear hcut hq1 hq2 hrow1
  obtain ⟨q0, q1, q2, q3, q4, q5, q6, q7, q8, q9, q10, q11, q12, q13⟩ := (hbx.out.below hrow.out.bel).msg
  go_upto_if 69 with fail
  generalize hy : decide (0 < m.vers.length) = y
  replace hy := Lib.hid hy
  go_cut [3, 4, 5, 6, 7] from 66 to 117 (fun u v x y z wx => Hid (NX W m 6 u v wx))
  case first =>
    by_cases hx : m.vers.length = 0
    · obtain rfl : y = false := by rw [← hy.out]; exact decide_eq_false (by omega)
      have h0 := Lib.hid (show lth (pts m) 5 = [] from by show pVers m.vers = []; exact if_pos hx)
      clear hx
      go_wp2_with (fail)
      go_meet
      exact NX.same (by decide) hq.out hrow.out h0.out (Below.refl _ _)
    · obtain rfl : y = true := by rw [← hy.out]; exact decide_eq_true (by omega)
      have h1 := Lib.hid (show (lth (pts m) 5).length ≠ 0 from by show (pVers m.vers).length ≠ 0; unfold pVers; rw [if_neg hx, List.length_append]; have := uv_pos m.vers.length; omega)
      have hlen := Lib.hid (show m.vers.length < 18446744073709551616 by omega)
      replace hx := Lib.hid hx
      have hst := Lib.hid (fW_0 m)
      have hvb := Lib.hid (fW_le m hx.out (hfl.out 6))
      have hen := Lib.hid (fW_end m hx.out)
      go_wp2_with (fail)
      refine (ruvar_any m.vers.length _ hlen.out).mono ?_
      rintro e w2 ⟨A, cap, rfl, ho, hB2⟩
      have ha := Lib.hid ((AccX.start hrow.out).step ho hB2)
      clear ho hB2 q0 q1 q2 q3 q4 q5 q6 q7 q8 q9 q10 q11 q12 q13 hrow hx
      go_wp2_with (fail)
      refine (putx (W := W) (l' := fW m 0) ha.out _ _ _ (by rfl) (by rfl) (by simp) hst.out (hvb.out _)).mono ?_
      rintro e w3 ⟨A3, c3, rfl, hrow3⟩
      replace hrow3 := Lib.hid hrow3
      clear ha hst
      have c06 := (hbx.out.below hrow3.out.bel).msg.2.2.2.2.2.2.1
      go_wp2
      clear c06
      go_loopw [4, 5, 6] (fun v a i wr => ∃ k : Nat, k ≤ m.vers.length ∧ i = .int .i64 k ∧ a = .int .u64 (ah m.vers k) ∧ Hid (Row W wr v (fW m k))) (fun _ _ i _ => m.vers.length - (intOf i).toNat)
      case atStart => exact ⟨0, by omega, rfl, rfl, hrow3⟩
      case round =>
        obtain ⟨k, hk, rfl, rfl, hrow⟩ := hrel
        clear hrow3
        have c06 := (hbx.out.below hrow.out.bel).msg.2.2.2.2.2.2.1
        have hWr := Lib.hid (trans0 hW.out hrow.out.bel)
        by_cases hlt : k < m.vers.length
        · obtain ⟨b, off, rfl, hbl, hvc⟩ := (hvl.out.below hWr.out).at hlt
          have hvo := o5.out _ (vth_mem hlt)
          have hvf := (fv.out _ (vth_mem hlt)).2.2.1
          have hst := fW_s m hlt
          have hah := ah_s m.vers k
          have halt := ah_lt fv.out hk
          generalize ah m.vers k = a at *
          generalize vth m.vers k = v at *
          obtain ⟨key, val, g, ts, dc, tx⟩ := v
          obtain ⟨hkk, hvv, d0, d1, t0, t1⟩ := hvo
          obtain ⟨d, rfl⟩ := Int.eq_ofNat_of_zero_le d0
          obtain ⟨x, rfl⟩ := Int.eq_ofNat_of_zero_le t0
          simp only at hkk hvv d1 t1 hvf hah
          have g1 : key.size ≤ 64 := by omega
          have g4 : d < 18446744073709551616 := by omega
          have g5 : x < 18446744073709551616 := by omega
          have g6 := sub_lt ts a
          have e4 := wrap64_nat d (by omega)
          have e5 := wrap64_nat x (by omega)
          have e6 := sub_eq ts a hvf halt
          unfold nvs at hst
          simp only [Int.toNat_natCast] at hst
          replace hst := Lib.hid hst
          replace hah := Lib.hid hah
          clear d0 t0 hkk
          obtain ⟨c1, c2, c3, c4, c5, c6⟩ := hvc
          have hS2 := Lib.hid (SV.new wr ⟨key, val, g, ts, d, x⟩)
          have hne := Lib.hid (row_ne hrow.out)
          have ha := (AccX.start (hrow.out.alloc (.cells (cv ⟨key, val, g, ts, d, x⟩) 51))).drew
          go_wp2_with (fail)
          go_region_held3 (SV wr.heap.size ⟨key, val, g, ts, d, x⟩)
            (first | exact hS2.out.drew | assumption | exact SV.below (by assumption) (by assumption) | exact SV.alloc (by assumption) _ | exact SV.grown (by assumption) (by assumption) hne.out | (go_must (exact (0 : Nat))))
            (first
              | (go_at_call 59; ((with_reducible refine (accx_of (text2_any _ _ (by assumption)) (by assumption)).mono ?_); rintro e w' ⟨A, cap, rfl, hacc, hB⟩))
              | (go_at_call 57; ((with_reducible refine (accx_of (rgone_any ⟨key, val, g, ts, d, x⟩ _) (by assumption)).mono ?_); rintro e w' ⟨A, cap, rfl, hacc, hB⟩))
              | (go_at_call 58; ((with_reducible refine (accx_of (ruvar_any _ _ (by assumption)) (by assumption)).mono ?_); rintro e w' ⟨A, cap, rfl, hacc, hB⟩))
              | (go_at_call 54; ((with_reducible refine (putg (W := W) (l' := fW m (k + 1)) (by assumption) _ _ _ (by with_unfolding_all rfl) (by with_unfolding_all rfl) (by simp) (by with_unfolding_all exact hst.out) (hvb.out (k + 1))).mono ?_); rintro e w' ⟨A, cap, rfl, hrow2, -, hgrow, -⟩))
              | (go_at_call 58; go_must (exact (0 : Nat)))
              | (go_at_call 54; go_must (exact (0 : Nat))))
          have hrow3 := Lib.hid (show Row W _ _ (fW m (k + 1)) by assumption)
          have hsv := (show SV wr.heap.size ⟨key, val, g, ts, d, x⟩ _ by assumption)
          obtain ⟨z0, z1, z2, z3, z4, z5, z6⟩ := hsv
          clear hS2 hne ha hst hrow c1 c2 c3 c4 c5 c6 c06
          go_wp2
          go_roundw
          case rel => exact ⟨k + 1, by omega, by go_num, by rw [hah.out], hrow3⟩
          case measure => simp [intOf]; omega
        · obtain rfl : k = m.vers.length := by omega
          have hrow4 := hrow.out
          rw [hen.out] at hrow4
          replace hrow4 := Lib.hid hrow4
          clear hrow
          go_wp2
          go_meet
          have hlt := hq.out.2
          exact NX.more (by first | rfl | (go_num; done) | (unfold wrap64; omega) | (simp [wrap64]; omega)) hq.out h1.out hrow4.out
  case rest =>
  clear hrow hq hy y q0 q1 q2 q3 q4 q5 q6 q7 q8 q9 q10 q11 q12 q13 hvl fv o5
  obtain ⟨q, rfl, hq1, hq2, hrow1⟩ := hcut.out
  have hq := Lib.hid (And.intro hq1 hq2)
  have hrow := Lib.hid hrow1
  clear hcut hq1 hq2 hrow1
  obtain ⟨q0, q1, q2, q3, q4, q5, q6, q7, q8, q9, q10, q11, q12, q13⟩ := (hbx.out.below hrow.out.bel).msg
  go_upto_if 121 with fail
  generalize hy : decide (0 < m.vec.length) = y
  replace hy := Lib.hid hy
  go_cut [3, 4, 8] from 118 to 147 (fun u v x wx => Hid (NX W m 7 u v wx))
  case first =>
    by_cases hx : m.vec.length = 0
    · obtain rfl : y = false := by rw [← hy.out]; exact decide_eq_false (by omega)
      have h0 := Lib.hid (show lth (pts m) 6 = [] from by show pVec m.vec = []; exact if_pos hx)
      clear hx
      go_wp2_with (fail)
      go_meet
      exact NX.same (by decide) hq.out hrow.out h0.out (Below.refl _ _)
    · obtain rfl : y = true := by rw [← hy.out]; exact decide_eq_true (by omega)
      have h1 := Lib.hid (show (lth (pts m) 6).length ≠ 0 from by show (pVec m.vec).length ≠ 0; unfold pVec; rw [if_neg hx, List.length_append]; have := uv_pos m.vec.length; omega)
      have hlen := Lib.hid (show m.vec.length < 18446744073709551616 by omega)
      replace hx := Lib.hid hx
      have hst := Lib.hid (fU_0 m)
      have hvb := Lib.hid (fU_le m hx.out (hfl.out 7))
      have hen := Lib.hid (fU_end m hx.out)
      go_wp2_with (fail)
      refine (ruvar_any m.vec.length _ hlen.out).mono ?_
      rintro e w2 ⟨A, cap, rfl, ho, hB2⟩
      have ha := Lib.hid ((AccX.start hrow.out).step ho hB2)
      clear ho hB2 q0 q1 q2 q3 q4 q5 q6 q7 q8 q9 q10 q11 q12 q13 hrow hx
      go_wp2_with (fail)
      refine (putx (W := W) (l' := fU m 0) ha.out _ _ _ (by rfl) (by rfl) (by simp) hst.out (hvb.out _)).mono ?_
      rintro e w3 ⟨A3, c3, rfl, hrow3⟩
      replace hrow3 := Lib.hid hrow3
      clear ha hst
      have c07 := (hbx.out.below hrow3.out.bel).msg.2.2.2.2.2.2.2.1
      go_wp2
      clear c07
      go_loopw [4, 8] (fun v i wr => ∃ k : Nat, k ≤ m.vec.length ∧ i = .int .i64 k ∧ Hid (Row W wr v (fU m k))) (fun _ i _ => m.vec.length - (intOf i).toNat)
      case atStart => exact ⟨0, by omega, rfl, hrow3⟩
      case round =>
        obtain ⟨k, hk, rfl, hrow⟩ := hrel
        clear hrow3
        have c07 := (hbx.out.below hrow.out.bel).msg.2.2.2.2.2.2.2.1
        have hWr := Lib.hid (trans0 hW.out hrow.out.bel)
        by_cases hlt : k < m.vec.length
        · obtain ⟨b, off, rfl, hbl, hvc⟩ := (hnl.out.below hWr.out).at hlt
          have hvf := fn.out _ (nth_mem hlt)
          have hst := Lib.hid (fU_s m hlt)
          generalize nth m.vec k = v at *
          go_wp2_with (fail)
          refine (ruvar_any v _ hvf).mono ?_
          rintro e w2 ⟨A, cap, rfl, ho, hB2⟩
          have ha := Lib.hid ((AccX.start hrow.out).step ho hB2)
          clear ho hB2 c07 hrow hvc
          go_wp2_with (fail)
          refine (putx (W := W) (l' := fU m (k + 1)) ha.out _ _ _ (by rfl) (by rfl) (by simp) hst.out (hvb.out _)).mono ?_
          rintro e w3 ⟨A3, c3, rfl, hrow3⟩
          replace hrow3 := Lib.hid hrow3
          clear ha hWr hst
          go_wp2
          go_roundw
          case rel => exact ⟨k + 1, by omega, by go_num, hrow3⟩
          case measure => simp [intOf]; omega
        · obtain rfl : k = m.vec.length := by omega
          have hrow4 := hrow.out
          rw [hen.out] at hrow4
          replace hrow4 := Lib.hid hrow4
          clear hrow
          go_wp2
          go_meet
          have hlt := hq.out.2
          exact NX.more (by first | rfl | (go_num; done) | (unfold wrap64; omega) | (simp [wrap64]; omega)) hq.out h1.out hrow4.out
  case rest =>
  clear hrow hq hy y q0 q1 q2 q3 q4 q5 q6 q7 q8 q9 q10 q11 q12 q13 hnl fn
  obtain ⟨q, rfl, hq1, hq2, hrow1⟩ := hcut.out
  have hq := Lib.hid (And.intro hq1 hq2)
  have hrow := Lib.hid hrow1
  clear hcut hq1 hq2 hrow1
  obtain ⟨q0, q1, q2, q3, q4, q5, q6, q7, q8, q9, q10, q11, q12, q13⟩ := (hbx.out.below hrow.out.bel).msg
  have hqn : ∀ w : World, (binOp .neq 26 (.agg #[.int .i64 m.cmd.kind, .int .i64 m.cmd.dc, .int .i64 m.cmd.shard, .int .i64 m.cmd.node, .int .i64 m.cmd.mode, .string m.cmd.key]) (.agg #[.int .i64 0, .int .i64 0, .int .i64 0, .int .i64 0, .int .i64 0, .string ⟨#[]⟩])).run Try.prog w = .ok (.bool (!decide (m.cmd = Cm.nought))) w := wirS.nql_cmd m.cmd Cm.nought
  obtain ⟨y, hy⟩ : ∃ y, (!decide (m.cmd = Cm.nought)) = y := ⟨_, rfl⟩
  rw [hy] at hqn
  replace hy := Lib.hid hy
  go_upto_if 151 with fail
  clear hqn
  go_cut [3, 4, 9, 10] from 148 to 178 (fun u v x z wx => Hid (NX W m 8 u v wx))
  case first =>
    by_cases hx : m.cmd = Cm.nought
    · obtain rfl : y = false := by rw [← hy.out, decide_eq_true hx]; rfl
      have h0 := Lib.hid (show lth (pts m) 7 = [] from by show pCmd m.cmd = []; exact if_pos hx)
      clear hx
      go_wp2_with (fail)
      go_meet
      exact NX.same (by decide) hq.out hrow.out h0.out (Below.refl _ _)
    · obtain rfl : y = true := by rw [← hy.out, decide_eq_false hx]; rfl
      have h1 := Lib.hid (show (lth (pts m) 7).length ≠ 0 from by show (pCmd m.cmd).length ≠ 0; unfold pCmd; rw [if_neg hx, List.length_append]; unfold tx; rw [List.length_append]; have := uv_pos m.cmd.key.size; omega)
      have hvb := Lib.hid (fC_le m hx (hfl.out 8))
      have hen := Lib.hid (fC_end m hx)
      clear hx
      go_wp2_with (fail)
      refine (rnums_any m.cmd _).mono ?_
      rintro e w2 ⟨bb, rfl, hb1, hb2, hcs, hB2⟩
      have hr2 := hrow.out.below hB2
      have hnb := Lib.hid (show NB bb m.cmd w2 _ from ⟨hb2, hcs, fun e => by have := (own_lt hrow.out.1 _ e).2; omega⟩)
      rw [fC_0] at hr2
      replace hr2 := Lib.hid hr2
      clear hrow hB2 hb1 hb2 hcs q0 q1 q2 q3 q4 q5 q6 q7 q8 q9 q10 q11 q12 q13
      go_wp2
      go_loopw [4, 10] (fun v i wr => ∃ k : Nat, k ≤ 5 ∧ i = .int .i64 k ∧ Hid (Row W wr v (fC m k)) ∧ Hid (NB bb m.cmd wr v)) (fun _ i _ => 5 - (intOf i).toNat)
      case atStart => exact ⟨0, by omega, rfl, hr2, hnb⟩
      case round =>
        obtain ⟨k, hk5, rfl, hrow, hnb2⟩ := hrel
        clear hr2 hnb
        by_cases hlt : k < 5
        · have hidx := hnb2.out.2.1 k hlt
          obtain ⟨x0, x1⟩ := nat_ok o7.out hlt
          have htk := Lib.hid (fC_s m hlt)
          generalize nat m.cmd k = x at *
          have x3 := wrap64i x x0 (by omega)
          have x4 := Lib.hid (show x < 18446744073709551616 by omega)
          go_wp2_with (fail)
          refine (ruvar_i x _ x0 x4.out).mono ?_
          rintro e w2 ⟨A, cap, rfl, ho, hB2⟩
          have ha := Lib.hid ((AccX.start hrow.out).step ho hB2)
          have hnb3 := Lib.hid (hnb2.out.below hB2)
          clear ho hB2 hrow hidx hnb2
          go_wp2_with (fail)
          refine (putg (W := W) (l' := fC m (k + 1)) ha.out _ _ _ (by rfl) (by rfl) (by simp) htk.out (hvb.out _)).mono ?_
          rintro e w3 ⟨A3, c3, rfl, hrow3, hg3, -, hat3⟩
          have hnb4 := Lib.hid (hnb3.out.put hg3 hat3)
          replace hrow3 := Lib.hid hrow3
          clear ha htk hnb3 hg3 hat3
          go_wp2
          go_roundw
          case rel => exact ⟨k + 1, by omega, by go_num, hrow3, hnb4⟩
          case measure => simp [intOf]; omega
        · obtain rfl : k = 5 := by omega
          have d13 := (hbx.out.below hrow.out.bel).msg.2.2.2.2.2.2.2.2.2.2.2.2.2
          go_wp2_with (fail)
          refine (text2_any m.cmd.key _ k5).mono ?_
          rintro e w2 ⟨A, cap, rfl, ho, hB2⟩
          have ha := Lib.hid ((AccX.start hrow.out).step ho hB2)
          clear ho hB2 hrow d13 hnb2
          go_wp2_with (fail)
          refine (putx (W := W) (l' := fN m 8) ha.out _ _ _ (by rfl) (by rfl) (by simp) hen.out (hfl.out 8)).mono ?_
          rintro e w3 ⟨A3, c3, rfl, hrow3⟩
          replace hrow3 := Lib.hid hrow3
          clear ha
          go_wp2
          go_meet
          have hlt := hq.out.2
          exact NX.more (by first | rfl | (go_num; done) | (unfold wrap64; omega) | (simp [wrap64]; omega)) hq.out h1.out hrow3.out
  case rest =>
  clear hrow hq hy y q0 q1 q2 q3 q4 q5 q6 q7 q8 q9 q10 q11 q12 q13
  obtain ⟨q, rfl, hq1, hq2, hrow1⟩ := hcut.out
  have hrow := Lib.hid hrow1
  have d0 := (hbx.out.below hrow.out.bel).msg.1
  have hq8 : q < 256 := by simpa using hq2
  have hqb : q = bitsOf m := by rw [hq1, bk_8]
  replace hqb := Lib.hid hqb
  clear hcut hq1 hq2 hrow1
  have hkd : m.kind.toNat < 256 := by omega
  obtain ⟨kd, hk0⟩ : ∃ kd : Nat, m.kind = kd := ⟨m.kind.toNat, by omega⟩
  have hk1 : kd < 256 := by omega
  have hnw := Lib.hid (show [kd, q] ++ fN m 8 = newer m from by unfold newer; rw [fN_8, hqb.out]; congr 2; omega)
  rw [hk0] at d0
  have w8 : IntKind.u8.wrap (kd : Int) = kd := by rw [IntKind.wrap_u8]; omega
  have w9 : IntKind.u8.wrap (q : Int) = q := by rw [IntKind.wrap_u8]; omega
  have hnl2 := Lib.hid (newer_le m hpl.out)
  clear hk0 hkd k00 k0 o0 o1
  obtain ⟨A9, c9, rfl⟩ := hrow.out.form
  go_wp2_with (fail)
  refine (put_end (W := W) hk1 hq8 hrow.out hnw.out hnl2.out).mono ?_
  rintro e w3 ⟨A3, c3, rfl, hrow3⟩
  go_wp2
  go_ret
  exact Makes.of rfl (Own.more (base' := w.heap.size) hrow3.1 hW.out.size) (trans0 hW.out hrow3.2)
end Go.Proofs.Ytkbhmeajgmecoaa.wirZ
