/- The document's side: find, See, Prepare, Stable. -/
import Derived.Test.YteelndiiennhkaaPtJ
set_option linter.unusedVariables false
set_option linter.unusedSimpArgs false
set_option maxRecDepth 100000
namespace Go.Proofs.Yteelndiiennhkaa.ptQ
open Go.ChangeShapes Go.WideShapes Go.ChangeAt Go.RowKit Go.Deep
open opG opO hlcA gen ptM ptL ptN ptG ptA ptJ

def DocAt (col : Nat → Nat) (c : Nat) (w : World) (q : Nat) (S : Pt) : Prop := ∃ A cA, DocM col c w q S.ck S.os A cA
def DLv (col : Nat → Nat) (c : Nat) (q : Nat) (S : Pt) (w w' : World) : Prop := ∃ col', Cn c col w col' w' ∧ DocAt col' c w' q S
def fdI (l : List OP) (k : Int) : Int := if (fnd l k).isSome = true then (pos l k : Nat) else -1
section
variable {col col' : Nat → Nat} {c d q : Nat} {S : Pt} {w w1 : World} {A : Option Addr} {cA : Nat}
theorem DocAt.other (h : DocAt col c w q S) (hg : Chg col d w w1) (hcd : c ≠ d) (he : Ext w col col') : DocAt col' c w1 q S := by
  obtain ⟨A, cA, h⟩ := h
  exact ⟨_, _, h.other hg hcd he⟩
theorem DocAt.below (h : DocAt col c w q S) (hB : Below w.heap.size w w1) : DocAt col c w1 q S := h.other (Chg.of_below col (c + 1) hB) (by omega) (Ext.refl _ _)
theorem dlv_stay (h : DocAt col c w q S) (hf : Fresh col w) (hB : Below w.heap.size w w1) : DLv col c q S w w1 := ⟨col, Cn.below hf hB, h.below hB⟩
theorem dlv_of (hf : Fresh col w) (hg : Chg col c w w1) (h : DocM col c w1 q S.ck S.os A cA) : DLv col c q S w w1 := ⟨col, ⟨Ext.refl _ _, hf.up hg.size, hg⟩, _, _, h⟩
set_option maxHeartbeats 1000000 in
theorem dfind_at (w : World) (h : DocAt col c w q S) (hn : S.os.length ≤ 1000) (tx : Int) : Calls Try.prog 20 #[.pointer (some ⟨q, 0, none⟩), .int .u64 tx] w fun e w' => e = .returned (.int .i64 (fdI S.os tx)) ∧ w = w' := by
  obtain ⟨A, cA, h⟩ := h
  obtain ⟨k0, k1, f0, f1⟩ := h.cells
  have hat := Lib.hid (fun i x (hx : S.os[i]? = some x) => h.ro.at_ hx)
  have hno := Lib.hid (fun i x hi hx => pos_first (l := S.os) (k := tx) (i := i) (x := x) hi hx)
  have hpl := pos_le S.os tx
  have hyes : Hid (pos S.os tx < S.os.length → ∃ t, S.os[pos S.os tx]? = some (tx, t) ∧ fdI S.os tx = (pos S.os tx : Nat)) := Lib.hid (fun hlt => by
    cases hf : fnd S.os tx with
    | none => have := pos_no hf; omega
    | some t => exact ⟨t, pos_at hf, by unfold fdI; rw [hf]; rfl⟩)
  have hnot : Hid (¬ pos S.os tx < S.os.length → fdI S.os tx = -1) := Lib.hid (fun hlt => by
    cases hf : fnd S.os tx with
    | none => unfold fdI; rw [hf]; rfl
    | some t => exact absurd (pos_lt hf) hlt)
  clear h
  generalize fdI S.os tx = F at *
  generalize pos S.os tx = P at *
  generalize S.ck = ck at *
  generalize S.os = os at *
  go_enter Try.func20, Try.ntmps20
  go_wp2
  go_loopw [5] (fun i wr => ∃ j : Nat, i = .int .i64 j ∧ j ≤ P ∧ wr = w) (fun i _ => os.length - (intOf i).toNat)
  case atStart => exact ⟨0, rfl, Nat.zero_le _, rfl⟩
  case round =>
    obtain ⟨j, rfl, hj, rfl⟩ := hrel
    by_cases hlt : j < os.length
    · have hjI : (j : Int) < (os.length : Int) := by omega
      by_cases hjp : j < P
      · obtain ⟨x, hx⟩ : ∃ x, os[j]? = some x := ⟨_, List.getElem?_eq_getElem hlt⟩
        obtain ⟨g, rfl, c0, c1⟩ := hat.out j x hx
        have hne : (x.1 == tx) = false := by simpa using hno.out j x hjp hx
        clear hat hno hyes hnot hx
        go_wp2
        go_roundw
        case rel => exact ⟨j + 1, by go_num, by omega, trivial⟩
        case measure => simp [intOf]; omega
      · obtain rfl : j = P := by omega
        obtain ⟨t, hx, hE⟩ := hyes.out hlt
        obtain ⟨g, rfl, c0, c1⟩ := hat.out j _ hx
        have hne : (tx == tx) = true := by simp
        replace hE := Lib.hid hE
        clear hat hno hyes hnot hx
        simp only at c0 c1
        go_wp2
        go_ret
        exact ⟨by rw [hE.out]; rfl, rfl⟩
    · have hjI : ¬ (j : Int) < (os.length : Int) := by omega
      have hE := Lib.hid (hnot.out (by omega))
      clear hat hno hyes hnot
      go_wp2
      go_ret
      exact ⟨by rw [hE.out]; rfl, rfl⟩
theorem dsee_at (w : World) (h : DocAt col c w q S) (hf : Fresh col w) (t : Int) : Calls Try.prog 15 #[.pointer (some ⟨q, 0, none⟩), .int .u64 t] w fun e w' => e = .returned (.tuple #[]) ∧ DLv col c q (seS S t) w w' := by
  by_cases hlt : S.ck < t
  · have e1 : seS S t = ⟨t, S.os⟩ := by unfold seS mx; rw [if_pos hlt]
    rw [e1]
    obtain ⟨A, cA, h⟩ := h
    obtain ⟨k0, k1, f0, f1⟩ := h.cells
    obtain ⟨g1, h1⟩ := h.setC t
    have hL : Hid (DLv col c q ⟨t, S.os⟩ w (w.setCell ⟨q, 0, none⟩ (.int .u64 t))) := Lib.hid (dlv_of hf g1 h1)
    clear h g1 h1 e1
    generalize S.ck = ck at *
    go_enter Try.func15, Try.ntmps15
    go_wp2
    go_end0
    exact ⟨rfl, hL.out⟩
  · have e1 : seS S t = S := by unfold seS mx; rw [if_neg hlt]
    rw [e1]
    have hst := Lib.hid (dlv_stay h hf (Below.refl _ _))
    obtain ⟨A, cA, h⟩ := h
    obtain ⟨k0, k1, f0, f1⟩ := h.cells
    clear h e1
    generalize S.ck = ck at *
    go_enter Try.func15, Try.ntmps15
    go_wp2
    go_end0
    exact ⟨rfl, hst.out⟩
set_option maxHeartbeats 1000000 in
theorem dprepare_at (w : World) (h : DocAt col c w q S) (hf : Fresh col w) (hok : S.ok) (hn : S.os.length ≤ 1000) {tx t ms : Int} (t0 : 0 ≤ t) (t1 : t ≤ 18446744073709551615) : Calls Try.prog 9 #[.pointer (some ⟨q, 0, none⟩), .int .u64 tx, .int .u64 t, .int .i64 ms] w fun e w' =>
    e = .returned (.tuple #[.int .u64 (prT S tx t ms), .int .i64 (prE S tx t ms)]) ∧ DLv col c q (prS S tx t ms) w w' := by
  obtain ⟨iO, hiO, hzO0, hzO1, hzO2⟩ := info_parts infoO
  have hst := Lib.hid (dlv_stay h hf (Below.refl _ _))
  have hfi := Lib.hid (dfind_at w h hn tx)
  obtain ⟨A, cA, h⟩ := h
  obtain ⟨k0, k1, f0, f1⟩ := h.cells
  have hrc := Lib.hid (rrecv_any S.ck t ms w hok.c0 hok.c1 t0 t1)
  cases hfn : fnd S.os tx with
  | some s =>
    have e1 : prE S tx t ms = 8 := by unfold prE; rw [hfn]; rfl
    have e2 : prT S tx t ms = 0 := by unfold prT; rw [hfn]; rfl
    have e3 : prS S tx t ms = S := by unfold prS; rw [e1]; rfl
    have e4 : fdI S.os tx = (pos S.os tx : Nat) := by unfold fdI; rw [hfn]; rfl
    rw [e1, e2, e3]
    rw [e4] at hfi
    generalize pos S.os tx = P at *
    clear h hrc hok hfn e1 e2 e3 e4
    go_enter Try.func9, Try.ntmps9
    go_wp2_with (fail)
    with_reducible refine hfi.out.mono ?_
    rintro e w' ⟨rfl, rfl⟩
    go_wp2
    go_ret2
    exact ⟨rfl, hst.out⟩
  | none =>
    have e1 : prE S tx t ms = sdE (mx S.ck t) ms := by unfold prE; rw [hfn]; rfl
    have e2 : prT S tx t ms = sdN (mx S.ck t) ms := by unfold prT; rw [hfn]; rfl
    have e4 : fdI S.os tx = -1 := by unfold fdI; rw [hfn]; rfl
    rw [e4] at hfi
    by_cases he : prE S tx t ms = 0
    · have e3 : prS S tx t ms = ⟨prT S tx t ms, S.os ++ [(tx, prT S tx t ms)]⟩ := if_pos he
      obtain ⟨T, hT⟩ : ∃ T, prT S tx t ms = T := ⟨_, rfl⟩
      rw [hT] at e3 e2 ⊢
      rw [← e1, ← e2, he] at hrc
      rw [he, e3]
      obtain ⟨g1, h1⟩ := h.setC T
      obtain ⟨W1, hW1⟩ : ∃ W1, w.setCell ⟨q, 0, none⟩ (.int .u64 T) = W1 := ⟨_, rfl⟩
      rw [hW1] at g1 h1
      replace hW1 := Lib.hid hW1
      obtain ⟨j0, j1, j2, j3⟩ := h1.cells
      have hst1 := Lib.hid (stand_new W1 (pl (tx, T)) TO 1)
      have h5 := h1.below (al0 W1 (.cells #[.int .u64 tx, .int .u64 T] TO))
      have hown := Lib.hid h5.ro
      have hf5 := (hf.up g1.size).up (al0 W1 (.cells #[.int .u64 tx, .int .u64 T] TO)).size
      have hend := Lib.hid (fun (w6 : World) A9 c9 (hr : w6.ownsRow 0 TO 2 (.slice A9 (S.os.length + 1) c9) (S.os.length + 1) (fp S.os ++ pl (tx, T))) hg hat => (by
        have hlen : (S.os ++ [(tx, T)]).length = S.os.length + 1 := by simp
        have hR : RO w6 0 A9 c9 (S.os ++ [(tx, T)]) := by unfold RO; rw [hlen, fp_app, fp_one]; exact hr
        obtain ⟨z1, z2, col', z3, z4⟩ := h5.gr (w3 := w6) hf5 hg hR (by rw [hlen]; exact hat)
        rw [hlen] at z3 z4
        refine ⟨z1, z2, col', ?_, A9, c9, by rw [hlen] at *; exact z4⟩
        exact Cn.trans ⟨Ext.refl _ _, hf5, g1.then (al0 W1 _)⟩ z3 : w6.cell? ⟨q, 1, none⟩ = some (.slice A S.os.length cA) ∧ w6.frozen? ⟨q, 1, none⟩ = false ∧ DLv col c q ⟨T, S.os ++ [(tx, T)]⟩ w (w6.setCell ⟨q, 1, none⟩ (.slice A9 (S.os.length + 1) c9))))
      clear h hst hok hfn e1 e2 e3 e4 he hT g1 h1 hf h5 hf5
      generalize S.ck = ck at *
      generalize S.os = os at *
      go_enter Try.func9, Try.ntmps9
      go_wp2_with (fail)
      with_reducible refine hfi.out.mono ?_
      rintro e w' ⟨rfl, rfl⟩
      go_wp2_with (fail)
      with_reducible refine hrc.out.mono ?_
      rintro e w' ⟨rfl, rfl⟩
      go_upto_region 7 with (fail)
      rw [hW1.out]
      clear k0 k1 f0 f1 hW1
      go_wp2_with (at_builtin; refine wpList_gen rfl (.tmp 37) (.tmp 41) 27 rfl 0 TO iO _ 2 16 Try.underlying27 hiO hzO0 hzO1 hzO2 rfl (by decide) _ os.length (fp os) (by rfl) hown.out (some ⟨W1.heap.size, 0, none⟩) 1 1 (pl (tx, T)) (by rfl) rfl hst1.out (by intro u hu; simp [pl] at hu; rcases hu with rfl | rfl <;> rfl) (by unfold maxLen; omega) (by omega) (Nat.zero_le _) ?_; intro A9 c9 w9 hr9 hg9 hat9; obtain ⟨z1, z2, hL⟩ := hend.out w9 A9 c9 hr9 hg9 hat9; replace hL := Lib.hid hL; clear hr9 hg9 hat9 hst1 hown hend j0 j1 j2 j3)
      go_ret2
      exact ⟨rfl, hL.out⟩
    · have e3 : prS S tx t ms = S := if_neg he
      rw [e3]
      have e2' : prT S tx t ms = 0 := by
        rw [e2]
        by_cases hr : rdB ms = true
        · by_cases h1 : mx S.ck t < ms * 65536
          · rw [e1, (sd_one _ _ hr h1).2] at he; exact absurd rfl he
          · by_cases h2 : mx S.ck t = 18446744073709551615
            · exact (sd_two _ _ hr h1 h2).1
            · rw [e1, (sd_three _ _ hr h1 h2).2] at he; exact absurd rfl he
        · exact (sd_zero _ _ (by simpa using hr)).1
      rw [e2'] at e2 ⊢
      rw [← e1, ← e2] at hrc
      generalize prE S tx t ms = E at *
      have hE : (E != 0) = true := by simpa using he
      clear h hok hfn e1 e2 e3 e2' e4 hf he
      generalize S.ck = ck at *
      go_enter Try.func9, Try.ntmps9
      go_wp2_with (fail)
      with_reducible refine hfi.out.mono ?_
      rintro e w' ⟨rfl, rfl⟩
      go_wp2_with (fail)
      with_reducible refine hrc.out.mono ?_
      rintro e w' ⟨rfl, rfl⟩
      go_wp2
      go_ret2
      exact ⟨rfl, hst.out⟩
set_option maxHeartbeats 1000000 in
theorem dstable_at (w : World) (h : DocAt col c w q S) (hf : Fresh col w) (hok : S.ok) (hn : S.os.length ≤ 1000) (ms : Int) : Calls Try.prog 13 #[.pointer (some ⟨q, 0, none⟩), .int .i64 ms] w fun e w' =>
    e = .returned (.tuple #[.int .u64 (sbT S ms), .int .i64 (sbE ms)]) ∧ DLv col c q (sbS S ms) w w' := by
  have hst := Lib.hid (dlv_stay h hf (Below.refl _ _))
  obtain ⟨A, cA, h⟩ := h
  obtain ⟨k0, k1, f0, f1⟩ := h.cells
  have hra := Lib.hid (rraise_any S.ck ms w)
  cases hr : rdB ms with
  | false =>
    have e1 : sbE ms = 1 := by unfold sbE rsE; rw [if_neg (by rw [hr]; simp)]
    have e2 : sbT S ms = 0 := if_neg (by rw [hr]; simp)
    have e3 : sbS S ms = S := if_neg (by rw [hr]; simp)
    have e4 : rsN S.ck ms = 0 := by unfold rsN; rw [if_neg (by rw [hr]; simp)]
    have e5 : rsE ms = 1 := e1
    rw [e4, e5] at hra
    rw [e1, e2, e3]
    clear h hok e1 e2 e3 e4 e5 hr hf
    generalize S.ck = ck at *
    go_enter Try.func13, Try.ntmps13
    go_wp2_with (fail)
    with_reducible refine hra.out.mono ?_
    rintro e w' ⟨rfl, rfl⟩
    go_wp2
    go_ret2
    exact ⟨rfl, hst.out⟩
  | true =>
    have e1 : sbE ms = 0 := by unfold sbE rsE; rw [if_pos hr]
    have e2 : sbT S ms = stb S.os (rsN S.ck ms) := if_pos hr
    have e3 : sbS S ms = ⟨rsN S.ck ms, S.os⟩ := if_pos hr
    have e5 : rsE ms = 0 := e1
    rw [e5] at hra
    rw [e1, e2, e3]
    have ho0 := Lib.hid hok.o0
    have ho1 := Lib.hid hok.o1
    obtain ⟨g1, h1⟩ := h.setC (rsN S.ck ms)
    generalize rsN S.ck ms = R at *
    obtain ⟨W1, hW1⟩ : ∃ W1, w.setCell ⟨q, 0, none⟩ (.int .u64 R) = W1 := ⟨_, rfl⟩
    rw [hW1] at g1 h1
    obtain ⟨j0, j1, j2, j3⟩ := h1.cells
    replace hW1 := Lib.hid hW1
    have hat := Lib.hid (fun i x (hx : S.os[i]? = some x) => h1.ro.at_ hx)
    have hL : Hid (DLv col c q ⟨R, S.os⟩ w W1) := Lib.hid (dlv_of hf g1 h1)
    have htk := Lib.hid (fun i x (hx : S.os[i]? = some x) => stb_take hx R)
    have hT : Hid (stb (S.os.take S.os.length) R = stb S.os R) := Lib.hid (by rw [List.take_length])
    clear h hst hok e1 e2 e3 e5 g1 h1 hr hf
    generalize S.ck = ck at *
    generalize S.os = os at *
    go_enter Try.func13, Try.ntmps13
    go_wp2_with (fail)
    with_reducible refine hra.out.mono ?_
    rintro e w' ⟨rfl, rfl⟩
    go_upto_region 5 with (fail)
    rw [hW1.out]
    clear k0 k1 f0 f1 hW1 hra
    go_wp2
    go_loopw [6, 8] (fun u i wr => ∃ j : Nat, u = .int .u64 (stb (os.take j) R) ∧ i = .int .i64 j ∧ j ≤ os.length ∧ wr = W1) (fun _ i _ => os.length - (intOf i).toNat)
    case atStart => exact ⟨0, rfl, rfl, Nat.zero_le _, rfl⟩
    case round =>
      obtain ⟨j, rfl, rfl, hj, rfl⟩ := hrel
      by_cases hlt : j < os.length
      · have hjI : (j : Int) < (os.length : Int) := by omega
        obtain ⟨x, hx⟩ : ∃ x, os[j]? = some x := ⟨_, List.getElem?_eq_getElem hlt⟩
        obtain ⟨g, rfl, c0, c1⟩ := hat.out j x hx
        have hnx := htk.out j x hx
        have b0 := ho0.out x (List.mem_of_getElem? hx)
        have b1 := ho1.out x (List.mem_of_getElem? hx)
        obtain ⟨v, hv⟩ : ∃ v, x.2 = v := ⟨_, rfl⟩
        rw [hv] at c1 hnx b0 b1
        have ew : IntKind.u64.wrap (v - 1) = v - 1 := wraps_u64 _ (by omega) (by omega)
        obtain ⟨sj, hsj⟩ : ∃ s, stb (os.take j) R = s := ⟨_, rfl⟩
        rw [hsj] at hnx ⊢
        by_cases hc : v - 1 < sj
        · rw [if_pos hc] at hnx
          replace hnx := Lib.hid hnx
          clear hat hx htk hT ho0 ho1 hL hv hsj
          go_wp2
          go_roundw
          case rel => exact ⟨j + 1, by rw [hnx.out], by go_num, by omega, trivial⟩
          case measure => simp [intOf]; omega
        · rw [if_neg hc] at hnx
          replace hnx := Lib.hid hnx
          clear hat hx htk hT ho0 ho1 hL hv hsj
          go_wp2
          go_roundw
          case rel => exact ⟨j + 1, by rw [hnx.out], by go_num, by omega, trivial⟩
          case measure => simp [intOf]; omega
      · obtain rfl : j = os.length := by omega
        have hjI : ¬ (os.length : Int) < (os.length : Int) := by omega
        clear hat htk ho0 ho1
        go_wp2
        go_ret2
        exact ⟨rfl, hL.out⟩
end
end Go.Proofs.Yteelndiiennhkaa.ptQ
