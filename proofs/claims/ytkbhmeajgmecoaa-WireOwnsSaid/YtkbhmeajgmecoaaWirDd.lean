/- The program's small readers: limits, texts of version 1, what isn't nought. -/
import Derived.Test.YtkbhmeajgmecoaaWirDc
namespace Go.Proofs.Ytkbhmeajgmecoaa.wirDd
open Go.ChangeShapes Go.WideShapes Go.ChangeAt Go.RowKit Go.Deep
open numM rowA byt numA numB numC numN numD numE wirM wirL wirP wirQ wirR wirDa wirDb wirDc

def vB (b : Bool) : Value := .bool b
/-- a number read, and its limit: the end in three ways -/
theorem lim_cases {r : R Nat} (lim err : Nat) (l : List Nat) : (∃ k, r l = .error k ∧ rLim r lim err l = .error k) ∨ (∃ n t, r l = .ok (n, t) ∧ lim < n ∧ rLim r lim err l = .error err) ∨ (∃ n t, r l = .ok (n, t) ∧ ¬ lim < n ∧ rLim r lim err l = .ok (n, t)) := by
  cases hr : r l with
  | error k => exact .inl ⟨k, rfl, lim_err hr⟩
  | ok xt =>
    obtain ⟨n, t⟩ := xt
    by_cases h : lim < n
    · exact .inr (.inl ⟨n, t, rfl, h, lim_no hr h⟩)
    · exact .inr (.inr ⟨n, t, rfl, h, lim_ok hr h⟩)
set_option maxRecDepth 100000 in
theorem gone_any {u : Nat} {l : List Nat} (w : World) (h : UAt w u l) : Calls Try.prog 85 #[.pointer (some ⟨u, 0, none⟩)] w (Rd u vB w (rGone l)) := by
  have hw := wide_any 1 w h (by omega) (by omega)
  unfold rGone
  rcases lim_cases (r := rWide 1) 1 3 l with ⟨k, e1, e2⟩ | ⟨n, t, e1, e3, e2⟩ | ⟨n, t, e1, e3, e2⟩
  · rw [e1] at hw
    rw [seq_err e2]
    clear h e1 e2
    go_enter Try.func85, Try.ntmps85
    go_wp2_with (fail)
    refine hw.mono ?_
    rintro e w' ⟨rfl, hg⟩
    exact ⟨rfl, rd_err rfl hg⟩
  · rw [e1] at hw
    rw [seq_err e2]
    clear h e1 e2
    go_enter Try.func85, Try.ntmps85
    go_wp2_with (fail)
    refine hw.mono ?_
    rintro e w' ⟨rfl, hU, hg⟩
    unfold vU
    go_wp2_with (fail)
    refine (most_no n 1 3 w' e3 (by omega)).mono ?_
    rintro e w2 ⟨rfl, rfl⟩
    exact ⟨rfl, rd_err rfl hg⟩
  · rw [e1] at hw
    rw [seq_ok e2]
    clear h e1 e2
    have hb : ((n : Int) == 1) = (n == 1) := by rcases (show n = 0 ∨ n = 1 by omega) with rfl | rfl <;> rfl
    go_enter Try.func85, Try.ntmps85
    go_wp2_with (fail)
    refine hw.mono ?_
    rintro e w' ⟨rfl, hU, hg⟩
    unfold vU
    go_wp2_with (fail)
    refine (most_ok n 1 3 w' e3 (by omega)).mono ?_
    rintro e w2 ⟨rfl, rfl⟩
    have hE := Lib.hid (rd_ok (val := vB) (r := R.ret (n == 1) t) rfl hU hg)
    clear hU hg hw
    generalize hy : (n == 1) = y at *
    go_wp2
    go_ret
    exact hE.out
set_option maxRecDepth 100000 in
theorem etext_any {u : Nat} {l : List Nat} (most : Nat) (w : World) (h : UAt w u l) (hm : most ≤ 9223372036854775807) : Calls Try.prog 64 #[.pointer (some ⟨u, 0, none⟩), .int .i64 most] w (Rd u vS w (rTx (rWide 1) most l)) := by
  have hw := wide_any 1 w h (by omega) (by omega)
  unfold rTx
  rcases lim_cases (r := rWide 1) most 6 l with ⟨k, e1, e2⟩ | ⟨n, t, e1, e3, e2⟩ | ⟨n, t, e1, e3, e2⟩
  · rw [e1] at hw
    rw [seq_err e2]
    clear h e1 e2
    go_enter Try.func64, Try.ntmps64
    go_wp2_with (fail)
    refine hw.mono ?_
    rintro e w' ⟨rfl, hg⟩
    exact ⟨rfl, rd_err rfl hg⟩
  · rw [e1] at hw
    rw [seq_err e2]
    clear h e1 e2
    go_enter Try.func64, Try.ntmps64
    go_wp2_with (fail)
    refine hw.mono ?_
    rintro e w' ⟨rfl, hU, hg⟩
    unfold vU
    go_wp2_with (fail)
    refine (most_no n most 6 w' e3 hm).mono ?_
    rintro e w2 ⟨rfl, rfl⟩
    exact ⟨rfl, rd_err rfl hg⟩
  · rw [e1] at hw
    rw [seq_ok e2]
    clear h e1 e2
    go_enter Try.func64, Try.ntmps64
    go_wp2_with (fail)
    refine hw.mono ?_
    rintro e w' ⟨rfl, hU, hg⟩
    unfold vU
    go_wp2_with (fail)
    refine (most_ok n most 6 w' e3 hm).mono ?_
    rintro e w2 ⟨rfl, rfl⟩
    have hby := bytes_any n w' hU (by omega)
    replace hg := Lib.hid hg
    clear hU hw
    go_wp2_with (fail)
    refine hby.mono ?_
    rintro e w2 hh
    unfold Bys at hh
    by_cases hs : t.length < n
    · rw [if_pos hs] at hh
      obtain ⟨rfl, hg2⟩ := hh
      exact ⟨rfl, rd_err (k := 2) (by unfold rStr; exact if_pos hs) (hg.out.trans hg2)⟩
    · rw [if_neg hs] at hh
      obtain ⟨A2, c2, rfl, hb2, hU2, hg2⟩ := hh
      have hcv := run_str (P := Try.prog) 31 5 9 Try.underlying31 Try.underlying5 Try.underlying9 c2 hb2
      have hE := Lib.hid (rd_ok (val := vS) (r := rStr n t) (by unfold rStr; exact if_neg hs) hU2 (hg.out.trans hg2))
      clear hU2 hg2 hb2 hby hs
      generalize strOf (t.take n) = T at *
      go_wp2
      go_ret
      exact hE.out
set_option maxRecDepth 100000 in
theorem nn_any {u : Nat} {l : List Nat} (w : World) (h : UAt w u l) : Calls Try.prog 68 #[.pointer (some ⟨u, 0, none⟩)] w (Rd u vU w (rNN l)) := by
  have hw := Lib.hid (short_any w h)
  have hρ : Hid (rNN l = (rShort.seq fun n => (R.no (n == 0) 3).seq fun _ => R.ret n) l) := Lib.hid rfl
  clear h
  generalize rNN l = ρ at *
  go_enter Try.func68, Try.ntmps68
  go_wp2_with (fail)
  refine hw.out.mono ?_
  rintro e w' hh
  cases hr : rShort l with
  | error k =>
    rw [hr] at hh
    obtain ⟨rfl, hg⟩ := hh
    exact ⟨rfl, rd_err (hρ.out.trans (seq_err hr)) hg⟩
  | ok xt =>
    obtain ⟨n, t⟩ := xt
    rw [hr] at hh
    obtain ⟨rfl, hU, hg⟩ := hh
    unfold vU
    by_cases hb : n = 0
    · have hE := Lib.hid (rd_err (val := vU) (hρ.out.trans ((seq_ok hr).trans (no_err (beq_iff_eq.2 hb)))) hg)
      subst hb
      clear hU hg hr hρ hw
      go_wp2_with (fail)
      refine (refuse_yes (by rfl) 3 rfl w').mono ?_
      rintro e w2 ⟨rfl, rfl⟩
      exact ⟨rfl, hE.out⟩
    · have hE := Lib.hid (rd_ok (val := vU) (hρ.out.trans ((seq_ok hr).trans (no_ok (beq_eq_false_iff_ne.2 hb)))) hU hg)
      have hd : ((n : Int) == 0) = false := by rw [beq_eq_false_iff_ne]; omega
      clear hU hg hr hρ hw hb
      go_wp2_with (fail)
      refine (refuse_no (by first | rfl | exact hd) 3 w').mono ?_
      rintro e w2 ⟨rfl, rfl⟩
      go_wp2
      go_ret
      exact hE.out
theorem emp_yes {s : ByteArray} (h : s.size = 0) : s.toList.isEmpty = true := by
  rw [ByteArray.toList_eq, List.isEmpty_iff]
  exact List.eq_nil_of_length_eq_zero (by rw [Array.length_toList]; exact h)
theorem emp_no {s : ByteArray} (h : ¬ s.size = 0) : s.toList.isEmpty = false := by
  rw [ByteArray.toList_eq, List.isEmpty_eq_false_iff]
  intro e
  have := congrArg List.length e
  rw [Array.length_toList] at this; exact h this
set_option maxRecDepth 100000 in
theorem tn_any {u : Nat} {l : List Nat} (w : World) (h : UAt w u l) : Calls Try.prog 69 #[.pointer (some ⟨u, 0, none⟩)] w (Rd u vS w (rTN 16 l)) := by
  have hw := Lib.hid (ntext_any 16 w h (by omega))
  have hρ : Hid (rTN 16 l = ((rTx rShort 16).seq fun s => (R.no (decide (s.size = 0)) 3).seq fun _ => R.ret s) l) := Lib.hid rfl
  clear h
  generalize rTN 16 l = ρ at *
  go_enter Try.func69, Try.ntmps69
  go_wp2_with (fail)
  refine hw.out.mono ?_
  rintro e w' hh
  cases hr : rTx rShort 16 l with
  | error k =>
    rw [hr] at hh
    obtain ⟨rfl, hg⟩ := hh
    exact ⟨rfl, rd_err (hρ.out.trans (seq_err hr)) hg⟩
  | ok xt =>
    obtain ⟨n, t⟩ := xt
    rw [hr] at hh
    obtain ⟨rfl, hU, hg⟩ := hh
    unfold vS
    by_cases hb : n.size = 0
    · have hE := Lib.hid (rd_err (val := vS) (hρ.out.trans ((seq_ok hr).trans (no_err (decide_eq_true hb)))) hg)
      obtain rfl : n = wirR.mt := (mt_iff n).2 hb
      clear hU hg hr hρ hw
      unfold wirR.mt
      go_wp2_with (fail)
      refine (refuse_yes (by rfl) 3 rfl w').mono ?_
      rintro e w2 ⟨rfl, rfl⟩
      exact ⟨rfl, hE.out⟩
    · have hE := Lib.hid (rd_ok (val := vS) (hρ.out.trans ((seq_ok hr).trans (no_ok (decide_eq_false hb)))) hU hg)
      have hd := emp_no hb
      clear hU hg hr hρ hw hb
      go_wp2_with (fail)
      refine (refuse_no (by first | rfl | exact hd) 3 w').mono ?_
      rintro e w2 ⟨rfl, rfl⟩
      go_wp2
      go_ret
      exact hE.out
def vN (n : Nat) : Value := .int .i64 n
set_option maxRecDepth 100000 in
theorem cn_any {u : Nat} {l : List Nat} (lim : Nat) (w : World) (h : UAt w u l) (hl : lim ≤ 9223372036854775807) : Calls Try.prog 88 #[.pointer (some ⟨u, 0, none⟩), .int .i64 lim] w (Rd u vN w (rCN lim l)) := by
  have hw := short_any w h
  unfold rCN
  rcases lim_cases (r := rShort) lim 6 l with ⟨k, e1, e2⟩ | ⟨n, t, e1, e3, e2⟩ | ⟨n, t, e1, e3, e2⟩
  · rw [e1] at hw
    rw [seq_err e2]
    clear h e1 e2
    go_enter Try.func88, Try.ntmps88
    go_wp2_with (fail)
    refine hw.mono ?_
    rintro e w' ⟨rfl, hg⟩
    exact ⟨rfl, rd_err rfl hg⟩
  · rw [e1] at hw
    rw [seq_err e2]
    clear h e1 e2
    go_enter Try.func88, Try.ntmps88
    go_wp2_with (fail)
    refine hw.mono ?_
    rintro e w' ⟨rfl, hU, hg⟩
    unfold vU
    go_wp2_with (fail)
    refine (most_no n lim 6 w' e3 hl).mono ?_
    rintro e w2 ⟨rfl, rfl⟩
    exact ⟨rfl, rd_err rfl hg⟩
  · rw [e1] at hw
    rw [seq_ok e2]
    clear h e1 e2
    go_enter Try.func88, Try.ntmps88
    go_wp2_with (fail)
    refine hw.mono ?_
    rintro e w' ⟨rfl, hU, hg⟩
    unfold vU
    go_wp2_with (fail)
    refine (most_ok n lim 6 w' e3 hl).mono ?_
    rintro e w2 ⟨rfl, rfl⟩
    by_cases hb : n = 0
    · subst hb
      have hE := Lib.hid (rd_err (val := vN) (r := ((R.no ((0 : Nat) == 0) 3).seq fun _ => R.ret 0) t) (k := 3) rfl hg)
      clear hU hg hw
      go_wp2_with (fail)
      refine (refuse_yes (by rfl) 3 rfl w').mono ?_
      rintro e w2 ⟨rfl, rfl⟩
      exact ⟨rfl, hE.out⟩
    · have hE := Lib.hid (rd_ok (val := vN) (r := ((R.no (n == 0) 3).seq fun _ => R.ret n) t) (no_ok (beq_eq_false_iff_ne.2 hb)) hU hg)
      have hd : ((n : Int) == 0) = false := by rw [beq_eq_false_iff_ne]; omega
      clear hU hg hw hb
      go_wp2_with (fail)
      refine (refuse_no (by first | rfl | exact hd) 3 w').mono ?_
      rintro e w2 ⟨rfl, rfl⟩
      go_wp2
      go_ret
      exact hE.out
set_option maxRecDepth 100000 in
theorem cmdn_any {u : Nat} {l : List Nat} (w : World) (h : UAt w u l) : Calls Try.prog 90 #[.pointer (some ⟨u, 0, none⟩)] w (Rd u vI w (rNum2 l)) := by
  have hw := short_any w h
  unfold rNum2
  rcases lim_cases (r := rShort) 255 1 l with ⟨k, e1, e2⟩ | ⟨n, t, e1, e3, e2⟩ | ⟨n, t, e1, e3, e2⟩
  · rw [e1] at hw
    rw [int_err e2]
    clear h e1 e2
    go_enter Try.func90, Try.ntmps90
    go_wp2_with (fail)
    refine hw.mono ?_
    rintro e w' ⟨rfl, hg⟩
    exact ⟨rfl, rd_err rfl hg⟩
  · rw [e1] at hw
    rw [int_err e2]
    clear h e1 e2
    go_enter Try.func90, Try.ntmps90
    go_wp2_with (fail)
    refine hw.mono ?_
    rintro e w' ⟨rfl, hU, hg⟩
    unfold vU
    go_wp2_with (fail)
    refine (most_no n 255 1 w' e3 (by omega)).mono ?_
    rintro e w2 ⟨rfl, rfl⟩
    exact ⟨rfl, rd_err rfl hg⟩
  · rw [e1] at hw
    rw [int_ok e2]
    clear h e1 e2
    go_enter Try.func90, Try.ntmps90
    go_wp2_with (fail)
    refine hw.mono ?_
    rintro e w' ⟨rfl, hU, hg⟩
    unfold vU
    go_wp2_with (fail)
    refine (most_ok n 255 1 w' e3 (by omega)).mono ?_
    rintro e w2 ⟨rfl, rfl⟩
    have hE := Lib.hid (rd_ok (val := vI) (r := .ok ((n : Int), t)) rfl hU hg)
    clear hU hg hw
    go_wp2
    go_ret
    exact hE.out
end Go.Proofs.Ytkbhmeajgmecoaa.wirDd
