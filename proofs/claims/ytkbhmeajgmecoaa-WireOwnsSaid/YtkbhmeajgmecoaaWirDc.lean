/- The program's small readers: short numbers, texts, kinds. -/
import Derived.Test.YtkbhmeajgmecoaaWirDb
namespace Go.Proofs.Ytkbhmeajgmecoaa.wirDc
open Go.ChangeShapes Go.WideShapes Go.ChangeAt Go.RowKit Go.Deep
open numM rowA byt numA numB numC numN numD numE wirM wirL wirP wirQ wirR wirDa wirDb

set_option maxRecDepth 100000 in
theorem short_any {u : Nat} {l : List Nat} (w : World) (h : UAt w u l) : Calls Try.prog 86 #[.pointer (some ⟨u, 0, none⟩)] w (Rd u vU w (rShort l)) := by
  obtain ⟨A, c, h0, hb, hc, h9⟩ := UAt.open_ h
  have ht := Lib.hid (tuv_any A l.length c l w hb)
  by_cases hs : tke l = 0
  · obtain ⟨-, -, hnl, -⟩ := tk_yes hb.lt hs
    have hr := Lib.hid (show rShort l = .ok (tkv l, l.drop (tkn l)) by unfold rShort; exact if_pos hs)
    have hby := Lib.hid (bytes_any (tkn l) w h (by have := hb.2.1; omega))
    rw [hs] at ht
    clear h hb
    replace hs := Lib.hid hs
    have hn : Hid (¬ l.length < tkn l) := Lib.hid (by omega)
    clear hnl
    generalize tkv l = N at *
    generalize tkn l = T at *
    generalize hL : l.length = n at *
    replace hL := Lib.hid hL
    go_enter Try.func86, Try.ntmps86
    go_wp2_with (fail)
    refine ht.out.mono ?_
    rintro e w' ⟨rfl, rfl⟩
    go_wp2_with (fail)
    refine (refuse_no (by rfl) 0 w).mono ?_
    rintro e w' ⟨rfl, rfl⟩
    go_wp2_with (fail)
    refine hby.out.mono ?_
    rintro e w' hh
    unfold Bys at hh
    rw [if_neg (by rw [hL.out]; exact hn.out)] at hh
    obtain ⟨A2, c2, rfl, -, hU2, hg⟩ := hh
    have hfin := Lib.hid (rd_ok (val := vU) hr.out hU2 hg)
    clear hU2 hg hr hby
    go_wp2
    go_ret
    exact hfin.out
  · have hr := Lib.hid (show rShort l = .error (tke l) by unfold rShort; exact if_neg hs)
    have hne : ((tke l : Int) != 0) = true := by rw [bne_iff_ne]; omega
    clear h hb hs
    generalize tkv l = N at *
    generalize tkn l = T at *
    generalize tke l = E at *
    generalize l.length = n at *
    go_enter Try.func86, Try.ntmps86
    go_wp2_with (fail)
    refine ht.out.mono ?_
    rintro e w' ⟨rfl, rfl⟩
    go_wp2_with (fail)
    refine (refuse_yes (by first | rfl | exact hne) E rfl w).mono ?_
    rintro e w' ⟨rfl, rfl⟩
    exact ⟨rfl, rd_err hr.out (Gr.refl _ _)⟩
/-- what a text is read as -/
theorem tx_eq (l : List Nat) (most : Nat) : rTx rShort most l = if tte l most = 0 then .ok (strOf (ttl l most), l.drop (ttn l most)) else .error (tte l most) := by
  unfold rTx
  by_cases h1 : tke l = 0
  · have hr : rShort l = .ok (tkv l, l.drop (tkn l)) := if_pos h1
    by_cases h2 : most < tkv l
    · have he : tte l most = 6 := by unfold tte; rw [if_neg (by omega), if_neg (by omega), if_pos (by omega)]
      rw [seq_err (lim_no hr h2), he]; rfl
    · rw [seq_ok (lim_ok hr h2)]
      by_cases h3 : l.length - tkn l < tkv l
      · have he : tte l most = 2 := by unfold tte; rw [if_neg (by omega), if_neg (by omega), if_neg (by omega), if_pos h3]
        unfold rStr
        rw [if_pos (by rw [List.length_drop]; exact h3), he]; rfl
      · have he : tte l most = 0 := by unfold tte; rw [if_neg (by omega), if_neg (by omega), if_neg (by omega), if_neg h3]
        unfold rStr
        rw [if_neg (by rw [List.length_drop]; exact h3), if_pos he]
        unfold ttl ttn
        rw [if_pos he, if_pos he, List.drop_drop]
  · have hr : rShort l = .error (tke l) := if_neg h1
    have he : tte l most = tke l := by unfold tte; rw [if_neg (by omega), if_pos h1]
    rw [seq_err (lim_err hr), he, if_neg h1]
theorem ttn_le {l : List Nat} (hl : ∀ c ∈ l, c < 256) {k : Int} (h : tte l k = 0) : ttn l k ≤ l.length := by
  unfold ttn
  rw [if_pos h]
  unfold tte at h
  split at h
  · omega
  split at h
  · omega
  rename_i h1
  have h1' : tke l = 0 := by omega
  obtain ⟨-, -, h4, -⟩ := tk_yes hl h1'
  split at h
  · omega
  split at h
  · omega
  · omega
set_option maxRecDepth 100000 in
theorem ntext_any {u : Nat} {l : List Nat} (most : Nat) (w : World) (h : UAt w u l) (hm : most ≤ 9223372036854775807) : Calls Try.prog 87 #[.pointer (some ⟨u, 0, none⟩), .int .i64 most] w (Rd u vS w (rTx rShort most l)) := by
  obtain ⟨A, c, h0, hb, hc, h9⟩ := UAt.open_ h
  have ht := Lib.hid (ttext_any A l.length c most l w hb hc h9 (by omega))
  rw [tx_eq]
  by_cases hs : tte l most = 0
  · have hnl := ttn_le hb.lt hs
    rw [if_pos hs]
    have hby := Lib.hid (bytes_any (ttn l most) w h (by have := hb.2.1; omega))
    unfold Tt at ht
    rw [hs] at ht
    clear h hb
    replace hs := Lib.hid hs
    have hn : Hid (¬ l.length < ttn l most) := Lib.hid (by omega)
    clear hnl
    generalize strOf (ttl l most) = N at *
    generalize ttn l most = T at *
    generalize hL : l.length = n at *
    replace hL := Lib.hid hL
    go_enter Try.func87, Try.ntmps87
    go_wp2_with (fail)
    refine ht.out.mono ?_
    rintro e w' ⟨rfl, rfl⟩
    go_wp2_with (fail)
    refine (refuse_no (by rfl) 0 w).mono ?_
    rintro e w' ⟨rfl, rfl⟩
    go_wp2_with (fail)
    refine hby.out.mono ?_
    rintro e w' hh
    unfold Bys at hh
    rw [if_neg (by rw [hL.out]; exact hn.out)] at hh
    obtain ⟨A2, c2, rfl, -, hU2, hg⟩ := hh
    have hfin := Lib.hid (rd_ok (val := vS) (r := .ok (N, l.drop T)) rfl hU2 hg)
    clear hU2 hg hby
    go_wp2
    go_ret
    exact hfin.out
  · rw [if_neg hs]
    have hne : ((tte l most : Int) != 0) = true := by rw [bne_iff_ne]; omega
    unfold Tt at ht
    clear h hb hs
    generalize strOf (ttl l most) = N at *
    generalize ttn l most = T at *
    generalize tte l most = E at *
    generalize l.length = n at *
    go_enter Try.func87, Try.ntmps87
    go_wp2_with (fail)
    refine ht.out.mono ?_
    rintro e w' ⟨rfl, rfl⟩
    go_wp2_with (fail)
    refine (refuse_yes (by first | rfl | exact hne) E rfl w).mono ?_
    rintro e w' ⟨rfl, rfl⟩
    exact ⟨rfl, rd_err rfl (Gr.refl _ _)⟩
def vI (n : Int) : Value := .int .i64 n
theorem wide1_lt {l t : List Nat} {n : Nat} (hl : ∀ c ∈ l, c < 256) (h : rWide 1 l = .ok (n, t)) : n < 256 := by
  have := ((is_wide 1).bw l n t hl h).1
  simpa using this
set_option maxRecDepth 100000 in
theorem kind_any {u : Nat} {l : List Nat} (w : World) (h : UAt w u l) : Calls Try.prog 62 #[.pointer (some ⟨u, 0, none⟩)] w (Rd u vI w (rKind l)) := by
  have hw := Lib.hid (wide_any 1 w h (by omega) (by omega))
  have h256 := Lib.hid (fun n t (hh : rWide 1 l = .ok (n, t)) => wide1_lt h.lt256 hh)
  have hρ : Hid (rKind l = rInt ((rWide 1).seq fun n => (R.no (decide (n < 1) || decide (26 < n)) 5).seq fun _ => R.ret n) l) := Lib.hid rfl
  clear h
  generalize rKind l = ρ at *
  go_enter Try.func62, Try.ntmps62
  go_wp2_with (fail)
  refine hw.out.mono ?_
  rintro e w' hh
  cases hr : rWide 1 l with
  | error k =>
    rw [hr] at hh
    obtain ⟨rfl, hg⟩ := hh
    exact ⟨rfl, rd_err (hρ.out.trans (int_err (seq_err hr))) hg⟩
  | ok xt =>
    obtain ⟨n, t⟩ := xt
    rw [hr] at hh
    obtain ⟨rfl, hU, hg⟩ := hh
    have hn := h256.out n t hr
    by_cases hb : n < 1 ∨ 26 < n
    · have hd : (decide (n < 1) || decide (26 < n)) = true := by simpa using hb
      have hE := Lib.hid (rd_err (val := vI) (hρ.out.trans (int_err ((seq_ok hr).trans (no_err hd)))) hg)
      clear hU hg hr hρ hw h256 hd
      unfold vU
      rcases (show n < 1 ∨ (¬ n < 1 ∧ 26 < n) by omega) with q | ⟨q, q2⟩
      all_goals
        go_wp2_with (fail)
        refine (refuse_yes (by first | rfl | (simp; omega)) 5 rfl w').mono ?_
        rintro e w2 ⟨rfl, rfl⟩
        exact ⟨rfl, hE.out⟩
    · have hd : (decide (n < 1) || decide (26 < n)) = false := by simpa using hb
      have hE := Lib.hid (rd_ok (val := vI) (x := (n : Int)) (hρ.out.trans (int_ok ((seq_ok hr).trans (no_ok hd)))) hU hg)
      have hw2 : IntKind.i64.wrap (n : Int) = n := IntWalk.i64_in _ ⟨by omega, by omega⟩
      have q1 : ¬ n < 1 := by omega
      have q2 : ¬ 26 < n := by omega
      clear hU hg hr hρ hw h256 hd hb
      unfold vU
      go_wp2_with (fail)
      refine (refuse_no (by first | rfl | (simp; omega)) 5 w').mono ?_
      rintro e w2 ⟨rfl, rfl⟩
      go_wp2
      go_ret
      exact hE.out
end Go.Proofs.Ytkbhmeajgmecoaa.wirDc
