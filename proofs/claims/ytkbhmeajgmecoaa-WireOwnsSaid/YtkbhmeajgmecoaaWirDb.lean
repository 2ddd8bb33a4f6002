/- The program's small readers. -/
import Derived.Test.YtkbhmeajgmecoaaWirDa
import Derived.IntWalk
namespace Go.Proofs.Ytkbhmeajgmecoaa.wirDb
open Go.ChangeShapes Go.WideShapes Go.ChangeAt Go.RowKit Go.Deep
open numM rowA byt numA numB numC numN numD numE wirM wirL wirP wirQ wirR wirDa

/-! ### Readers, step by step -/
theorem seq_ok {α β : Type} {r : R α} {f : α → R β} {l t : List Nat} {x : α} (h : r l = .ok (x, t)) : (r.seq f) l = f x t := by unfold R.seq; rw [h]
theorem seq_err {α β : Type} {r : R α} {f : α → R β} {l : List Nat} {k : Nat} (h : r l = .error k) : (r.seq f) l = .error k := by unfold R.seq; rw [h]
theorem no_ok {α : Type} {b : Bool} {k : Nat} {r : Unit → R α} {l : List Nat} (h : b = false) : ((R.no b k).seq r) l = r () l := by subst h; rfl
theorem no_err {α : Type} {b : Bool} {k : Nat} {r : Unit → R α} {l : List Nat} (h : b = true) : ((R.no b k).seq r) l = .error k := by subst h; rfl
theorem lim_ok {r : R Nat} {lim err n : Nat} {l t : List Nat} (h : r l = .ok (n, t)) (hn : ¬ lim < n) : rLim r lim err l = .ok (n, t) := by
  unfold rLim; rw [seq_ok h, no_ok (decide_eq_false hn)]; rfl
theorem lim_no {r : R Nat} {lim err n : Nat} {l t : List Nat} (h : r l = .ok (n, t)) (hn : lim < n) : rLim r lim err l = .error err := by
  unfold rLim; rw [seq_ok h, no_err (decide_eq_true hn)]
theorem lim_err {r : R Nat} {lim err k : Nat} {l : List Nat} (h : r l = .error k) : rLim r lim err l = .error k := by unfold rLim; rw [seq_err h]
theorem int_ok {r : R Nat} {n : Nat} {l t : List Nat} (h : r l = .ok (n, t)) : rInt r l = .ok ((n : Int), t) := by unfold rInt; rw [seq_ok h]; rfl
theorem int_err {r : R Nat} {k : Nat} {l : List Nat} (h : r l = .error k) : rInt r l = .error k := by unfold rInt; rw [seq_err h]
section
variable {α : Type} {u : Nat} {val : α → Value} {w w' : World} {r : Except Nat (α × List Nat)}
theorem rd_ok {x : α} {t : List Nat} (h : r = .ok (x, t)) (hU : UAt w' u t) (hg : Gr u w w') : Rd u val w r (.returned (val x)) w' := by subst h; exact ⟨rfl, hU, hg⟩
theorem rd_err {k : Nat} (h : r = .error k) (hg : Gr u w w') : Rd u val w r (.panicked (NM k)) w' := by subst h; exact ⟨rfl, hg⟩
end
/-- what the walk loads of what is left -/
theorem UAt.open_ {w : World} {u : Nat} {l : List Nat} (h : UAt w u l) : ∃ A c, w.cell? ⟨u, 0, none⟩ = some (.slice A l.length c) ∧ BL w A l.length l ∧ l.length ≤ c ∧ c ≤ 9223372036854775807 := by
  obtain ⟨A, c, h1, h2, h3, h4, h5⟩ := h
  exact ⟨A, c, h1.cell (i := 0) (by omega), h2, h3, h4⟩

/-! ### atMost -/
theorem most_no (n lim : Nat) (err : Nat) (w : World) (h : lim < n) (hl : lim ≤ 9223372036854775807) : Calls Try.prog 65 #[.int .u64 n, .int .i64 lim, .int .i64 err] w fun e w' => e = .panicked (NM err) ∧ w = w' := by
  have hw := wrap64_nat lim (by omega)
  go_enter Try.func65, Try.ntmps65
  go_wp2_with (fail)
  refine (refuse_yes (by first | rfl | exact decide_eq_true h) err rfl w).mono ?_
  rintro e w' ⟨rfl, rfl⟩
  exact ⟨rfl, rfl, rfl⟩
theorem most_ok (n lim : Nat) (err : Nat) (w : World) (h : ¬ lim < n) (hl : lim ≤ 9223372036854775807) : Calls Try.prog 65 #[.int .u64 n, .int .i64 lim, .int .i64 err] w fun e w' => e = .returned (.int .i64 n) ∧ w = w' := by
  have hw := wrap64_nat lim (by omega)
  have hw2 : IntKind.i64.wrap (n : Int) = n := IntWalk.i64_in _ ⟨by omega, by omega⟩
  go_enter Try.func65, Try.ntmps65
  go_wp2_with (fail)
  refine (refuse_no (by first | rfl | exact decide_eq_false h) err w).mono ?_
  rintro e w' ⟨rfl, rfl⟩
  go_wp2
  go_ret
  exact ⟨rfl, rfl⟩

/-! ### wide, short, newerText -/
def vU (n : Nat) : Value := .int .u64 n
def vS (s : ByteArray) : Value := .string s
set_option maxRecDepth 100000 in
theorem wide_any {u : Nat} {l : List Nat} (k : Nat) (w : World) (h : UAt w u l) (h1 : 1 ≤ k) (h8 : k ≤ 8) : Calls Try.prog 63 #[.pointer (some ⟨u, 0, none⟩), .int .i64 k] w (Rd u vU w (rWide k l)) := by
  obtain ⟨A, c, h0, hb, hc, h9⟩ := UAt.open_ h
  have ht := tfixed_any A l.length c k l w hb hc h9
  have ev : tfv l k = if l.length < k then 0 else bv (l.take k) := by unfold tfv; rw [if_neg (by omega), Int.toNat_natCast]
  have ee : tfe l k = if l.length < k then 2 else 0 := by unfold tfe; rw [if_neg (by omega), Int.toNat_natCast]
  rw [ev, ee] at ht
  clear ev ee
  have hU := Lib.hid h
  by_cases hs : l.length < k
  · rw [if_pos hs, if_pos hs] at ht
    replace ht := Lib.hid ht
    have hr := Lib.hid (show rWide k l = .error 2 by unfold rWide; exact if_pos hs)
    clear h hb hs
    generalize l.length = n at *
    go_enter Try.func63, Try.ntmps63
    go_wp2_with (fail)
    refine ht.out.mono ?_
    rintro e w' ⟨rfl, rfl⟩
    go_wp2_with (fail)
    refine (refuse_yes (by rfl) 2 rfl w).mono ?_
    rintro e w' ⟨rfl, rfl⟩
    exact ⟨rfl, rd_err hr.out (Gr.refl _ _)⟩
  · rw [if_neg hs, if_neg hs] at ht
    replace ht := Lib.hid ht
    have hr := Lib.hid (show rWide k l = .ok (bv (l.take k), l.drop k) by unfold rWide; exact if_neg hs)
    have hby := Lib.hid (bytes_any k w h (by omega))
    clear h hb
    generalize bv (l.take k) = N at *
    replace hs := Lib.hid hs
    generalize hn : l.length = n at *
    replace hn := Lib.hid hn
    go_enter Try.func63, Try.ntmps63
    go_wp2_with (fail)
    refine ht.out.mono ?_
    rintro e w' ⟨rfl, rfl⟩
    go_wp2_with (fail)
    refine (refuse_no (by rfl) 0 w).mono ?_
    rintro e w' ⟨rfl, rfl⟩
    go_wp2_with (fail)
    refine hby.out.mono ?_
    rintro e w' hh
    unfold Bys at hh
    rw [if_neg (by rw [hn.out]; exact hs.out)] at hh
    obtain ⟨A2, c2, rfl, -, hU2, hg⟩ := hh
    have hfin := Lib.hid (rd_ok (val := vU) hr.out hU2 hg)
    clear hU2 hg hr hby
    go_wp2
    go_ret
    exact hfin.out
end Go.Proofs.Ytkbhmeajgmecoaa.wirDb
