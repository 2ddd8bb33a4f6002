/- The contracts of the document's own Same and SameVers, of any messages; Same of bytes that aren't the same. -/
import Derived.Test.YtkbhmeajgmecoaaWirN
import Derived.Test.YtkbhmeajgmecoaaWirR
import Derived.Deep.QuietTactic
import Derived.BigQuiet
namespace Go.Proofs.Ytkbhmeajgmecoaa.wirS
open Go.ChangeShapes Go.WideShapes Go.ChangeAt Go.RowKit
open numM numN rowA byt numA numB numC numD numE wirM wirA wirB wirD wirE wirF

theorem tl_inj {a b : ByteArray} : a.toList = b.toList ↔ a = b := by
  constructor
  · intro h
    rw [ByteArray.toList_eq, ByteArray.toList_eq] at h
    have : a.data = b.data := Array.ext' h
    cases a; cases b; simp_all
  · rintro rfl; rfl
theorem nql_ver (v u : Vr) (w : World) : (binOp .neq 51 (.agg (cv v)) (.agg (cv u))).run Try.prog w = .ok (.bool (!decide (v = u))) w := by
  obtain ⟨a, b, c, d, e, f⟩ := v
  obtain ⟨a', b', c', d', e', f'⟩ := u
  go_simp
  simp only [tl_inj]
  have hd : ((d : Int) = (d' : Int)) = (d = d') := by rw [eq_iff_iff]; omega
  by_cases h1 : a = a' <;> by_cases h2 : b = b' <;> by_cases h3 : c = c' <;> by_cases h4 : d = d' <;> by_cases h5 : e = e' <;> by_cases h6 : f = f' <;> simp [h1, h2, h3, h4, h5, h6, hd]
theorem nql_cmd (v u : Cm) (w : World) : (binOp .neq 26 (.agg (cc v)) (.agg (cc u))).run Try.prog w = .ok (.bool (!decide (v = u))) w := by
  obtain ⟨a, b, c, d, e, f⟩ := v
  obtain ⟨a', b', c', d', e', f'⟩ := u
  go_simp
  simp only [tl_inj]
  by_cases h1 : a = a' <;> by_cases h2 : b = b' <;> by_cases h3 : c = c' <;> by_cases h4 : d = d' <;> by_cases h5 : e = e' <;> by_cases h6 : f = f' <;> simp [h1, h2, h3, h4, h5, h6]

theorem vth_ext {l k : List Vr} (hn : l.length = k.length) (h : ∀ i, i < l.length → vth l i = vth k i) : l = k := by
  apply List.ext_getElem hn
  intro i h1 h2
  have := h i h1
  rw [vth_eq h1, vth_eq h2] at this
  exact this
/-- what a call answers that only reads -/
def Tells (w : World) (b : Bool) (e : Ending) (w' : World) : Prop := e = .returned (.bool b) ∧ Below w.heap.size w w'

theorem below_drewN {B : Nat} {w w1 : World} (n : Nat) (h : Below B w w1) : Below B w (w1.drewN n) := ⟨h.os, h.tape, h.output, h.size, h.block⟩
set_option maxRecDepth 100000 in
theorem samevers (a : Option Addr) (c : Nat) (l : List Vr) (b : Option Addr) (d : Nat) (k : List Vr) (w : World) (h1 : VL w a l.length l) (h2 : VL w b k.length k) :
    Calls Try.prog 42 #[.slice a l.length c, .slice b k.length d] w (Tells w (decide (l = k))) := by
  by_cases hn : l.length = k.length
  · have hn9 := h1.2.1
    have hx := Lib.hid (fun h => vth_ext (l := l) (k := k) hn h)
    have hy : Hid (l = k → ∀ i, vth l i = vth k i) := Lib.hid (fun h i => by rw [h])
    rw [← hn] at h2
    replace h1 := Lib.hid h1
    replace h2 := Lib.hid h2
    obtain ⟨r, hr⟩ : ∃ r, decide (l = k) = r := ⟨_, rfl⟩
    rw [hr, ← hn]
    replace hr := Lib.hid hr
    replace hn := Lib.hid hn
    go_enter Try.func42, Try.ntmps42
    go_wp2
    go_loopw [5] (fun i wr => ∃ j : Nat, j ≤ l.length ∧ i = .int .i64 j ∧ Hid (∀ i, i < j → vth l i = vth k i) ∧ Hid (Below w.heap.size w wr)) (fun i _ => l.length - (intOf i).toNat)
    case atStart => exact ⟨0, by omega, rfl, Lib.hid (fun i hi => by omega), Lib.hid (Below.refl _ _)⟩
    case round =>
      obtain ⟨j, hj, rfl, hs, hB⟩ := hrel
      by_cases hlt : j < l.length
      · obtain ⟨p, o, rfl, hp, hc⟩ := (h1.out.below hB.out).at hlt
        obtain ⟨p', o', rfl, hp', hc'⟩ := (h2.out.below hB.out).at hlt
        obtain ⟨c0, c1, c2, c3, c4, c5⟩ := hc
        obtain ⟨d0, d1, d2, d3, d4, d5⟩ := hc'
        have hq := nql_ver (vth l j) (vth k j)
        by_cases he : vth l j = vth k j
        · have hs' := Lib.hid (show ∀ i, i < j + 1 → vth l i = vth k i from fun i hi => by
            by_cases hij : i = j
            · rw [hij]; exact he
            · exact hs.out i (by omega))
          rw [decide_eq_true he] at hq
          clear he hs
          generalize vth l j = x at *
          generalize vth k j = y at *
          go_wp2
          go_quiet (fail)
          have hB' := Lib.hid (below_drewN nq hB.out)
          clear hB hq
          go_wp2
          go_roundw
          case rel => exact ⟨j + 1, by omega, by go_num, hs', hB'⟩
          case measure => simp [intOf]; omega
        · have hf : r = false := by rw [← hr.out]; exact decide_eq_false (fun h => he (hy.out h j))
          subst hf
          rw [decide_eq_false he] at hq
          clear he hs
          generalize vth l j = x at *
          generalize vth k j = y at *
          go_wp2
          go_quiet (fail)
          have hB' := Lib.hid (below_drewN nq hB.out)
          clear hB hq
          go_wp2
          go_ret
          exact ⟨rfl, hB'.out⟩
      · obtain rfl : j = l.length := by omega
        have ht : r = true := by rw [← hr.out]; exact decide_eq_true (hx.out hs.out)
        subst ht
        clear hs
        go_wp2
        go_ret
        exact ⟨rfl, hB.out⟩
  · have hne : ((l.length : Int) != (k.length : Int)) = true := by rw [bne_iff_ne]; omega
    rw [decide_eq_false (fun h => hn (by rw [h]))]
    clear hn h1 h2
    go_enter Try.func42, Try.ntmps42
    go_wp2
    go_ret
    exact ⟨rfl, Below.refl _ _⟩
end Go.Proofs.Ytkbhmeajgmecoaa.wirS
