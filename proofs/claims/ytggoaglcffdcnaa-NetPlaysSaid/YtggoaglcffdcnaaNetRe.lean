/- The document's Spoil, whole. -/
import Derived.Test.YtggoaglcffdcnaaNetRd
namespace Go.Proofs.Ytggoaglcffdcnaa.netRe
open Go.ChangeShapes Go.WideShapes Go.ChangeAt Go.RowKit Go.Deep
open numM rowA byt numA numB numC netA netB netC netE netG netS netL netP netQ netR netRa netRb netRc netRd

section
variable {col : Nat → Nat} {c : Nat} {w w1 w2 w3 wa : World} {q : Nat} {d : Dn} {f t : Int}
set_option maxRecDepth 100000 in
set_option maxHeartbeats 2000000 in
theorem dspoil_ok {i j : Nat} {x : Dk} (a : Int) (y : Nat) (w : World) (h : DocAt col c w q d) (hw : IsWay f t) (hj : idx f t d.row i = some j) (hx : d.row[j]? = some x) (hi9 : (i : Int) ≤ 9223372036854775807) (hy : y < 256) :
    Calls Try.prog 31 #[.pointer (some ⟨q, 0, none⟩), .int .i64 f, .int .i64 t, .int .i64 i, .int .i64 a, .int .u8 y] w (DDid col c q (spE x.pk a y) (spD d j x a y) w) := by
  have hfi := Lib.hid (find_ok w h hw hj hi9)
  have hst := Lib.hid (fun (E : Nat) hE h0 w' hB => dspoil_stay h (j := j) (x := x) (a := a) (y := y) (E := E) (w' := w') hE h0 hB)
  obtain ⟨v, ds, m, hI, hk, hm, rfl, hln⟩ := doc_open h hx
  obtain ⟨g, cp, rfl, hgl, c0, c1, c2, c3, hgq, hcp, hcp9⟩ := hI.at_ hm
  obtain ⟨k0, -, kf, -, -⟩ := hI.cells
  have hqlt := hI.row.lt
  have hmem := List.mem_of_getElem? hm
  have hown := hI.byt m hmem
  have hbl := hI.bl m hmem
  have hle := hI.le
  have hjl := (List.getElem?_eq_some_iff.1 hm).1
  have hjI : (j : Int) < (ds.length : Int) := by omega
  have hjN : (0 : Int) ≤ (j : Int) := by omega
  obtain ⟨w1, hw1⟩ : ∃ w1, w.alloc (.cells #[.int .i64 m.k.f, .int .i64 m.k.t, .slice m.A m.k.b.length m.c, .bool m.k.sp] 66) = w1 := ⟨_, rfl⟩
  have hB1 : Below w.heap.size w w1 := by rw [← hw1]; exact al0 _ _
  have hb1 := box4 w (.int .i64 m.k.f) (.int .i64 m.k.t) (.slice m.A m.k.b.length m.c) (.bool m.k.sp)
  rw [hw1] at hb1
  obtain ⟨d0, d1, d2, d3⟩ := row4_cells hb1
  have hs1 : w1.heap.size = w.heap.size + 1 := by rw [← hw1]; simp
  by_cases a1 : a < 0
  · have hS := Lib.hid (hst.out 1 (if_pos (.inl a1)) (by decide) w1 hB1)
    clear hI hk hm hln h hown hst hB1 hj hx
    generalize ds.length = n at *
    go_enter Try.func31, Try.ntmps31
    go_wp2_with (go_at_call 40; ((with_reducible refine (hfi.out).mono ?_); rintro e w' ⟨rfl, rfl⟩))
    go_ret
    exact hS.out
  by_cases a2 : (m.k.b.length : Int) ≤ a
  · have hS := Lib.hid (hst.out 1 (if_pos (.inr (.inl a2))) (by decide) w1 hB1)
    clear hI hk hm hln h hown hst hB1 hj hx
    generalize ds.length = n at *
    go_enter Try.func31, Try.ntmps31
    go_wp2_with (go_at_call 40; ((with_reducible refine (hfi.out).mono ?_); rintro e w' ⟨rfl, rfl⟩))
    go_ret
    exact hS.out
  by_cases a3 : (y : Int) = 0
  · have hS := Lib.hid (hst.out 1 (if_pos (.inr (.inr a3))) (by decide) w1 hB1)
    have a3' : ((y : Int) == 0) = true := by rw [beq_iff_eq]; exact a3
    clear hI hk hm hln h hown hst hB1 hj hx a3
    generalize ds.length = n at *
    go_enter Try.func31, Try.ntmps31
    go_wp2_with (go_at_call 40; ((with_reducible refine (hfi.out).mono ?_); rintro e w' ⟨rfl, rfl⟩))
    go_ret
    exact hS.out
  have hno : ¬ (a < 0 ∨ (m.k.b.length : Int) ≤ a ∨ (y : Int) = 0) := by omega
  have a3' : ((y : Int) == 0) = false := by rw [beq_eq_false_iff_ne]; exact a3
  by_cases a4 : m.k.sp = true
  · have hS := Lib.hid (hst.out 8 ((if_neg hno).trans (if_pos a4)) (by decide) w1 hB1)
    rw [a4] at d3 c3 hw1
    clear hI hk hm hln h hown hst hB1 hj hx a3 hno a4 hb1
    generalize ds.length = n at *
    go_enter Try.func31, Try.ntmps31
    go_wp2_with (go_at_call 40; ((with_reducible refine (hfi.out).mono ?_); rintro e w' ⟨rfl, rfl⟩))
    go_ret
    exact hS.out
  · have a4' : m.k.sp = false := by cases e : m.k.sp <;> simp_all
    obtain ⟨p, rfl⟩ : ∃ p : Nat, a = p := ⟨a.toNat, by omega⟩
    have e0 : spE m.k.pk p y = 0 := (if_neg hno).trans (if_neg a4)
    have e1 : spD d j m.k p y = setD d j ⟨m.k.f, m.k.t, turned m.k.b p y, true⟩ := by
      unfold spD
      rw [if_pos e0]
      rfl
    rw [e0, e1]
    exact dspoil_good p y w h hw hj hx hi9 hy (by omega) a3 a4'
end
end Go.Proofs.Ytggoaglcffdcnaa.netRe
