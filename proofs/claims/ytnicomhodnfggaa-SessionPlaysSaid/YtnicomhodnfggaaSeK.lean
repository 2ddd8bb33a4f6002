/- The program's Look, Writes, end, Close. -/
import Derived.Test.YtnicomhodnfggaaSeB
set_option linter.unusedVariables false
set_option linter.unusedSimpArgs false
set_option maxRecDepth 100000
namespace Go.Proofs.Ytnicomhodnfggaa.seK
open Go.ChangeShapes Go.WideShapes Go.ChangeAt Go.RowKit Go.Deep
open opV chnM gen chnA chnR chnE seM seI ordC seL seN seB

abbrev v0 : Ver := ⟨{ data := #[] }, { data := #[] }, false, 0, 0, 0⟩
section
variable {col : Nat → Nat} {c p : Nat} {S : Ss}
set_option maxHeartbeats 1000000 in
theorem look_at (w : World) (h : SesAt col c w p S) (hok : S.ok) (k : ByteArray) (hk : k.size ≤ 281474976710656) : Calls Try.prog 17 #[.pointer (some ⟨p, 0, none⟩), .string k] w fun e w' =>
    e = .returned (.tuple #[vv (lkV S k), .int .i64 (lkN S k)]) ∧ Below w.heap.size w w' := by
  obtain ⟨W, hW⟩ : ∃ W, w.alloc (.cells #[.string { data := #[] }, .string { data := #[] }, .bool false, .int .u64 0, .int .i64 0, .int .i64 0] 41) = W := ⟨_, rfl⟩
  have hP : R6 w.heap.size v0 W := by rw [← hW]; exact R6.new w v0
  have hB : Below w.heap.size w W := by rw [← hW]; exact al0 _ _
  have hO := Lib.hid (fun w' (hB : Below w.heap.size w w') => open_at w' (h.below hB))
  have hF := Lib.hid (fun w' (hB : Below w.heap.size w w') => find_at w' (h.below hB) hok k)
  replace hW := Lib.hid hW
  have hend := Lib.hid (fun w' v (hB : Below w.heap.size w w') => put6_below hB (Nat.le_refl _) v)
  cases hop : S.op with
  | false =>
    have e1 : lkV S k = v0 := by unfold lkV; rw [if_pos hop]; rfl
    have e2 : lkN S k = 0 := by unfold lkN; rw [if_pos hop]
    rw [e1, e2]
    rw [hop] at hO
    have hfin := Lib.hid (hend.out W v0 hB)
    obtain ⟨f0, f1, f2, f3, f4, f5⟩ := hP.fz
    obtain ⟨b0, b1, b2, b3, b4, b5⟩ := hP.v6
    have hlt := hP.lt
    clear h hok hF hend e1 e2
    go_enter Try.func17, Try.ntmps17
    go_wp2_with (fail)
    rw [hW.out]
    with_reducible refine (hO.out _ hB).mono ?_
    rintro e w1 ⟨rfl, rfl⟩
    clear hB
    go_wp2
    exact bodyPost_ret (v := .tuple #[vv v0, .int .i64 0]) (by simp [results, Try.results17, go_sem, b0, b1, b2, b3, b4, b5, hlt]) rfl ⟨rfl, hfin.out⟩
  | true =>
    rw [hop] at hO
    obtain ⟨A, cw, mb, n, D, hs, hcr, hcn⟩ := h
    have hcl := Lib.hid (fun w' (hB : Below w.heap.size w w') => (hs.below hB).cells)
    have hlk := Lib.hid (fun w' (hB : Below w.heap.size w w') => cr_look hcr (hs.below hB).mp k (by unfold maxLen; omega))
    cases hi : is S.ws k with
    | true =>
      rw [hi] at hF
      obtain ⟨hp1, hp2⟩ := hok.up.is_at.1 hi
      have e1 : lkV S k = nt S.ws (pos S.ws k) := by unfold lkV; rw [if_neg (by rw [hop]; simp), hok.up.found, if_pos ⟨hp1, hp2⟩]
      have e2 : lkN S k = 1 := by unfold lkN; rw [if_neg (by rw [hop]; simp), hi]; rfl
      rw [e1, e2]
      have hat := Lib.hid (fun w' (hB : Below w.heap.size w w') => ((hs.below hB).ro.hv (by have := hok.le; omega)).at hp1)
      have hlI : ((pos S.ws k : Nat) : Int) < (S.ws.length : Int) := by omega
      have hl9 : S.ws.length ≤ 8 := hok.le
      have hPP := Lib.hid hP
      clear hok hlk hcr hcn hi hp2 hP
      generalize nt S.ws (pos S.ws k) = v at *
      generalize pos S.ws k = q at *
      generalize S.ws.length = nl at *
      go_enter Try.func17, Try.ntmps17
      go_wp2_with (fail)
      rw [hW.out]
      with_reducible refine (hO.out _ hB).mono ?_
      rintro e w1 ⟨rfl, rfl⟩
      go_wp2_with (fail)
      with_reducible refine (hF.out _ hB).mono ?_
      rintro e w2 ⟨rfl, hB2⟩
      have hB3 := trans0 hB hB2
      have hP2 := R6.below hPP.out hB2
      obtain ⟨pb, po, hA, hpb, hc⟩ := hat.out _ hB3
      obtain ⟨k0, k1, k2, k3, k4⟩ := hcl.out _ hB3
      rw [hA] at k3
      clear hA
      obtain ⟨c0, c1, c2, c3, c4, c5⟩ := hc
      obtain ⟨f0, f1, f2, f3, f4, f5⟩ := hP2.fz
      obtain ⟨b0, b1, b2, b3, b4, b5⟩ := hP2.v6
      have hlt := hP2.lt
      have hfin := Lib.hid (hend.out w2 v hB3)
      clear hB hB2 hB3 hcl hend hO hF hat
      go_wp2
      exact bodyPost_ret (v := .tuple #[vv v, .int .i64 1]) (by simp [results, Try.results17, go_sem, b0, b1, b2, b3, b4, b5, hlt]) rfl ⟨rfl, hfin.out⟩
    | false =>
      rw [hi] at hF
      have hfn : fnd S.ws k = none := by
        cases hf : fnd S.ws k with
        | none => rfl
        | some v => unfold is at hi; rw [hf] at hi; cases hi
      obtain ⟨v, hv⟩ : ∃ v, (fnd S.ca k).getD default = v := ⟨_, rfl⟩
      have e1 : lkV S k = v := by unfold lkV; rw [if_neg (by rw [hop]; simp), hfn]; exact hv
      have e2 : lkN S k = if is S.ca k then 2 else 0 := by unfold lkN; rw [if_neg (by rw [hop]; simp), hi]; rfl
      have e3 : is S.ca k = false → v = v0 := by
        intro h9
        unfold is at h9
        cases hf : fnd S.ca k with
        | none => rw [hf] at hv; rw [← hv]; rfl
        | some u => rw [hf] at h9; cases h9
      rw [e1, e2]
      rw [hv] at hlk
      have hPP := Lib.hid hP
      have hR := Lib.hid (fun w' => R6.new w' v0)
      have hA0 := Lib.hid (fun (w' : World) o (hB : Below w.heap.size w w') => hB.alloc hB.size o)
      have hA1 := Lib.hid (fun (w' : World) o => al0 w' o)
      clear hok hcr hcn hi e1 e2 hP hfn hv
      cases hc : is S.ca k with
      | true =>
        rw [hc] at hlk
        clear e3
        rw [if_pos rfl]
        go_enter Try.func17, Try.ntmps17
        go_wp2_with (fail)
        rw [hW.out]
        with_reducible refine (hO.out _ hB).mono ?_
        rintro e w1 ⟨rfl, rfl⟩
        go_wp2_with (fail)
        with_reducible refine (hF.out _ hB).mono ?_
        rintro e w2 ⟨rfl, hB2⟩
        have hB3 := trans0 hB hB2
        have hP2 := R6.below hPP.out hB2
        obtain ⟨k0, k1, k2, k3, k4⟩ := hcl.out _ hB3
        have hl2 := hlk.out _ hB3
        obtain ⟨f0, f1, f2, f3, f4, f5⟩ := hP2.fz
        obtain ⟨b0, b1, b2, b3, b4, b5⟩ := hP2.v6
        have hlt := hP2.lt
        obtain ⟨W3, hW3⟩ : ∃ W3, w2.alloc (.cells #[.string v.key, .string v.val, .bool v.gone, .int .u64 v.ts, .int .i64 v.dc, .int .i64 v.tx] 41) = W3 := ⟨_, rfl⟩
        have hB4 : Below w2.heap.size w2 W3 := by rw [← hW3]; exact al0 w2 _
        have hP3 := R6.below hP2 hB4
        have hQ3 : R6 w2.heap.size v W3 := by rw [← hW3]; exact R6.new w2 v
        have hfin := Lib.hid (hend.out W3 v (trans0 hB3 hB4))
        replace hW3 := Lib.hid hW3
        clear hB hB2 hB3 hcl hend hO hF hlk hB4
        go_upto_region 7 with (fail)
        rw [hW3.out]
        clear k0 k1 k2 k3 k4 hl2 f0 f1 f2 f3 f4 f5 b0 b1 b2 b3 b4 b5 hlt
        obtain ⟨f0, f1, f2, f3, f4, f5⟩ := hP3.fz
        obtain ⟨b0, b1, b2, b3, b4, b5⟩ := hP3.v6
        obtain ⟨d0, d1, d2, d3, d4, d5⟩ := hQ3.v6
        have hlt := hP3.lt
        generalize w2.heap.size = m2 at *
        go_wp2
        exact bodyPost_ret (v := .tuple #[vv v, .int .i64 2]) (by simp [results, Try.results17, go_sem, b0, b1, b2, b3, b4, b5, hlt]) rfl ⟨rfl, hfin.out⟩
      | false =>
        rw [hc] at hlk
        have e4 := e3 hc
        subst e4
        clear e3
        rw [if_neg (by simp)]
        go_enter Try.func17, Try.ntmps17
        go_wp2_with (fail)
        rw [hW.out]
        with_reducible refine (hO.out _ hB).mono ?_
        rintro e w1 ⟨rfl, rfl⟩
        go_wp2_with (fail)
        with_reducible refine (hF.out _ hB).mono ?_
        rintro e w2 ⟨rfl, hB2⟩
        have hB3 := trans0 hB hB2
        have hP2 := R6.below hPP.out hB2
        obtain ⟨k0, k1, k2, k3, k4⟩ := hcl.out _ hB3
        have hl2 := hlk.out _ hB3
        obtain ⟨f0, f1, f2, f3, f4, f5⟩ := hP2.fz
        obtain ⟨b0, b1, b2, b3, b4, b5⟩ := hP2.v6
        have hlt := hP2.lt
        obtain ⟨W3, hW3⟩ : ∃ W3, w2.alloc (.cells #[.string { data := #[] }, .string { data := #[] }, .bool false, .int .u64 0, .int .i64 0, .int .i64 0] 41) = W3 := ⟨_, rfl⟩
        have hB4 : Below w2.heap.size w2 W3 := by rw [← hW3]; exact al0 w2 _
        have hP3 := R6.below hP2 hB4
        have hQ3 : R6 w2.heap.size v0 W3 := by rw [← hW3]; exact R6.new w2 v0
        have hfin := Lib.hid (hend.out W3 v0 (trans0 hB3 hB4))
        replace hW3 := Lib.hid hW3
        clear hB hB2 hB3 hcl hend hO hF hlk hB4
        go_upto_region 7 with (fail)
        rw [hW3.out]
        clear k0 k1 k2 k3 k4 hl2 f0 f1 f2 f3 f4 f5 b0 b1 b2 b3 b4 b5 hlt
        obtain ⟨f0, f1, f2, f3, f4, f5⟩ := hP3.fz
        obtain ⟨b0, b1, b2, b3, b4, b5⟩ := hP3.v6
        obtain ⟨d0, d1, d2, d3, d4, d5⟩ := hQ3.v6
        have hlt := hP3.lt
        generalize w2.heap.size = m2 at *
        go_wp2
        exact bodyPost_ret (v := .tuple #[vv v0, .int .i64 0]) (by simp [results, Try.results17, go_sem, b0, b1, b2, b3, b4, b5, hlt]) rfl ⟨rfl, hfin.out⟩
end
end Go.Proofs.Ytnicomhodnfggaa.seK
