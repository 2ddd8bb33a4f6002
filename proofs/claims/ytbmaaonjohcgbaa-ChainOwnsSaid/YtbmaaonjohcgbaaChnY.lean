/- The statement ChainOwns: rows of the call's own are painted over; what was handed in stays. -/
import Derived.Test.YtbmaaonjohcgbaaChnQ
import Derived.Deep.RegionLaw
set_option linter.unusedVariables false
namespace Go.Proofs.Ytbmaaonjohcgbaa.chnY
open Go.ChangeShapes Go.WideShapes Go.ChangeAt Go.RowKit Go.Deep
open opV chnM gen chnA chnB chnR chnC chnD chnE chnF chnG chnI chnJ chnK chnL chnN chnO chnOg chnP chnQ

/-- a row of the call's own whose versions' third cells are flags -/
def Kb (base : Nat) (W : World) (A : Option Addr) (n : Nat) : Prop := n ≤ 1000 ∧ (n = 0 ∨ ∃ g, A = some ⟨g, 0, none⟩ ∧ base ≤ g ∧ ∀ j, j < n → (∃ t, W.cell? ⟨g, j * 6 + 2, none⟩ = some (.bool t)) ∧ W.frozen? ⟨g, j * 6 + 2, none⟩ = false)
theorem kb_own {w : World} {base c : Nat} {A : Option Addr} {l : List Ver} (h : GV w base A c l) (hn : l.length ≤ 1000) : Kb base w A l.length := by
  refine ⟨hn, ?_⟩
  have hv := h.hv (by omega)
  rcases h.2 with ⟨e, h0⟩ | ⟨g, cap, cur, e, hb, hg, _⟩
  · exact .inl h0
  · simp only [Value.slice.injEq] at e
    obtain ⟨rfl, -, rfl⟩ := e
    by_cases h0 : l.length = 0
    · exact .inl h0
    · refine .inr ⟨g, rfl, hb, fun j hj => ⟨?_, frozen_of_row w g _ cur _ hg⟩⟩
      obtain ⟨b, off, e1, _, hc⟩ := hv.at hj
      simp only [Option.some.injEq, Addr.mk.injEq, and_true] at e1
      obtain ⟨rfl, rfl⟩ := e1
      have := hc.2.2.1
      rw [Nat.zero_add] at this
      exact ⟨_, this⟩
theorem Kb.below {base n : Nat} {A : Option Addr} {W W' : World} (h : Kb base W A n) (hB : Below W.heap.size W W') : Kb base W' A n := by
  refine ⟨h.1, h.2.imp id ?_⟩
  rintro ⟨g, e, hb, hc⟩
  refine ⟨g, e, hb, fun j hj => ?_⟩
  obtain ⟨⟨t, hcv⟩, hf⟩ := hc j hj
  exact ⟨⟨t, keep_cell hB hcv⟩, keep_frozen hB hcv hf⟩
theorem Kb.more {base base' n : Nat} {A : Option Addr} {W : World} (h : Kb base W A n) (hb : base' ≤ base) : Kb base' W A n :=
  ⟨h.1, h.2.imp id fun ⟨g, e, h1, h2⟩ => ⟨g, e, by omega, h2⟩⟩
theorem Kb.set {base n g o : Nat} {A : Option Addr} {W : World} {t t' : Bool} (h : Kb base W A n) (hu : W.cell? ⟨g, o, none⟩ = some (.bool t)) : Kb base (W.setCell ⟨g, o, none⟩ (.bool t')) A n := by
  refine ⟨h.1, h.2.imp id ?_⟩
  rintro ⟨g', e, hb, hc⟩
  refine ⟨g', e, hb, fun j hj => ?_⟩
  obtain ⟨⟨t2, hcv⟩, hf⟩ := hc j hj
  refine ⟨?_, by rw [World.frozen?_setCell]; exact hf⟩
  by_cases he : (⟨g, o, none⟩ : Addr) = ⟨g', j * 6 + 2, none⟩
  · injection he with e1 e2
    subst e1 e2
    exact ⟨t', World.cell?_setCell_same' _ _ _ (by rw [hu]; rfl)⟩
  · exact ⟨t2, by rw [World.cell?_setCell_other _ _ _ _ he]; exact hcv⟩
theorem cell_apart {W : World} {g o : Nat} {t : Bool} {u' : Value} (hu : W.cell? ⟨g, o, none⟩ = some (.bool t)) {b p : Nat} {A : Option Addr} {n c : Nat} (h : W.cell? ⟨b, p, none⟩ = some (.slice A n c)) : (W.setCell ⟨g, o, none⟩ u').cell? ⟨b, p, none⟩ = some (.slice A n c) := by
  rw [World.cell?_setCell_other _ _ _ _ (fun e => by rw [← e, hu] at h; cases h)]
  exact h
/-- the rows that are painted, and the array in which they lie -/
structure QB (base ab : Nat) (D : Nat → Option Addr) (n c : Nat → Nat) (w0 W : World) : Prop where
  cell : ∀ i, i < 3 → W.cell? ⟨ab, i, none⟩ = some (.slice (D i) (n i) (c i))
  rb : ∀ i, i < 3 → Kb base W (D i) (n i)
  bel : Below base w0 W
section
variable {base ab g o : Nat} {D : Nat → Option Addr} {n c : Nat → Nat} {w0 W W' : World} {t t' : Bool}
theorem QB.set (h : QB base ab D n c w0 W) (hu : W.cell? ⟨g, o, none⟩ = some (.bool t)) (hg : base ≤ g) : QB base ab D n c w0 (W.setCell ⟨g, o, none⟩ (.bool t')) :=
  ⟨fun i hi => cell_apart hu (h.cell i hi), fun i hi => (h.rb i hi).set hu, h.bel.setCell (p := ⟨g, o, none⟩) hg _⟩
theorem QB.drew (h : QB base ab D n c w0 W) : QB base ab D n c w0 W.drew := ⟨h.cell, h.rb, h.bel.drew⟩
end
def sel3 {α : Type} (a b c : α) (i : Nat) : α := if i = 0 then a else if i = 1 then b else c
theorem QB.new {base : Nat} {w0 w : World} {E F G : Option Addr} {ea eb ec na nb nc : Nat} (t : TypeId) (ra : Kb base w E na) (rb : Kb base w F nb) (rc : Kb base w G nc) (hB : Below base w0 w) (hb : base ≤ w.heap.size) :
    QB base w.heap.size (sel3 E F G) (sel3 na nb nc) (sel3 ea eb ec) w0 (w.alloc (.cells #[.slice E na ea, .slice F nb eb, .slice G nc ec] t)) := by
  have hA := al0 w (.cells #[.slice E na ea, .slice F nb eb, .slice G nc ec] t)
  have h := fun (j : Nat) (v : Value) (hv : (#[.slice E na ea, .slice F nb eb, .slice G nc ec] : Array Value)[j]? = some v) => (cell_of_row _ _ j _ t (0, 0) (heap_alloc_new w (.cells #[.slice E na ea, .slice F nb eb, .slice G nc ec] t))).trans hv
  refine ⟨fun i hi => ?_, fun i hi => ?_, hB.alloc hb _⟩
  · have : i = 0 ∨ i = 1 ∨ i = 2 := by omega
    rcases this with rfl | rfl | rfl
    · exact h 0 _ rfl
    · exact h 1 _ rfl
    · exact h 2 _ rfl
  · have : i = 0 ∨ i = 1 ∨ i = 2 := by omega
    rcases this with rfl | rfl | rfl
    · exact ra.below hA
    · exact rb.below hA
    · exact rc.below hA
set_option maxRecDepth 100000 in
theorem owns_big (A : Option Addr) (c : Nat) (l : List Ver) (v : Ver) (f : Int) (w : World) (h9 : 120 < l.length) :
    Calls Try.prog 11 #[.slice A l.length c, .agg #[.string v.key, .string v.val, .bool v.gone, .int .u64 v.ts, .int .i64 v.dc, .int .i64 v.tx], .int .u64 f] w fun e w' => e = .returned (.bool true) ∧ Below w.heap.size w w' := by
  have hg := Lib.hid (fun w => great_any A c l w)
  rw [decide_eq_true h9] at hg
  clear h9
  have hB0 := al0 w (.cells #[.string v.key, .string v.val, .bool v.gone, .int .u64 v.ts, .int .i64 v.dc, .int .i64 v.tx] 25)
  obtain ⟨W, hW⟩ : ∃ W, w.alloc (.cells #[.string v.key, .string v.val, .bool v.gone, .int .u64 v.ts, .int .i64 v.dc, .int .i64 v.tx] 25) = W := ⟨_, rfl⟩
  rw [hW] at hB0
  replace hB0 := Lib.hid hB0
  replace hW := Lib.hid hW
  go_enter Try.func11, Try.ntmps11
  go_wp2_with (fail)
  rw [hW.out]
  with_reducible refine (hg.out W).mono ?_
  rintro e w' ⟨rfl, rfl⟩
  go_wp2_with (fail)
  with_reducible refine (awake_any W).mono ?_
  rintro e w' ⟨rfl, hB⟩
  have hfin := Lib.hid (trans0 hB0.out hB)
  clear hB
  go_wp2
  go_ret
  exact ⟨rfl, hfin.out⟩
set_option maxRecDepth 100000 in
set_option maxHeartbeats 4000000 in
theorem owns_small (A : Option Addr) (c : Nat) (l : List Ver) (v : Ver) (f : Int) (w : World) (h : HV w A c l) (h9 : ¬ 120 < l.length) :
    Calls Try.prog 11 #[.slice A l.length c, .agg #[.string v.key, .string v.val, .bool v.gone, .int .u64 v.ts, .int .i64 v.dc, .int .i64 v.tx], .int .u64 f] w fun e w' => e = .returned (.bool true) ∧ Below w.heap.size w w' := by
  obtain ⟨iV, hiV, hzV0, hzV1, hzV2⟩ := info_parts infoV
  have hg := Lib.hid (fun w => great_any A c l w)
  rw [decide_eq_false h9] at hg
  have hB0 := al0 w (.cells #[.string v.key, .string v.val, .bool v.gone, .int .u64 v.ts, .int .i64 v.dc, .int .i64 v.tx] 25)
  have hv0 := V6.new w v 25
  obtain ⟨W, hW⟩ : ∃ W, w.alloc (.cells #[.string v.key, .string v.val, .bool v.gone, .int .u64 v.ts, .int .i64 v.dc, .int .i64 v.tx] 25) = W := ⟨_, rfl⟩
  rw [hW] at hB0 hv0
  have hvW := h.below hB0
  have hal := al0 W (.cells #[] 25)
  have hst := Lib.hid (hvW.below hal).stand
  have hone := Lib.hid (fl_all l)
  have hfl := Lib.hid (fl_len l)
  have hls : Hid (0 + l.length ≤ maxLen ∧ (0 + l.length) * 64 ≤ 140737488355328) := Lib.hid ⟨by unfold maxLen; omega, by omega⟩
  have hemp := Lib.hid (emp_own W W.heap.size (Nat.le_refl _))
  have hls2 := Lib.hid hal.size
  have hcop := Lib.hid (fun (A9 : Option Addr) (c9 : Nat) (w9 : World) (ho : w9.ownsRow W.heap.size 25 6 (.slice A9 l.length c9) l.length (fl l)) (hg : (W.alloc (.cells #[] 25)).grownBy w9 (Value.slice (some ⟨W.heap.size, 0, none⟩) 0 0).ownBlock) => copied hal (Nat.le_refl _) ho hg)
  have hput := Lib.hid (fun X (hX : Below W.heap.size W X) => put_any A c l v X (hvW.below hX) (by omega))
  have htri := Lib.hid (fun X (hX : Below W.heap.size W X) => trim_any A c l f X (hvW.below hX))
  have hjoi := Lib.hid (fun X (hX : Below W.heap.size W X) B d (hv : HV X B d [v]) => join_any A c l B d [v] X (hvW.below hX) hv (by simp; omega))
  have hl1 := putL_len l v
  have hl2 := trm_le l f
  have hl3 := joiL_len l [v]
  simp only [List.length_cons, List.length_nil] at hl3
  have hl : Hid ((putL l v).length ≤ 1000 ∧ (trm l f).length ≤ 1000 ∧ (joiL l [v]).length ≤ 1000 ∧ l.length * 64 ≤ 140737488355328) := Lib.hid ⟨by omega, by omega, by omega, by omega⟩
  replace hvW := Lib.hid hvW
  replace hv0 := Lib.hid hv0
  replace hB0 := Lib.hid hB0
  replace hW := Lib.hid hW
  clear h h9 hal hl1 hl2 hl3
  go_enter Try.func11, Try.ntmps11
  go_wp2_with (fail)
  rw [hW.out]
  with_reducible refine (hg.out W).mono ?_
  rintro e w' ⟨rfl, rfl⟩
  clear hg
  generalize putE l v = E1 at *
  generalize putL l v = ra at *
  generalize l.length - (trm l f).length = E2 at *
  generalize trm l f = rb at *
  generalize joiE l [v] = E3 at *
  generalize joiL l [v] = rc at *
  obtain ⟨b0, b1, b2, b3, b4, b5⟩ := hv0.out
  go_wp2_with (first | (at_builtin; refine wpList_gen rfl (.tmp 20) (.tmp 21) 22 rfl W.heap.size 25 iV _ 6 64 Try.underlying22 hiV hzV0 hzV1 hzV2 rfl (by decide) _ 0 [] (by rfl) hemp.out A l.length c (fl l) (by rfl) hfl.out hst.out hone.out hls.out.1 hls.out.2 hls2.out ?_; intro A3 c3 w3 hr3 hg3 hat3; simp only [Nat.zero_add, List.nil_append] at hr3 ⊢; obtain ⟨hG3, hB3⟩ := hcop.out A3 c3 w3 hr3 hg3; clear b0 b1 b2 b3 b4 b5; obtain ⟨b0, b1, b2, b3, b4, b5⟩ := hv0.out.below hB3; have hG3 := Lib.hid hG3; have hB3 := Lib.hid hB3; clear hr3 hg3 hat3) | fail)
  clear hemp hcop hls hls2 hfl hone hst hiV hzV0 hzV1 hzV2
  with_reducible refine (hput.out w3 hB3.out).mono ?_
  rintro e w4 ⟨A4, c4, rfl, hG4, hB4⟩
  have hwas := Lib.hid (hG3.out.hv hl.out.2.2.2)
  have hk4 := Lib.hid (kb_own hG4 hl.out.1)
  have hb4 := Lib.hid (hv0.out.below (trans0 hB3.out hB4))
  replace hB4 := Lib.hid hB4
  clear hG4 hput b0 b1 b2 b3 b4 b5 hG3
  go_wp2_with (fail)
  with_reducible refine (htri.out w4 (trans0 hB3.out hB4.out)).mono ?_
  rintro e w5 ⟨A5, c5, rfl, hG5, hB5⟩
  have hk45 := Lib.hid (hk4.out.below hB5)
  have hk5 := Lib.hid ((kb_own hG5 hl.out.2.1).more hB4.out.size)
  have hb5 := hb4.out.below hB5
  have hB5' := Lib.hid (trans0 hB4.out hB5)
  clear hG5 hk4 htri hb4 hB5
  obtain ⟨b0, b1, b2, b3, b4, b5⟩ := hb5
  have hal := al0 w5 (.cells #[.string v.key, .string v.val, .bool v.gone, .int .u64 v.ts, .int .i64 v.dc, .int .i64 v.tx] 25)
  have hon := HV.one w5 v 25
  obtain ⟨W6, hW6⟩ : ∃ W6, w5.alloc (.cells #[.string v.key, .string v.val, .bool v.gone, .int .u64 v.ts, .int .i64 v.dc, .int .i64 v.tx] 25) = W6 := ⟨_, rfl⟩
  rw [hW6] at hal hon
  have hB6 := Lib.hid (trans0 hB5'.out hal)
  have hk46 := Lib.hid (hk45.out.below hal)
  have hk56 := Lib.hid (hk5.out.below hal)
  have hjo : Hid (Calls Try.prog 21 #[.slice A l.length c, .slice (some ⟨w5.heap.size, 0, none⟩) 1 1] W6 (TV E3 rc W6)) := Lib.hid (hjoi.out W6 (trans0 hB3.out hB6.out) _ _ hon)
  replace hW6 := Lib.hid hW6
  clear hal hon hk45 hk5 hjoi
  go_wp2_with (fail)
  rw [hW6.out]
  with_reducible refine hjo.out.mono ?_
  rintro e w7 ⟨A7, c7, rfl, hG7, hB7⟩
  have hk7 := (kb_own hG7 hl.out.2.2.1).more hB6.out.size
  have hk47 := hk46.out.below hB7
  have hk57 := hk56.out.below hB7
  have hB7' := trans0 hB6.out hB7
  have hQ0 := QB.new (ea := c4) (eb := c5) (ec := c7) 22 hk47 hk57 hk7 hB7' hB7'.size
  obtain ⟨w8, hw8⟩ : ∃ w8, w7.alloc (.cells #[.slice A4 ra.length c4, .slice A5 rb.length c5, .slice A7 rc.length c7] 22) = w8 := ⟨_, rfl⟩
  rw [hw8] at hQ0
  replace hQ0 := Lib.hid hQ0
  replace hw8 := Lib.hid hw8
  clear hG7 hB7 hk7 hk47 hk57 hB7' hjo b0 b1 b2 b3 b4 b5 hk46 hk56
  go_wp2
  rw [hw8.out]
  clear hw8
  generalize w7.heap.size = ab at *
  generalize sel3 A4 A5 A7 = D at *
  generalize sel3 ra.length rb.length rc.length = n at *
  generalize sel3 c4 c5 c7 = k at *
  go_loopw [47] (fun t wr => ∃ x : Nat, x ≤ 3 ∧ t = .int .i64 x ∧ Hid (QB w3.heap.size ab D n k w3 wr)) (fun t _ => 3 - (intOf t).toNat)
  case atStart => exact ⟨0, by omega, rfl, hQ0⟩
  case round =>
    clear hQ0
    obtain ⟨x, hx3, rfl, hQ⟩ := hrel
    by_cases hlt : x < 3
    · have hc0 := hQ.out.cell x hlt
      have hx3I : (x : Int) < 3 := by omega
      have hx0 : (0 : Int) ≤ (x : Int) := by omega
      have hn9 := (hQ.out.rb x hlt).1
      go_wp2
      clear hc0
      obtain ⟨wo, hwo⟩ : ∃ wo : World, wo = wr := ⟨_, rfl⟩
      subst hwo
      go_loopw [53] (fun t wi => ∃ y : Nat, y ≤ n x ∧ t = .int .i64 y ∧ Hid (QB w3.heap.size ab D n k w3 wi)) (fun t _ => n x - (intOf t).toNat)
      case atStart => exact ⟨0, Nat.zero_le _, rfl, hQ⟩
      case round =>
        clear hQ
        obtain ⟨y, hy, rfl, hX⟩ := hrel
        by_cases hyl : y < n x
        · obtain ⟨hn, h0 | ⟨g, hg, hbg, hcs⟩⟩ := hX.out.rb x hlt
          · omega
          · obtain ⟨⟨t, hcy⟩, hfy⟩ := hcs y hyl
            have hst := Lib.hid (hX.out.set (t' := !t) hcy hbg)
            have hy0 : (0 : Int) ≤ (y : Int) := by omega
            have hy1 : (y : Int) < (n x : Int) := by omega
            clear hcs hX
            rw [hg]
            go_wp2
            go_roundw
            case rel => exact ⟨y + 1, by omega, by go_num, by first | exact hst | exact Lib.hid hst.out.drew⟩
            case measure => simp [intOf]; omega
        · obtain rfl : y = n x := by omega
          go_wp2
          go_roundw
          case rel => exact ⟨x + 1, by omega, by go_num, hX⟩
          case measure => simp [intOf]; omega
    · obtain rfl : x = 3 := by omega
      have hl5 := hvW.out.below (trans0 hB3.out hQ.out.bel)
      have hw5 := hwas.out.below hQ.out.bel
      have hBw := Lib.hid (trans0 hB0.out (trans0 hB3.out hQ.out.bel))
      have hsv := Lib.hid (fun X (hX : Below wr.heap.size wr X) => samevers A c l A3 c3 l X (hl5.below hX) (hw5.below hX))
      simp only [decide_true] at hsv
      clear hl5 hw5 hQ
      go_wp2_with (fail)
      with_reducible refine (awake_any wr).mono ?_
      rintro e w9 ⟨rfl, hB9⟩
      have hs9 := Lib.hid (hsv.out w9 hB9)
      have hBx := Lib.hid (trans0 hBw.out hB9)
      clear hB9 hsv
      go_wp2_with (fail)
      with_reducible refine hs9.out.mono ?_
      rintro e wz ⟨rfl, hBz⟩
      have hfin := Lib.hid (trans0 hBx.out hBz)
      clear hBz
      go_wp2
      go_ret
      exact ⟨rfl, hfin.out⟩
theorem owns (A : Option Addr) (c : Nat) (l : List Ver) (v : Ver) (f : Int) (w : World) (h : HV w A c l) :
    Calls Try.prog 11 #[.slice A l.length c, .agg #[.string v.key, .string v.val, .bool v.gone, .int .u64 v.ts, .int .i64 v.dc, .int .i64 v.tx], .int .u64 f] w fun e w' => e = .returned (.bool true) ∧ Below w.heap.size w w' := by
  by_cases h9 : 120 < l.length
  · exact owns_big A c l v f w h9
  · exact owns_small A c l v f w h h9
end Go.Proofs.Ytbmaaonjohcgbaa.chnY
