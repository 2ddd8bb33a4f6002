/- The contracts of New, Len, Waiting, due, and of the calls of a nil log. -/
import Derived.Test.YtipnmgihbpbonaaOrdL
import Derived.Test.YtipnmgihbpbonaaOrdD
set_option linter.unusedVariables false
set_option linter.unusedSimpArgs false
set_option maxRecDepth 100000
namespace Go.Proofs.Ytipnmgihbpbonaa.ordH
open Go.ChangeShapes Go.WideShapes Go.ChangeAt Go.RowKit Go.Deep
open opV chnM gen chnA chnR chnE ordA ordB ordC ordM ordL ordD

abbrev T1 : TypeId := 62
abbrev T2 : TypeId := 29
theorem log_new {T : TypeId} {col : Nat → Nat} {c : Nat} (w : World) (hc : col w.heap.size = c) (hT : T ≠ 32) : LogIs T col c (w.alloc (.cells #[.slice none 0 0, .slice none 0 0, .int .u64 0] T)) w.heap.size L0 none 0 none 0 [] [] := by
  refine { row := ?_, o1 := GR.nil_ _ _, o2 := GR.nil_ _ _, d1 := fun m hm => (by cases hm), d2 := fun m hm => (by cases hm), e1 := rfl, e2 := rfl, cp := hc, ca := fun k e => (by cases e), cb := fun k e => (by cases e), ne := fun k e => (by cases e), len := by simp, tne := hT }
  exact World.rowIs_alloc w #[.slice none 0 0, .slice none 0 0, .int .u64 0] T (cG (.slice none 0 0) (.slice none 0 0) 0) (fun i hi => by
    have : i = 0 ∨ i = 1 ∨ i = 2 := by simp at hi; omega
    rcases this with rfl | rfl | rfl <;> rfl)
theorem new_any (w : World) : Calls Try.prog 8 #[] w fun e w' => e = .returned (.pointer (some ⟨w.heap.size, 0, none⟩)) ∧ w' = w.alloc (.cells #[.slice none 0 0, .slice none 0 0, .int .u64 0] T1) := by
  go_enter Try.func8, Try.ntmps8
  go_wp2
  go_ret
  exact ⟨rfl, rfl⟩
section
variable {col : Nat → Nat} {c p : Nat} {L : Lg} {A1 A2 : Option Addr} {c1 c2 : Nat} {ms mw : List MR}
theorem len_any (w : World) (h : LogIs T1 col c w p L A1 c1 A2 c2 ms mw) : Calls Try.prog 14 #[.pointer (some ⟨p, 0, none⟩)] w fun e w' => e = .returned (.int .i64 L.st.length) ∧ w = w' := by
  obtain ⟨k0, k1, k2⟩ := h.cells
  have hl : ms.length = L.st.length := by rw [← h.e1, List.length_map]
  rw [← hl]
  clear h hl
  go_enter Try.func14, Try.ntmps14
  go_wp2
  go_ret
  exact ⟨rfl, rfl⟩
theorem waiting_any (w : World) (h : LogIs T1 col c w p L A1 c1 A2 c2 ms mw) : Calls Try.prog 15 #[.pointer (some ⟨p, 0, none⟩)] w fun e w' => e = .returned (.int .i64 L.wt.length) ∧ w = w' := by
  obtain ⟨k0, k1, k2⟩ := h.cells
  have hl : mw.length = L.wt.length := by rw [← h.e2, List.length_map]
  rw [← hl]
  clear h hl
  go_enter Try.func15, Try.ntmps15
  go_wp2
  go_ret
  exact ⟨rfl, rfl⟩
end
/-! ### Of a nil log -/
theorem len_nil (w : World) : Calls Try.prog 14 #[.pointer none] w fun e w' => e = .returned (.int .i64 0) ∧ w = w' := by
  go_enter Try.func14, Try.ntmps14
  go_wp2
  go_ret
  exact ⟨rfl, rfl⟩
theorem waiting_nil (w : World) : Calls Try.prog 15 #[.pointer none] w fun e w' => e = .returned (.int .i64 0) ∧ w = w' := by
  go_enter Try.func15, Try.ntmps15
  go_wp2
  go_ret
  exact ⟨rfl, rfl⟩
theorem release_nil (t : Int) (w : World) : Calls Try.prog 12 #[.pointer none, .int .u64 t] w fun e w' => e = .returned (.int .i64 0) ∧ w = w' := by
  go_enter Try.func12, Try.ntmps12
  go_wp2
  go_ret
  exact ⟨rfl, rfl⟩
theorem decide_nil (m : MR) (w : World) : Calls Try.prog 9 #[.pointer none, rv m] w fun e w' => e = .returned (.int .i64 1) ∧ Below w.heap.size w w' := by
  have hB := Lib.hid (fun o => al0 w o)
  go_enter Try.func9, Try.ntmps9
  go_wp2
  go_ret
  exact ⟨rfl, hB.out _⟩
/-! ### due -/
def cntB (b : Int) (l : List Rc) : Nat := tw (fun x => decide (x.1.1 ≤ b)) l
theorem cntB_eq {b : Int} {l : List Rc} {i : Nat} (hi : i ≤ l.length) (h1 : ∀ k, k < i → (nt l k).1.1 ≤ b) (h2 : i < l.length → b < (nt l i).1.1) : i = cntB b l :=
  tw_eq (p := fun x : Rc => decide (x.1.1 ≤ b)) hi (fun k hk => decide_eq_true (h1 k hk)) (fun h => decide_eq_false (by have := h2 h; omega))
section
variable {col : Nat → Nat} {c p : Nat} {L : Lg} {A1 A2 : Option Addr} {c1 c2 : Nat} {ms mw : List MR}
theorem log_hw {T : TypeId} {w : World} (h : LogIs T col c w p L A1 c1 A2 c2 ms mw) : HR w A2 c2 mw := h.o2.hv (by have := h.len; omega)
theorem log_hs {T : TypeId} {w : World} (h : LogIs T col c w p L A1 c1 A2 c2 ms mw) : HR w A1 c1 ms := h.o1.hv (by have := h.len; omega)
theorem clo_any (b i : Nat) (w : World) (h : LogIs T1 col c w p L A1 c1 A2 c2 ms mw) (hb : w.cell? ⟨b, 0, none⟩ = some (.pointer (some ⟨p, 0, none⟩))) (hi : i < mw.length) :
    Calls Try.prog 38 #[.int .i64 i, .pointer (some ⟨b, 0, none⟩)] w fun e w' => e = .returned (.bool (decide (L.bd < (nt mw i).ts))) ∧ Below w.heap.size w w' := by
  obtain ⟨k0, k1, k2⟩ := h.cells
  obtain ⟨pb, po, rfl, hpb, hc⟩ := (log_hw h).at hi
  obtain ⟨q0, q1, q2, q3⟩ := hc
  have hiI : (i : Int) < (mw.length : Int) := by omega
  have hB := Lib.hid (fun n => bdrN n (Below.refl w.heap.size w))
  generalize L.bd = bd at *
  generalize nt mw i = x at *
  generalize ms.length = nm at *
  clear h
  obtain ⟨z, hz⟩ : ∃ z, decide (bd < x.ts) = z := ⟨_, rfl⟩
  rw [hz]
  go_enter Try.func38, Try.ntmps38
  go_wp2
  go_quiet (fail)
  go_wp2
  go_ret
  exact ⟨rfl, hB.out _⟩
set_option maxHeartbeats 1000000 in
theorem search_any (b : Nat) (w : World) (h : LogIs T1 col c w p L A1 c1 A2 c2 ms mw) (hu : Up L.wt) (hb : w.cell? ⟨b, 0, none⟩ = some (.pointer (some ⟨p, 0, none⟩))) :
    Calls Try.prog 37 #[.int .i64 mw.length, .func (.func 38) #[] #[.pointer (some ⟨b, 0, none⟩)]] w fun e w' => e = .returned (.int .i64 (cntB L.bd L.wt)) ∧ Below w.heap.size w w' := by
  have hn := h.len
  have hlw : L.wt.length = mw.length := by rw [← h.e2, List.length_map]
  have hx : ∀ k, k < mw.length → (nt L.wt k).1.1 = (nt mw k).ts := fun k hk => by rw [← h.e2, nt_map hk]; rfl
  have hend := Lib.hid (fun (i : Nat) (hi : i ≤ mw.length) (h1 : ∀ k, k < i → (nt mw k).ts ≤ L.bd) (h2 : ∀ k, i ≤ k → k < mw.length → L.bd < (nt mw k).ts) => cntB_eq (b := L.bd) (l := L.wt) (i := i) (by omega) (fun k hk => by rw [hx k (by omega)]; exact h1 k hk) (fun h3 => by rw [hx i (by omega)]; exact h2 i (Nat.le_refl _) (by omega)))
  have hmono := Lib.hid (fun (i k : Nat) (hik : i ≤ k) (hk : k < mw.length) => (by have := ts_mono hu hik (by omega); rwa [hx i (by omega), hx k hk] at this : (nt mw i).ts ≤ (nt mw k).ts))
  have hcl := Lib.hid (fun (i : Nat) (wr : World) (hi : i < mw.length) (hB : Below w.heap.size w wr) => clo_any b i wr (h.below hB) (keep_cell hB hb) hi)
  generalize cntB L.bd L.wt = R at *
  generalize L.bd = bd at *
  clear h hu hb hlw hx
  go_enter Try.func37, Try.ntmps37
  go_wp2
  go_loopw [5, 6] (fun s t wr => ∃ i j : Nat, i ≤ j ∧ j ≤ mw.length ∧ s = .int .i64 i ∧ t = .int .i64 j ∧ Hid (∀ k, k < i → (nt mw k).ts ≤ bd) ∧ Hid (∀ k, j ≤ k → k < mw.length → bd < (nt mw k).ts) ∧ Hid (Below w.heap.size w wr)) (fun s t _ => (intOf t - intOf s).toNat)
  case atStart => exact ⟨0, mw.length, by omega, by omega, rfl, rfl, Lib.hid (fun k hk => by omega), Lib.hid (fun k h1 h2 => by omega), Lib.hid (Below.refl _ _)⟩
  case round =>
    obtain ⟨i, j, hij, hj, rfl, rfl, h1, h2, hB⟩ := hrel
    by_cases hlt : i < j
    · obtain ⟨q, hq⟩ : ∃ q, (i + j) / 2 = q := ⟨_, rfl⟩
      have hq1 : i ≤ q ∧ q < j := by omega
      have hltI : (i : Int) < (j : Int) := by omega
      have hqI : ((i : Int) + (j : Int)) / 2 = (q : Int) := by omega
      have hql : q < mw.length := by omega
      have hcall := Lib.hid (hcl.out q wr hql hB.out)
      clear hq
      cases ha : decide (bd < (nt mw q).ts) with
      | true =>
        have ha' := of_decide_eq_true ha
        have hs' : Hid (∀ k, q ≤ k → k < mw.length → bd < (nt mw k).ts) := Lib.hid (fun k hk hkl => by have := hmono.out q k hk hkl; omega)
        rw [ha] at hcall
        clear ha ha' h2
        go_wp2_with (go_at_call 38; ((with_reducible refine (hcall.out).mono ?_); rintro e w' ⟨rfl, hB9⟩))
        have hB' := Lib.hid (trans0 hB.out hB9)
        clear hB hcall hB9
        go_roundw
        case rel => exact ⟨i, q, by omega, by omega, rfl, rfl, h1, hs', hB'⟩
        case measure => simp [intOf]; omega
      | false =>
        have ha' := of_decide_eq_false ha
        have hs' : Hid (∀ k, k < q + 1 → (nt mw k).ts ≤ bd) := Lib.hid (fun k hk => by have := hmono.out k q (by omega) hql; omega)
        rw [ha] at hcall
        clear ha ha' h1
        go_wp2_with (go_at_call 38; ((with_reducible refine (hcall.out).mono ?_); rintro e w' ⟨rfl, hB9⟩))
        have hB' := Lib.hid (trans0 hB.out hB9)
        clear hB hcall hB9
        go_roundw
        case rel => exact ⟨q + 1, j, by omega, hj, by go_num, rfl, hs', h2, hB'⟩
        case measure => simp [intOf]; omega
    · obtain rfl : i = j := by omega
      have hR := Lib.hid (hend.out i hj h1.out h2.out)
      clear h1 h2 hend hmono
      go_wp2
      go_ret
      exact ⟨by rw [← hR.out]; rfl, hB.out⟩
theorem due_any (w : World) (h : LogIs T1 col c w p L A1 c1 A2 c2 ms mw) (hu : Up L.wt) : Calls Try.prog 28 #[.pointer (some ⟨p, 0, none⟩)] w fun e w' => e = .returned (.int .i64 (cntB L.bd L.wt)) ∧ Below w.heap.size w w' := by
  have hal := al0 w (.cells #[.pointer (some ⟨p, 0, none⟩)] 23)
  have hb := (cell_of_row _ _ 0 #[.pointer (some ⟨p, 0, none⟩)] 23 (0, 0) (heap_alloc_new w (.cells #[.pointer (some ⟨p, 0, none⟩)] 23)) : (w.alloc (.cells #[.pointer (some ⟨p, 0, none⟩)] 23)).cell? ⟨w.heap.size, 0, none⟩ = some _)
  have hs := Lib.hid (search_any w.heap.size _ (h.below hal) hu hb)
  obtain ⟨k0, k1, k2⟩ := (h.below hal).cells
  obtain ⟨W, hW⟩ : ∃ W, w.alloc (.cells #[.pointer (some ⟨p, 0, none⟩)] 23) = W := ⟨_, rfl⟩
  rw [hW] at hal hb hs k0 k1 k2
  replace hW := Lib.hid hW
  replace hal := Lib.hid hal
  generalize cntB L.bd L.wt = R at *
  clear h hu
  go_enter Try.func28, Try.ntmps28
  go_upto_region 1 with (fail)
  rw [hW.out]
  go_wp2_with (go_at_call 37; ((with_reducible refine (hs.out).mono ?_); rintro e w' ⟨rfl, hB9⟩))
  go_ret
  exact ⟨rfl, trans0 hal.out hB9⟩
end
end Go.Proofs.Ytipnmgihbpbonaa.ordH
