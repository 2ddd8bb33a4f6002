/- The document's Out. -/
import Derived.Test.YthiadkpndemeeaaLnkPb
namespace Go.Proofs.Ythiadkpndemeeaa.lnkPc
open Go.ChangeShapes Go.WideShapes Go.ChangeAt Go.RowKit Go.Deep
open numM rowA byt numA numB numC lnkA lnkB lnkC lnkD lnkE lnkF lnkG lnkH lnkI lnkL lnkQ lnkR lnkS lnkT lnkPa lnkPb

theorem stand_new (w : World) (cs : List Value) (T : TypeId) (m : Nat) : Stand (w.alloc (.cells cs.toArray T)) (some ⟨w.heap.size, 0, none⟩) m cs := .inr ⟨_, rfl, fun j u hu => by
  rw [add_plain, Nat.zero_add]
  have := cell_of_row (w.alloc (.cells cs.toArray T)) w.heap.size j cs.toArray T (0, 0) (heap_alloc_new w _)
  rw [this]
  simpa using hu⟩
def cellsD (f : Fm) (u : Value) : List Value := [.int .i64 f.v, .int .i64 f.e, .int .i64 f.s, .int .i64 f.a, u]
def uD (d : Dm) (xs : List Value) (k : Nat) : Value := xs.getD (d.acked + k) undef
def rowD (d : Dm) (xs : List Value) : Nat → List Value
  | 0 => []
  | k + 1 => rowD d xs k ++ cellsD (outD d k) (uD d xs k)
theorem rowD_len (d : Dm) (xs : List Value) : ∀ k, (rowD d xs k).length = k * 5
  | 0 => rfl
  | k + 1 => by
    show (rowD d xs k ++ _).length = _
    rw [List.length_append, rowD_len d xs k]; simp [cellsD]; omega
theorem rowD_cell (d : Dm) (xs : List Value) : ∀ (n i j : Nat) (u : Value), i < n → (cellsD (outD d i) (uD d xs i))[j]? = some u → (rowD d xs n)[i * 5 + j]? = some u
  | 0, _, _, _, h, _ => by omega
  | n + 1, i, j, u, h, e => by
    have hj : j < 5 := by
      have := (List.getElem?_eq_some_iff.1 e).1
      simpa [cellsD] using this
    show (rowD d xs n ++ _)[_]? = _
    by_cases c : i = n
    · subst c
      rw [List.getElem?_append_right (by rw [rowD_len]; omega), rowD_len, show i * 5 + j - i * 5 = j by omega]
      exact e
    · rw [List.getElem?_append_left (by rw [rowD_len]; omega)]
      exact rowD_cell d xs n i j u (by omega) e
section
variable {col col' : Nat → Nat} {w w' : World} {q : Nat} {d : Dm} {vs vc : Value} {xs : List Value} {css : List (List Value)}
theorem lastD_le (h : d.acked ≤ d.sent.length) : ∃ N, lastD d = d.acked + N ∧ N ≤ 16 ∧ d.acked + N ≤ d.sent.length := by
  unfold lastD
  split
  · exact ⟨16, rfl, Nat.le_refl _, by omega⟩
  · exact ⟨d.sent.length - d.acked, by omega, by omega, by omega⟩
/-- What the document's Out answers. -/
def OutsD (w : World) (d : Dm) (e : Ending) (w' : World) : Prop := ∃ A c N, lastD d = d.acked + N ∧ e = .returned (.slice A N c) ∧ FQ w' A N (outD d) ∧ Below w.heap.size w w'
theorem sent_at (h : DocIs col w q d vs vc xs css) {i : Nat} (hi : i < d.sent.length) : ∃ g cs B c, vs = .slice (some ⟨g, 0, none⟩) d.sent.length cs ∧ w.cell? ⟨g, i, none⟩ = some (.slice B (lth d.sent i).length c) ∧ xs[i]? = some (.slice B (lth d.sent i).length c) ∧ BL w B (lth d.sent i).length (lth d.sent i) := by
  obtain ⟨u, hu, B, c, e, hb, -⟩ := h.sentd.get hi
  rcases h.sent.1.2 with ⟨e0, e1⟩ | ⟨g, cap, cur, e1, _⟩
  · omega
  · refine ⟨g, cap, B, c, e1, ?_, by rw [hu, e], hb⟩
    have := h.sent.1.cells (g := g) (by rw [e1]; rfl) i u hu
    rw [add_plain, Nat.zero_add] at this
    rw [this, e]
theorem fq_out (h : DocIs col w q d vs vc xs css) {N : Nat} (h16 : N ≤ 16) (hN : d.acked + N ≤ d.sent.length) {v : Value} {w1 : World} (hr : w1.ownsRow w.heap.size 31 5 v N (rowD d xs N)) (hB : Below w.heap.size w w1) :
    ∃ A c, v = .slice A N c ∧ FQ w1 A N (outD d) := by
  obtain ⟨A, c, rfl, -, -⟩ := own_form hr
  refine ⟨A, c, rfl, by omega, fun i hi => ?_⟩
  obtain ⟨g, hg⟩ : ∃ g, A = some ⟨g, 0, none⟩ := by
    rcases hr.2 with ⟨e0, e⟩ | ⟨g, cap, cur, e, _⟩
    · omega
    · cases e; exact ⟨g, rfl⟩
  subst hg
  obtain ⟨g', cs, B, c', -, -, hx, hb⟩ := sent_at h (i := d.acked + i) (by omega)
  have hu : uD d xs i = .slice B (outD d i).body.length c' := by
    show xs.getD _ _ = _
    rw [List.getD_eq_getElem?_getD, hx]; rfl
  have hcell : ∀ j u, (cellsD (outD d i) (uD d xs i))[j]? = some u → w1.cell? ⟨g, 0 + i * 5 + j, none⟩ = some u := fun j u hj => by
    have := hr.cells (g := g) rfl _ _ (rowD_cell d xs N i j u hi hj)
    rwa [add_plain, ← Nat.add_assoc] at this
  rw [hu] at hcell
  exact ⟨g, 0, B, c', rfl, ⟨hcell 0 _ rfl, hcell 1 _ rfl, hcell 2 _ rfl, hcell 3 _ rfl, hcell 4 _ rfl⟩, hb.below hB⟩
set_option maxRecDepth 100000 in
set_option maxHeartbeats 1000000 in
theorem outd_any (h : DocIs col w q d vs vc xs css) (hac : d.acked ≤ 1000000) : Calls Try.prog 21 #[.pointer (some ⟨q, 0, none⟩)] w (OutsD w d) := by
  obtain ⟨i0, hi, hz0, hz1, hz2⟩ := info_parts infoF
  obtain ⟨N, hN, h16, hNl⟩ := lastD_le h.le
  obtain ⟨h0, h1, h2, h3, h4⟩ := h.cells
  have hqlt := h.row.lt
  have hlast : Hid (∀ w2, Below w.heap.size w w2 → Calls Try.prog 32 #[.pointer (some ⟨q, 0, none⟩)] w2 fun e w' => e = .returned (.int .i64 (lastD d : Nat)) ∧ ∃ m, w' = w2.drewN m) := Lib.hid fun w2 hB => last_any (h.below hB)
  rw [hN] at hlast
  have hat := Lib.hid (fun i (hi : i < d.sent.length) => sent_at h hi)
  have hfin : Hid (∀ w1 v, w1.ownsRow w.heap.size 31 5 v N (rowD d xs N) → Below w.heap.size w w1 → OutsD w d (.returned v) w1) := Lib.hid fun w1 v hr hB => by
    obtain ⟨A, c, rfl, hf⟩ := fq_out h h16 hNl hr hB
    exact ⟨A, c, N, hN, rfl, hf, hB⟩
  have hw0 := wrap_in ((d.acked : Int) + 1) (by omega) (by omega)
  clear h hN
  go_enter Try.func21, Try.ntmps21
  go_wp2
  go_loopw [3, 4] (fun v i wr => ∃ k : Nat, k ≤ N ∧ i = .int .i64 ((d.acked : Int) + 1 + k) ∧ Hid (wr.ownsRow w.heap.size 31 5 v k (rowD d xs k)) ∧ Hid (Below w.heap.size w wr)) (fun _ i _ => d.acked + 1 + N - (intOf i).toNat)
  case atStart => exact ⟨0, by omega, by simp, World.ownsRow_nil w _ _ 5, Below.refl _ _⟩
  case round =>
    obtain ⟨k, hk, rfl, hO, hB⟩ := hrel
    have hkq := hlast.out wr hB.out
    by_cases hlt : k < N
    · obtain ⟨g, cs, B, cB, rfl, hg0, hx, hb⟩ := hat.out (d.acked + k) (by omega)
      have hu : Hid (uD d xs k = .slice B (lth d.sent (d.acked + k)).length cB) := Lib.hid (by unfold uD; rw [List.getD_eq_getElem?_getD, hx]; rfl)
      have hglt := World.block_lt_of_cell? _ _ hg0
      have hBd : ∀ m, Below w.heap.size w (wr.drewN m) := fun m => hB.out.trans ((lnkI.below_drewN wr m).mono hB.out.size)
      have hOd : ∀ m, (wr.drewN m).ownsRow w.heap.size 31 5 u3 k (rowD d xs k) := fun m => by have := hO.out; exact own_block this (fun q e => (lnkI.below_drewN wr m).block q (this.lt q e).2)
      replace hat := Lib.hid hat
      replace hBd := Lib.hid hBd
      replace hOd := Lib.hid hOd
      have e1 := wrap_in ((d.acked : Int) + 1 + k - 1) (by omega) (by omega)
      have e1' : IntKind.i64.wrap ((d.acked : Int) + 1 + k - 1) = (d.acked : Int) + k := by rw [e1]; omega
      have e2 := wrap_in ((d.acked : Int) + 1 + k + 1) (by omega) (by omega)
      have b1 : (0 : Int) ≤ (d.acked : Int) + k := by omega
      have b2 : (d.acked : Int) + k < (d.sent.length : Int) := by omega
      have b4 : ((d.acked : Int) + k).toNat = d.acked + k := by omega
      have b3 : (d.acked : Int) + 1 + k ≤ (d.acked : Int) + N := by omega
      clear hO e1 hx hb
      go_wp2_with (fail)
      refine hkq.mono ?_
      rintro e w2 ⟨rfl, m, rfl⟩
      have hW : Below w.heap.size w (wr.drewN m).drew := (hBd.out m).drew
      have c0 := (hW.cell (p := ⟨q, 0, none⟩) hqlt).trans h0
      have c1 := (hW.cell (p := ⟨q, 1, none⟩) hqlt).trans h1
      have c4 := (hW.cell (p := ⟨q, 4, none⟩) hqlt).trans h4
      have cg := (hW.cell (p := ⟨g, d.acked + k, none⟩) hglt).trans hg0
      have hOw := Lib.hid (show (wr.drewN m).drew.ownsRow w.heap.size 31 5 u3 k (rowD d xs k) from hOd.out m)
      replace hW := Lib.hid hW
      have hsz := Lib.hid (show w.heap.size ≤ (wr.drewN m).drew.heap.size from hW.out.size)
      generalize wr.drewN m = W1 at *
      go_wp2
      go_region_law (refine step_gen rfl (.tmp 16) (.tmp 35) 43 rfl w.heap.size 31 i0 _ 5 56 Try.underlying43 hi hz0 hz1 hz2 rfl (by decide) u3 k (rowD d xs k) (by rfl) (hOw.out.alloc _) (some ⟨_, 0, none⟩) 1 1 [.int .i64 0, .int .i64 d.ep, .int .i64 ((d.acked : Int) + 1 + k), .int .i64 d.got, .slice B (lth d.sent (d.acked + k)).length cB] (by rfl) rfl (stand_new _ _ _ _) (by intro u hu; simp only [List.mem_cons, List.not_mem_nil, or_false] at hu; rcases hu with rfl | rfl | rfl | rfl | rfl <;> rfl) (by unfold maxLen; omega) (by omega) (Nat.le_trans hsz.out (al0 _ _).size) ?_; intro A9 c9 w3 hr9 hg9 hat9)
      all_goals
        have hO3 : Hid (w3.ownsRow w.heap.size 31 5 (.slice A9 (k + 1) c9) (k + 1) (rowD d xs (k + 1))) := Lib.hid (by
          show w3.ownsRow _ _ _ _ _ (rowD d xs k ++ cellsD (outD d k) (uD d xs k))
          rw [hu.out]; exact hr9)
        have hB3 : Hid (Below w.heap.size w w3) := Lib.hid ((hW.out.alloc hsz.out _).grown hg9 (Nat.le_trans hsz.out (al0 _ _).size) (fun q e => (hOw.out.lt q e).1))
        clear hr9 hg9 hat9 c0 c1 c4 cg hW hOw
        go_wp2
        go_roundw
        case rel => exact ⟨k + 1, by omega, by rw [show ((d.acked : Int) + 1 + k + 1) = (d.acked : Int) + 1 + ((k + 1 : Nat) : Int) by omega], hO3, hB3⟩
        case measure => simp [intOf]; omega
    · obtain rfl : k = N := by omega
      have hnext : ∀ m, OutsD w d (.returned u3) (wr.drewN m) := fun m => hfin.out _ _ (by have := hO.out; exact own_block this (fun q e => (lnkI.below_drewN wr m).block q (this.lt q e).2)) (hB.out.trans ((lnkI.below_drewN wr m).mono hB.out.size))
      have b3 : ¬ (d.acked : Int) + 1 + k ≤ (d.acked : Int) + k := by omega
      replace hnext := Lib.hid hnext
      clear hO hB hat
      go_wp2_with (fail)
      refine hkq.mono ?_
      rintro e w2 ⟨rfl, m, rfl⟩
      go_wp2
      go_ret
      exact hnext.out m
end
end Go.Proofs.Ythiadkpndemeeaa.lnkPc
