/- What the law asks of any end first: awake; LinkNone. -/
import Derived.Test.YthiadkpndemeeaaLnkE
import Derived.Lib.SlBytesConst
namespace Go.Proofs.Ythiadkpndemeeaa.lnkF
open Go.ChangeShapes Go.WideShapes Go.ChangeAt Go.RowKit Go.Deep
open numM rowA byt numA numB numC lnkA lnkB lnkC lnkD lnkE

/-- A frame of a row, as a walk reads it. -/
theorem FR.at {w : World} {lo n : Nat} {v : Value} {fs : Nat → Fm} (h : FR w lo v n fs) : ∃ g, v = .slice (some ⟨g, 0, none⟩) n n ∧ lo ≤ g ∧ g < w.heap.size ∧ ∀ i, i < n → ∃ B c,
    (w.cell? ⟨g, i * 5, none⟩ = some (.int .i64 (fs i).v) ∧ w.cell? ⟨g, i * 5 + 1, none⟩ = some (.int .i64 (fs i).e) ∧ w.cell? ⟨g, i * 5 + 2, none⟩ = some (.int .i64 (fs i).s) ∧ w.cell? ⟨g, i * 5 + 3, none⟩ = some (.int .i64 (fs i).a) ∧ w.cell? ⟨g, i * 5 + 4, none⟩ = some (.slice B (fs i).body.length c)) ∧
    Own w (g + 1) (.slice B (fs i).body.length c) (fs i).body.length (fs i).body := by
  obtain ⟨g, rfl, hlo, F, h1, h2⟩ := h
  refine ⟨g, rfl, hlo, h1.lt, fun i hi => ?_⟩
  obtain ⟨B, c, h3, h4⟩ := h2 i hi
  refine ⟨B, c, ⟨?_, ?_, ?_, ?_, ?_⟩, h4⟩
  · rw [h1.cell (i := i * 5) (by omega)]; exact congrArg some (h3 0 (by omega))
  · rw [h1.cell (i := i * 5 + 1) (by omega)]; exact congrArg some (h3 1 (by omega))
  · rw [h1.cell (i := i * 5 + 2) (by omega)]; exact congrArg some (h3 2 (by omega))
  · rw [h1.cell (i := i * 5 + 3) (by omega)]; exact congrArg some (h3 3 (by omega))
  · rw [h1.cell (i := i * 5 + 4) (by omega)]; exact congrArg some (h3 4 (by omega))
theorem FR.below {w w1 : World} {lo n : Nat} {v : Value} {fs : Nat → Fm} (h : FR w lo v n fs) (hB : Below w.heap.size w w1) : FR w1 lo v n fs := by
  obtain ⟨g, h1, h2, h3⟩ := h
  exact ⟨g, h1, h2, h3.below hB⟩
/-- The colors of what came since w: c; what was there, and what is to come: 0. -/
def colOf (a b c : Nat) (k : Nat) : Nat := if a ≤ k ∧ k < b then c else 0
theorem colOf_in {a b c k : Nat} (h1 : a ≤ k) (h2 : k < b) : colOf a b c k = c := if_pos ⟨h1, h2⟩
theorem colOf_lo {a b c k : Nat} (h1 : k < a) : colOf a b c k = 0 := if_neg (by omega)
theorem colOf_hi {a b c k : Nat} (h1 : b ≤ k) : colOf a b c k = 0 := if_neg (by omega)
theorem Newd.at {w w1 : World} {ep : Int} {p : Nat} (h : ∀ (col : Nat → Nat) (c : Nat), (∀ i, w.heap.size ≤ i → i < w1.heap.size → col i = c) → EndAt col c w1 p (St.new ep)) (c : Nat) : EndAt (colOf w.heap.size w1.heap.size c) c w1 p (St.new ep) ∧ Fresh (colOf w.heap.size w1.heap.size c) w1 :=
  ⟨h _ _ fun _ h1 h2 => colOf_in h1 h2, fun _ hk => colOf_hi hk⟩
theorem one97 (w : World) : BL (w.alloc (.cells #[.int .u8 97] 5 (1, 2))) (some ⟨w.heap.size, 0, none⟩) [97].length [97] := by
  refine ⟨rfl, by simp, by simp, .inr ⟨w.heap.size, 0, rfl, by simp, fun i hi => ?_⟩⟩
  obtain rfl : i = 0 := by simp at hi; omega
  exact World.cell?_alloc_mark w #[.int .u8 97] 5 (1, 2) 0
set_option maxRecDepth 100000 in
set_option maxHeartbeats 1000000 in
theorem awake_any (w : World) : Calls Try.prog 25 #[] w fun e w' => e = .returned (.bool true) ∧ Below w.heap.size w w' := by
  have kc := fun (w : World) (C : Array Value) (n c : Nat) => Lib.run_convert_bytes_const (P := Try.prog) w 29 5 C n c Try.underlying29 Try.underlying5
  go_enter Try.func25, Try.ntmps25
  go_wp2_with (fail)
  refine (new_any 3 w).mono ?_
  rintro e w1 ⟨p, rfl, hB1, hp1, hp2, hcol⟩
  obtain ⟨hE, hF⟩ := Newd.at hcol 1
  have hE2 := Lib.hid (hE.below (al0 w1 (.cells #[.int .u8 97] 5 (1, 2))))
  have hF2 := Lib.hid (hF.below (al0 w1 (.cells #[.int .u8 97] 5 (1, 2))))
  have hB2 := Lib.hid (trans0 hB1 (al0 w1 (.cells #[.int .u8 97] 5 (1, 2))))
  have hb2 := Lib.hid (one97 w1)
  have hcl : Hid (∀ k, k < w.heap.size → colOf w.heap.size w1.heap.size 1 k ≠ 1) := Lib.hid fun k hk => by rw [colOf_lo hk]; decide
  clear hcol hE hF hB1
  go_wp2_with (fail)
  refine (send_any (some ⟨w1.heap.size, 0, none⟩) 1 [97] _ hE2.out hb2.out (by decide) hF2.out (by decide)).mono ?_
  rintro e w3 ⟨rfl, col3, hx3, hf3, hc3, hE3⟩
  have hB3 := Lib.hid (hB2.out.trans (hc3.below hB2.out.size hcl.out))
  change EndAt col3 1 w3 p (stPut (St.new 3) [97]) at hE3
  clear hx3 hf3 hc3 hE2 hF2 hB2 hb2 hcl
  go_wp2_with (fail)
  refine (out_any w3 hE3).mono ?_
  rintro e w4 ⟨v, rfl, hR, hB4⟩
  change FR w4 w3.heap.size v 1 (outF (stPut (St.new 3) [97])) at hR
  obtain ⟨g, rfl, hlo, hlt, hat⟩ := FR.at hR
  obtain ⟨B, c, ⟨k0, k1, k2, k3, k4⟩, hO⟩ := hat 0 (by omega)
  have hb4 := own_bl hO
  have e1 := run_str (P := Try.prog) 29 5 9 Try.underlying29 Try.underlying5 Try.underlying9 c hb4
  have hB := Lib.hid (trans0 hB3.out hB4)
  simp only [Nat.zero_mul, Nat.zero_add] at k0 k1 k2 k3 k4
  change w4.cell? ⟨g, 1, none⟩ = some (.int .i64 3) at k1
  change w4.cell? ⟨g, 2, none⟩ = some (.int .i64 1) at k2
  change w4.cell? ⟨g, 4, none⟩ = some (.slice B 1 c) at k4
  change Sem.run _ (convert _ _ (.slice B 1 c)) _ = .ok (.string ⟨#[97]⟩) _ at e1
  clear hat hO hb4 hR hB4 hE3 hB3
  go_wp2
  go_ret
  exact ⟨rfl, hB.out⟩

/-! ### LinkNone -/
set_option maxRecDepth 100000 in
set_option maxHeartbeats 1000000 in
theorem nilend (f : Fm) (A : Option Addr) (c : Nat) (v : Value) (w : World) :
    Calls Try.prog 9 #[.agg (cf f A c), v] w fun e w' => e = .returned (.bool true) ∧ Below w.heap.size w w' := by
  have hin := Lib.hid (fun w => in_nil f A c w)
  have hb0 := Lib.hid (al0 w (.cells (cf f A c) 31))
  go_enter Try.func9, Try.ntmps9
  unfold cf at *
  go_wp2_with (fail)
  refine (hin.out _).mono ?_
  rintro e w1 ⟨rfl, hB1⟩
  replace hB1 := Lib.hid (trans0 hb0.out hB1)
  clear hin hb0
  go_wp2_with (fail)
  refine (note_nil v w1).mono ?_
  rintro e w2 ⟨rfl, hB2⟩
  have hB3 := Lib.hid ((trans0 hB1.out hB2).trans ((al0 w2 (.cells #[.int .i64 0, .int .i64 0, .int .i64 0, .int .i64 0, .slice .none 0 0] 31)).mono (trans0 hB1.out hB2).size))
  clear hB1 hB2
  have hZ := Lib.hid (Z5.new w2)
  go_wp2_with (fail)
  refine (awake_any _).mono ?_
  rintro e w3 ⟨rfl, hB4⟩
  obtain ⟨⟨z0, z1, z2, z3, z4⟩, -⟩ := Z5.below hZ.out hB4
  have hB5 := Lib.hid (trans0 hB3.out hB4)
  clear hB3 hB4 hZ
  go_wp2_with (first
    | (go_at_call 12; ((with_reducible refine (send_nil _ _).mono ?_); rintro e w' ⟨rfl, rfl⟩))
    | (go_at_call 20; ((with_reducible refine (out_nil _).mono ?_); rintro e w' ⟨rfl, rfl⟩))
    | (go_at_call 22; ((with_reducible refine (waiting_nil _).mono ?_); rintro e w' ⟨rfl, rfl⟩))
    | (go_at_call 23; ((with_reducible refine (got_nil _).mono ?_); rintro e w' ⟨rfl, rfl⟩))
    | (go_at_call 24; ((with_reducible refine (epoch_nil _).mono ?_); rintro e w' ⟨rfl, rfl⟩)))
  go_ret
  exact ⟨rfl, hB5.out⟩
end Go.Proofs.Ythiadkpndemeeaa.lnkF
