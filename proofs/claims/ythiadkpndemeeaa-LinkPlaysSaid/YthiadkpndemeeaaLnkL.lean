/- The contracts of alike and of Same: rows of frames, and of bodies, that are the same; LinkAlien. -/
import Derived.Test.YthiadkpndemeeaaLnkJ
import Derived.Test.YthiadkpndemeeaaLnkP
namespace Go.Proofs.Ythiadkpndemeeaa.lnkL
open Go.ChangeShapes Go.WideShapes Go.ChangeAt Go.RowKit Go.Deep
open numM rowA byt numA numB numC lnkA lnkB lnkC lnkD lnkE lnkF lnkG lnkH lnkI lnkJ lnkP

/-- The n frames at A are fs. -/
def FQ (w : World) (A : Option Addr) (n : Nat) (fs : Nat → Fm) : Prop := n ≤ 9223372036854775807 ∧ ∀ i, i < n → ∃ b off B c, A = some ⟨b, off, none⟩ ∧
  (w.cell? ⟨b, off + i * 5, none⟩ = some (.int .i64 (fs i).v) ∧ w.cell? ⟨b, off + i * 5 + 1, none⟩ = some (.int .i64 (fs i).e) ∧ w.cell? ⟨b, off + i * 5 + 2, none⟩ = some (.int .i64 (fs i).s) ∧ w.cell? ⟨b, off + i * 5 + 3, none⟩ = some (.int .i64 (fs i).a) ∧ w.cell? ⟨b, off + i * 5 + 4, none⟩ = some (.slice B (fs i).body.length c)) ∧
  BL w B (fs i).body.length (fs i).body
theorem FQ.of {w : World} {lo n : Nat} {v : Value} {fs : Nat → Fm} (h : FR w lo v n fs) (hn : n ≤ 9223372036854775807) : ∃ A, v = .slice A n n ∧ FQ w A n fs := by
  obtain ⟨g, rfl, -, -, hat⟩ := FR.at h
  refine ⟨_, rfl, hn, fun i hi => ?_⟩
  obtain ⟨B, c, h1, h2⟩ := hat i hi
  exact ⟨g, 0, B, c, rfl, by simpa using h1, own_bl h2⟩
theorem FQ.below {w w1 : World} {A : Option Addr} {n : Nat} {fs : Nat → Fm} (h : FQ w A n fs) (hB : Below w.heap.size w w1) : FQ w1 A n fs := by
  refine ⟨h.1, fun i hi => ?_⟩
  obtain ⟨b, off, B, c, rfl, h1, h2⟩ := h.2 i hi
  have hlt := World.block_lt_of_cell? _ _ h1.1
  have e : ∀ o, w1.cell? ⟨b, o, none⟩ = w.cell? ⟨b, o, none⟩ := fun o => hB.cell (p := ⟨b, o, none⟩) hlt
  refine ⟨b, off, B, c, rfl, ?_, h2.below hB⟩
  rw [e, e, e, e, e]; exact h1
theorem run_strN {w : World} {A : Option Addr} {n : Nat} {l : List Nat} (c : Nat) (h : BL w A n l) (m : Nat) : (convert 29 9 (.slice A n c)).run Try.prog (w.drewN m) = .ok (.string (strOf l)) (w.drewN m) :=
  run_str (P := Try.prog) (w := w.drewN m) 29 5 9 Try.underlying29 Try.underlying5 Try.underlying9 c h
set_option maxRecDepth 100000 in
set_option maxHeartbeats 1000000 in
theorem alike_any (A : Option Addr) (n c : Nat) (B : Option Addr) (d : Nat) (fs : Nat → Fm) (w : World) (h1 : FQ w A n fs) (h2 : FQ w B n fs) :
    Calls Try.prog 19 #[.slice A n c, .slice B n d] w fun e w' => e = .returned (.bool true) ∧ Below w.heap.size w w' := by
  have hn := h1.1
  replace h1 := Lib.hid h1
  replace h2 := Lib.hid h2
  go_enter Try.func19, Try.ntmps19
  go_wp2
  go_loopw [13] (fun i wr => ∃ k : Nat, k ≤ n ∧ i = .int .i64 k ∧ Hid (Below w.heap.size w wr)) (fun i _ => n - (intOf i).toNat)
  case atStart => exact ⟨0, by omega, rfl, Below.refl _ _⟩
  case round =>
    obtain ⟨k, hk, rfl, hB⟩ := hrel
    by_cases hlt : k < n
    · obtain ⟨b, off, B1, c1, rfl, ⟨k0, k1, k2, k3, k4⟩, hb⟩ := (h1.out.below hB.out).2 k hlt
      obtain ⟨b', off', B2, c2, rfl, ⟨l0, l1, l2, l3, l4⟩, hb'⟩ := (h2.out.below hB.out).2 k hlt
      have e1 := fun m => run_strN c1 hb m
      have e2 := fun m => run_strN c2 hb' m
      have z1 : (0 : Int) ≤ (k : Int) := by omega
      have z2 : (k : Int) < (n : Int) := by omega
      have hBd := Lib.hid (fun m => trans0 hB.out (lnkI.below_drewN wr m))
      clear hb hb' hB
      generalize fs k = F at *
      generalize strOf F.body = T at *
      have x0 : (F.v != F.v) = false := by simp
      have x1 : (F.e != F.e) = false := by simp
      have x2 : (F.s != F.s) = false := by simp
      have x3 : (F.a != F.a) = false := by simp
      go_wp2
      go_quiet (fail)
      go_wp2
      go_roundw
      case rel => exact ⟨k + 1, by omega, by go_num, hBd.out nq⟩
      case measure => simp [intOf]; omega
    · obtain rfl : k = n := by omega
      go_wp2
      go_ret
      exact ⟨rfl, hB.out⟩

/-- The n bodies at A are ls. -/
def LQ (w : World) (A : Option Addr) (n : Nat) (ls : List (List Nat)) : Prop := n ≤ 9223372036854775807 ∧ ∀ i, i < n → ∃ b off B c, A = some ⟨b, off, none⟩ ∧ w.cell? ⟨b, off + i, none⟩ = some (.slice B (lth ls i).length c) ∧ BL w B (lth ls i).length (lth ls i)
theorem LQ.below {w w1 : World} {A : Option Addr} {n : Nat} {ls : List (List Nat)} (h : LQ w A n ls) (hB : Below w.heap.size w w1) : LQ w1 A n ls := by
  refine ⟨h.1, fun i hi => ?_⟩
  obtain ⟨b, off, B, c, rfl, h1, h2⟩ := h.2 i hi
  exact ⟨b, off, B, c, rfl, by rw [hB.cell (p := ⟨b, off + i, none⟩) (World.block_lt_of_cell? _ _ h1)]; exact h1, h2.below hB⟩
theorem LQ.of {col : Nat → Nat} {w : World} {base n : Nat} {v : Value} {xs : List Value} {ls : List (List Nat)} (h : w.ownsRow base 29 1 v n xs) (hd : Dats col w xs ls) (hn : n ≤ 9223372036854775807) : ∃ A c, v = .slice A n c ∧ LQ w A n ls := by
  have hl : xs.length = n := by have := h.1; omega
  rcases h.2 with ⟨rfl, rfl⟩ | ⟨g, cap, cur, rfl, _⟩
  · exact ⟨none, 0, rfl, by omega, fun i hi => by omega⟩
  · refine ⟨_, cap, rfl, hn, fun i hi => ?_⟩
    obtain ⟨u, hu, B, c, rfl, hb, -⟩ := hd.get (i := i) (by rw [← hd.len]; omega)
    have := h.cells (g := g) rfl i _ hu
    rw [add_plain] at this
    exact ⟨g, 0, B, c, rfl, this, hb⟩
set_option maxRecDepth 100000 in
set_option maxHeartbeats 1000000 in
theorem sames_any (A : Option Addr) (n c : Nat) (B : Option Addr) (d : Nat) (ls : List (List Nat)) (w : World) (h1 : LQ w A n ls) (h2 : LQ w B n ls) :
    Calls Try.prog 16 #[.slice A n c, .slice B n d] w fun e w' => e = .returned (.bool true) ∧ Below w.heap.size w w' := by
  have hn := h1.1
  replace h1 := Lib.hid h1
  replace h2 := Lib.hid h2
  go_enter Try.func16, Try.ntmps16
  go_wp2
  go_loopw [5] (fun i wr => ∃ k : Nat, k ≤ n ∧ i = .int .i64 k ∧ Hid (Below w.heap.size w wr)) (fun i _ => n - (intOf i).toNat)
  case atStart => exact ⟨0, by omega, rfl, Below.refl _ _⟩
  case round =>
    obtain ⟨k, hk, rfl, hB⟩ := hrel
    by_cases hlt : k < n
    · obtain ⟨b, off, B1, c1, rfl, k0, hb⟩ := (h1.out.below hB.out.drew).2 k hlt
      obtain ⟨b', off', B2, c2, rfl, l0, hb'⟩ := (h2.out.below hB.out.drew).2 k hlt
      have e1 := run_str (P := Try.prog) 29 5 9 Try.underlying29 Try.underlying5 Try.underlying9 c1 hb
      have e2 := run_str (P := Try.prog) 29 5 9 Try.underlying29 Try.underlying5 Try.underlying9 c2 hb'
      have k0' : wr.cell? ⟨b, off + k, none⟩ = some (.slice B1 (lth ls k).length c1) := k0
      have l0' : wr.cell? ⟨b', off' + k, none⟩ = some (.slice B2 (lth ls k).length c2) := l0
      have hBd := Lib.hid hB.out.drew
      clear hb hb' k0 l0 hB
      generalize lth ls k = F at *
      generalize strOf F = T at *
      go_wp2
      go_region
      go_wp2
      go_roundw
      case rel => exact ⟨k + 1, by omega, by go_num, hBd⟩
      case measure => simp [intOf]; omega
    · obtain rfl : k = n := by omega
      go_wp2
      go_ret
      exact ⟨rfl, hB.out⟩
end Go.Proofs.Ythiadkpndemeeaa.lnkL
