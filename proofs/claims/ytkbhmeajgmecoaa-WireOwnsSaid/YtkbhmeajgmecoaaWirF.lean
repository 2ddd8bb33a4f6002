/- The bytes of a version, in both forms, of the program. -/
import Derived.Test.YtkbhmeajgmecoaaWirE
namespace Go.Proofs.Ytkbhmeajgmecoaa.wirF
open Go.ChangeShapes Go.WideShapes Go.ChangeAt Go.RowKit
open numM numN rowA byt numA numB numC numD numE wirM wirA wirD wirE

/-- What has been made since W: slices vs of bytes ls. -/
def Acc (W w : World) (vs : List Value) (ls : List (List Nat)) : Prop := Below W.heap.size W w ∧ PBs none w vs ls
theorem PBs.snoc {x : Option Nat} {w : World} {v : Value} {l : List Nat} (hp : PB x w v l) : ∀ {vs : List Value} {ls : List (List Nat)}, PBs x w vs ls → PBs x w (vs ++ [v]) (ls ++ [l])
  | [], [], _ => ⟨hp, trivial⟩
  | _ :: _, _ :: _, h => ⟨h.1, PBs.snoc hp h.2⟩
  | [], _ :: _, h => h.elim
  | _ :: _, [], h => h.elim
theorem PBs.below {x : Option Nat} {w w1 : World} (hB : Below w.heap.size w w1) {vs : List Value} {ls : List (List Nat)} (h : PBs x w vs ls) : PBs x w1 vs ls := h.kept (below_grown0 hB none) (.inr fun k e => by cases e)
theorem Acc.start {W w : World} (h : Below W.heap.size W w) : Acc W w [] [] := ⟨h, trivial⟩
/-- What a call answers that makes bytes, with all that was made ahead of it. -/
def MakesA (W w : World) (vs : List Value) (ls : List (List Nat)) (l : List Nat) (e : Ending) (w' : World) : Prop :=
  ∃ A cap, e = .returned (.slice A l.length cap) ∧ Acc W w' (vs ++ [.slice A l.length cap]) (ls ++ [l]) ∧ Below w.heap.size w w'
theorem acc_of {W w : World} {vs : List Value} {ls : List (List Nat)} {l : List Nat} {F : Nat} {args : Array Value} (h : Calls Try.prog F args w (Makes w l)) (ha : Acc W w vs ls) : Calls Try.prog F args w (MakesA W w vs ls l) := by
  refine h.mono ?_
  rintro e w' ⟨A, cap, rfl, ho, hB⟩
  exact ⟨A, cap, rfl, ⟨ha.1.trans (hB.mono ha.1.size), PBs.snoc (PB.of_own ho (by intro k e; cases e)) (PBs.below hB ha.2)⟩, hB⟩
/-- joined of what has been made, laid in a new row. -/
theorem joined_acc {W w : World} {vs : List Value} {ls : List (List Nat)} (ha : Acc W w vs ls) (cs : Array Value) (n c : Nat) (l : List Nat) (hcs : cs = vs.toArray) (hn : n = vs.length) (h1 : vs.length ≤ 1000) (hl : ls.flatten = l) (hsz : l.length ≤ 1099511627776) :
    Calls Try.prog 48 #[.slice (some ⟨w.heap.size, 0, none⟩) n c] (w.alloc (.cells cs 31)) fun e w' => Makes W l e w' ∧ Below (w.alloc (.cells cs 31)).heap.size (w.alloc (.cells cs 31)) w' := by
  subst hcs
  subst hl
  refine (joined_any none (some ⟨w.heap.size, 0, none⟩) n c ls _ (Lst.lit ha.2 (by intro k e; cases e) h1 31 n hn) hsz).mono ?_
  rintro e w' ⟨A, cap, rfl, ho, hB⟩
  refine ⟨⟨A, cap, rfl, Own.more (base' := W.heap.size) ho (by have := ha.1.size; simp; omega), ?_⟩, hB⟩
  exact ha.1.trans (((alloc_below w _).trans (hB.mono (by simp))).mono ha.1.size)

/-- A version's cells at block b, which is there. -/
abbrev SV (b : Nat) (v : Vr) (w : World) : Prop :=
  w.cell? ⟨b, 0, none⟩ = some (.string v.key) ∧ w.cell? ⟨b, 1, none⟩ = some (.string v.val) ∧ w.cell? ⟨b, 2, none⟩ = some (.bool v.gone) ∧
  w.cell? ⟨b, 3, none⟩ = some (.int .u64 v.ts) ∧ w.cell? ⟨b, 4, none⟩ = some (.int .i64 v.dc) ∧ w.cell? ⟨b, 5, none⟩ = some (.int .i64 v.tx) ∧ b < w.heap.size
theorem SV.below {b : Nat} {v : Vr} {w w1 : World} (h : SV b v w) (hB : Below w.heap.size w w1) : SV b v w1 := by
  obtain ⟨h0, h1, h2, h3, h4, h5, h6⟩ := h
  obtain ⟨hk, -⟩ := bcell hB
  refine ⟨?_, ?_, ?_, ?_, ?_, ?_, by have := hB.size; omega⟩
  all_goals (rw [hk _ _ h6]; assumption)
theorem SV.alloc {b : Nat} {v : Vr} {w : World} (h : SV b v w) (o : Obj) : SV b v (w.alloc o) := h.below (alloc_below w o)
theorem SV.new (w : World) (v : Vr) : SV w.heap.size v (w.alloc (.cells (cv v) 51)) := by
  have h := Box.ver (Box.new w (cv v) 51)
  obtain ⟨h0, h1, h2, h3, h4, h5⟩ := h
  exact ⟨h0, h1, h2, h3, h4, h5, by simp⟩
theorem SV.drew {b : Nat} {v : Vr} {w : World} (h : SV b v w) : SV b v w.drew := h

theorem tx1_len (s : ByteArray) (h : s.size ≤ 64) : (tx1 s).length ≤ 65 := by unfold tx1; rw [List.length_append, fx_len, sl_len]; omega
theorem tx_len (s : ByteArray) (h : s.size ≤ 64) : (tx s).length ≤ 74 := by
  unfold tx; rw [List.length_append, sl_len]; have := uv_len10 (show s.size < 18446744073709551616 by omega); omega
theorem flat6 (a b c d e f : List Nat) : [a, b, c, d, e, f].flatten.length = a.length + b.length + c.length + d.length + e.length + f.length := by simp; omega
set_option maxRecDepth 100000 in
set_option maxHeartbeats 1000000 in
theorem ever_any (v : Vr) (w : World) (h : v.ok) (ht : v.ts < 18446744073709551616) : Calls Try.prog 46 #[.agg (cv v)] w (Makes w (ev v)) := by
  obtain ⟨key, val, g, ts, dc, tx⟩ := v
  obtain ⟨hk, hv, d0, d1, t0, t1⟩ := h
  obtain ⟨d, rfl⟩ := Int.eq_ofNat_of_zero_le d0
  obtain ⟨x, rfl⟩ := Int.eq_ofNat_of_zero_le t0
  simp only at hk hv d1 t1 ht
  have k1 : key.size ≤ 64 := by omega
  have k4 : d < 256 := by omega
  have k5 : x < 4294967296 := by omega
  have e4 := wrap64_nat d (by omega)
  have e5 := wrap64_nat x (by omega)
  have hlen := Lib.hid (show (ev ⟨key, val, g, ts, d, x⟩).length ≤ 1099511627776 by
    have := tx1_len key k1
    have := tx1_len val hv
    unfold ev evs; rw [flat6, fx_len, fx_len, fx_len]; simp only [gb, List.length_singleton]; omega)
  clear d0 t0 hk
  have hS := Lib.hid (SV.new w ⟨key, val, g, ts, d, x⟩)
  have ha : Acc w (w.alloc (.cells (cv ⟨key, val, g, ts, d, x⟩) 51)).drew [] [] := Acc.start (alloc_below _ _).drew
  go_enter Try.func46, Try.ntmps46
  go_wp2
  go_region_held3 (SV w.heap.size ⟨key, val, g, ts, d, x⟩)
    (first | exact hS.out.drew | assumption | exact SV.below (by assumption) (by assumption) | exact SV.alloc (by assumption) _)
    (first
      | (go_at_call 45; ((with_reducible refine (acc_of (etext_any _ _ (by assumption)) (by assumption)).mono ?_); rintro e w' ⟨A, cap, rfl, hacc, hB⟩))
      | (go_at_call 78; ((with_reducible refine (acc_of (gone_any _ _) (by assumption)).mono ?_); rintro e w' ⟨A, cap, rfl, hacc, hB⟩))
      | (go_at_call 44; ((with_reducible refine (acc_of (wide8 _ _ (by assumption)) (by assumption)).mono ?_); rintro e w' ⟨A, cap, rfl, hacc, hB⟩))
      | (go_at_call 44; ((with_reducible refine (acc_of (wide1 _ _ (by assumption)) (by assumption)).mono ?_); rintro e w' ⟨A, cap, rfl, hacc, hB⟩))
      | (go_at_call 44; ((with_reducible refine (acc_of (wide4 _ _ (by assumption)) (by assumption)).mono ?_); rintro e w' ⟨A, cap, rfl, hacc, hB⟩))
      | (go_at_call 48; refine (joined_acc (W := w) (by assumption) _ _ _ (ev ⟨key, val, g, ts, d, x⟩) (by rfl) (by rfl) (by simp) (by rfl) hlen.out).mono ?_; rintro e w' ⟨⟨A, cap, rfl, ho, hB⟩, hB2⟩))
  rename_i ho hB hB2
  go_wp2
  go_ret
  exact Makes.of (l := ev ⟨key, val, g, ts, d, x⟩) rfl ho hB
end Go.Proofs.Ytkbhmeajgmecoaa.wirF
