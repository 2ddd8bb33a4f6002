/- The contracts of Lose, Twice, Back and Spoil, where they do it. -/
import Derived.Test.YtggoaglcffdcnaaNetE
namespace Go.Proofs.Ytggoaglcffdcnaa.netG
open Go.ChangeShapes Go.WideShapes Go.ChangeAt Go.RowKit Go.Deep
open numM rowA byt numA numB numC netA netB netC netD netE

section
variable {col : Nat → Nat} {c : Nat} {w w2 : World} {p : Nat} {vs : Nat → Value} {ms : Nat → List MP} {lost : Nat} {s : Ns} {f t : Int}
set_option maxRecDepth 100000 in
set_option maxHeartbeats 400000 in
theorem lose_ok (i : Nat) (w : World) (h : NetAt col c w p s) (hw : IsWay f t) (hi : i < (s.row (wn f t)).length) (hcn : s.lost < 1000000) :
    Calls Try.prog 25 #[.pointer (some ⟨p, 0, none⟩), .int .i64 f, .int .i64 t, .int .i64 i] w (Did col c p 0 (lostS (delS s (wn f t) i)) w) := by
  have hwi := Lib.hid (with_ok i _ h hw hi)
  have hk := wn_lt hw
  generalize wn f t = k at *
  obtain ⟨vs, ms, m, hI, he, hm, -, -⟩ := at_open h hk hi
  have hto := Lib.hid (takeOut_is hI hk hm)
  have hS : Hid (∀ w3, Taken col c p vs ms s.lost k i m w (.returned (.agg #[.slice m.A m.b.length m.c, .bool m.sp])) w3 →
      w3.cell? ⟨p, 441, none⟩ = some (.int .i64 s.lost) ∧ w3.frozen? ⟨p, 441, none⟩ = false ∧ Did col c p 0 (lostS (delS s k i)) w (.returned (.int .i64 (0 : Nat))) (w3.setCell ⟨p, 441, none⟩ (.int .i64 (s.lost + 1 : Nat)))) := Lib.hid fun w3 ⟨_, q1, ⟨v', q2⟩, q3⟩ => by
    obtain ⟨c1, c2⟩ := q2.cellL
    obtain ⟨q4, q5⟩ := q2.setLost (s.lost + 1)
    exact ⟨c1, c2, rfl, q1.trans q4 (fun b hb e => by rwa [rec_ext col w c b hb] at e), upd vs k v', upd ms k ((ms k).eraseIdx i), q5, map_del he hk i⟩
  have e1 := wrap_in ((s.lost : Int) + 1) (by omega) (by omega)
  have e2 : ((s.lost + 1 : Nat) : Int) = (s.lost : Int) + 1 := by omega
  rw [e2] at hS
  clear hI h hm hi he e2
  generalize hl : s.lost = n at *
  replace hl := Lib.hid hl
  go_enter Try.func25, Try.ntmps25
  go_wp2_with (first
    | (go_at_call 35; ((with_reducible refine (hwi.out).mono ?_); rintro e w' ⟨rfl, rfl⟩))
    | (go_at_call 39; ((with_reducible refine (hto.out).mono ?_); rintro e w3 hT; obtain rfl := hT.1; obtain ⟨z0, z1, hQ⟩ := hS.out _ hT; have hQ' := Lib.hid hQ; clear hT hQ)))
  go_ret
  exact hQ'.out

/-! ### Twice -/
def twE (s : Ns) (k : Nat) : Nat := if 48 ≤ (s.row k).length then 9 else 0
def twS (s : Ns) (k i : Nat) : Ns := if 48 ≤ (s.row k).length then s else addS s k (pkt s k i)
set_option maxRecDepth 100000 in
set_option maxHeartbeats 1000000 in
theorem twice_ok (i : Nat) (w : World) (h : NetAt col c w p s) (hw : IsWay f t) (hi : i < (s.row (wn f t)).length) :
    Calls Try.prog 21 #[.pointer (some ⟨p, 0, none⟩), .int .i64 f, .int .i64 t, .int .i64 i] w (Did col c p (twE s (wn f t)) (twS s (wn f t) i) w) := by
  have hwi := Lib.hid (with_ok i _ h hw hi)
  have hk := wn_lt hw
  generalize wn f t = k at *
  have hfu := full_any w h hk
  clear hw
  by_cases hfull : 48 ≤ (s.row k).length
  · rw [decide_eq_true hfull] at hfu
    replace hfu := Lib.hid hfu
    have hS : Hid (Did col c p (twE s k) (twS s k i) w (.returned (.int .i64 9)) w) := Lib.hid ⟨by unfold twE; rw [if_pos hfull]; rfl, Cg.refl _ _, by unfold twS; rw [if_pos hfull]; exact h.ext (rec_ext col w c)⟩
    clear h hi hfull
    go_enter Try.func21, Try.ntmps21
    go_wp2_with (first
      | (go_at_call 35; ((with_reducible refine (hwi.out).mono ?_); rintro e w' ⟨rfl, rfl⟩))
      | (go_at_call 37; ((with_reducible refine (hfu.out).mono ?_); rintro e w' ⟨rfl, rfl⟩)))
    go_ret
    exact hS.out
  · rw [decide_eq_false hfull] at hfu
    replace hfu := Lib.hid hfu
    obtain ⟨i0, hi0, hz0, hz1, hz2⟩ := info_parts infoP
    obtain ⟨vs, ms, m, hI, he, hm, hpk, hlen⟩ := at_open h hk hi
    obtain ⟨g, cp, hv, hglt, hnc, hc9, c0, c1, -, hgp, hgo⟩ := NetIs_at hI hk hm
    obtain ⟨k1, k2, -⟩ := hI.cell hk
    rw [hv] at k1
    have hle := hI.le k hk
    have hplt := hI.row.lt
    have hmem := List.mem_of_getElem? hm
    have hown := hI.byt k hk m hmem
    have hbl := hI.bl k hk m hmem
    rw [hlen] at hfull hi
    have hE : Hid (twE s k = 0 ∧ twS s k i = addS s k (m.b, m.sp)) := Lib.hid ⟨if_neg (by rw [hlen]; exact hfull), by unfold twS; rw [if_neg (by rw [hlen]; exact hfull), hpk]⟩
    have hO : Hid (∀ w2, Below w.heap.size w w2 → w2.ownsRow 0 45 2 (.slice (some ⟨g, 0, none⟩) (ms k).length cp) (ms k).length (fl MP.cs (ms k))) := Lib.hid fun w2 hB => by rw [← hv]; exact (hI.below hB).own k hk
    have hfar : Hid (∀ w2 w9, Below w.heap.size w w2 → w2.grownBy w9 (Value.slice (some ⟨g, 0, none⟩) (ms k).length cp).ownBlock → w9.cell? ⟨p, k, none⟩ = some (.slice (some ⟨g, 0, none⟩) (ms k).length cp) ∧ w9.frozen? ⟨p, k, none⟩ = false) := Lib.hid fun w2 w9 hB hg => by
      have h2 := hI.below hB
      have hr : w9.rowIs p 64 442 (cN vs s.lost) := h2.row.of_block (hg.block p h2.row.lt (fun e => row_apart h2.row (h2.own k hk) (by decide) (by rw [hv]; exact e.symm)))
      refine ⟨?_, hr.frozen k⟩
      rw [hr.cell (i := k) (by omega)]
      unfold cN; rw [if_neg (by omega), hv]
    have hS : Hid (∀ w1 w9 A2 c2 A9 c9, Below w.heap.size w w1 → Own w1 w.heap.size (.slice A2 m.b.length c2) m.b.length m.b → w9.ownsRow 0 45 2 (.slice A9 ((ms k).length + 1) c9) ((ms k).length + 1) (fl MP.cs (ms k) ++ [.slice A2 m.b.length c2, .bool m.sp]) →
        (w1.alloc (.cells #[.slice A2 m.b.length c2, .bool m.sp] 45)).grownBy w9 (Value.slice (some ⟨g, 0, none⟩) (ms k).length cp).ownBlock →
        ((Value.slice A9 ((ms k).length + 1) c9).ownBlock = (Value.slice (some ⟨g, 0, none⟩) (ms k).length cp).ownBlock ∨ (Value.slice A9 ((ms k).length + 1) c9).ownBlock = some (w1.alloc (.cells #[.slice A2 m.b.length c2, .bool m.sp] 45)).heap.size) →
        Did col c p (twE s k) (twS s k i) w (.returned (.int .i64 0)) (w9.setCell ⟨p, k, none⟩ (.slice A9 ((ms k).length + 1) c9))) := Lib.hid fun w1 w9 A2 c2 A9 c9 hB ho hr hg hat => by
      obtain ⟨q1, q2⟩ := hE.out
      refine ⟨by rw [q1]; rfl, ?_⟩
      rw [q2]
      have hBa := trans0 hB (al0 w1 (.cells #[.slice A2 m.b.length c2, .bool m.sp] 45))
      have hsz : w1.heap.size ≤ (w1.alloc (.cells #[.slice A2 m.b.length c2, .bool m.sp] 45)).heap.size := (al0 _ _).size
      have hapart : ∀ b, (Value.slice A2 m.b.length c2).ownBlock = some b → some b ≠ (Value.slice (some ⟨g, 0, none⟩) (ms k).length cp).ownBlock := fun b e e2 => by
        have := (own_ge ho e).1
        have := hI.vlt hk (b := b) (by rw [hv]; exact e2.symm)
        omega
      refine at_add hI he hk ⟨m.b, m.sp, A2, c2⟩ (by rw [hv]; exact grown_of hBa hg) hr (fun b e => ?_) (own_blk ho fun b e => ?_) hbl (by omega)
      · rw [hv]
        rcases hat with h1 | h1
        · rw [h1] at e; exact .inl e
        · rw [h1] at e; cases e; exact .inr hBa.size
      · exact (hg.block b (Nat.lt_of_lt_of_le (own_ge ho e).2 hsz) (hapart b e)).trans ((al0 w1 _).block b (own_ge ho e).2)
    have hli := Lib.hid (like_any m.A m.c m.b m.sp w.drew (own_bl hown) (own_nil hown) (by omega))
    have hmn : (i : Int) < ((ms k).length : Int) := by omega
    have hm0 : (0 : Int) ≤ (i : Int) := by omega
    clear hI he hfull hE hv hlen h hown hm hpk hmem
    generalize (ms k).length = n at *
    generalize fl MP.cs (ms k) = xs at *
    have hls := Lib.hid (show n + 1 ≤ maxLen by unfold maxLen; omega)
    go_enter Try.func21, Try.ntmps21
    go_wp2_with (first
      | (go_at_call 35; ((with_reducible refine (hwi.out).mono ?_); rintro e w' ⟨rfl, rfl⟩))
      | (go_at_call 37; ((with_reducible refine (hfu.out).mono ?_); rintro e w' ⟨rfl, rfl⟩)))
    go_region_law (first
      | (go_simp; go_at_call 36; (with_reducible refine (hli.out).mono ?_); rintro e w' ⟨A2, c2, rfl, ho, hB⟩; have hB' := Lib.hid (undrew hB); have ho' := Lib.hid ho; have hpw := Nat.lt_of_lt_of_le hplt (undrew hB).size; have hp2 := (hB.cell (p := ⟨p, k, none⟩) hplt).trans k1; clear hB ho)
      | (refine step_gen rfl (.tmp 29) (.tmp 37) 60 rfl 0 45 i0 _ 2 32 Try.underlying60 hi0 hz0 hz1 hz2 rfl (by decide) _ n xs (by rfl) (hO.out _ (trans0 hB'.out (al0 _ _))) (some ⟨_, 0, none⟩) 1 1 [_, _] (by rfl) rfl (stand_new _ _ _ _) (by intro u hu; simp only [List.mem_cons, List.not_mem_nil, or_false] at hu; rcases hu with rfl | rfl <;> rfl) hls.out (by omega) (Nat.zero_le _) ?_; intro A9 c9 w9 hr9 hg9 hat9; obtain ⟨q2, q3⟩ := hfar.out _ _ (trans0 hB'.out (al0 _ _)) hg9))
    all_goals
      go_wp2
      go_ret
      exact hS.out _ _ _ _ _ _ hB'.out ho'.out hr9 hg9 hat9
end
end Go.Proofs.Ytggoaglcffdcnaa.netG
