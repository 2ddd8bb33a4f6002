/- The contract of In, whole; LinkWindow. -/
import Derived.Test.YthiadkpndemeeaaLnkI
import Derived.Test.YthiadkpndemeeaaLnkF
namespace Go.Proofs.Ythiadkpndemeeaa.lnkJ
open Go.ChangeShapes Go.WideShapes Go.ChangeAt Go.RowKit Go.Deep
open numM rowA byt numA numB numC lnkA lnkB lnkC lnkD lnkE lnkF lnkG lnkH lnkI

theorem in_any {col : Nat → Nat} {c p : Nat} {s : St} (f : Fm) (A : Option Addr) (cap : Nat) (w : World) (h : EndAt col c w p s) (hb : BL w A f.body.length f.body) (hl : f.body.length ≤ 140737488355328) (hA : ∀ y, A = some y → col y.block ≠ c) (hc : c ≠ 0) (hf : Fresh col w)
    (hcn : s.cnt + 2 ≤ 1000000) (hs9 : f.s ≤ 9223372036854775807) :
    Calls Try.prog 14 #[.pointer (some ⟨p, 0, none⟩), .agg (cf f A cap)] w (Inned col c p s f w) := by
  by_cases h1 : f.e = s.ep
  · by_cases h2 : f.s < 0 ∨ f.a < 0 ∨ s.acked + outN s < f.a
    · exact in_arg f A cap w h h1 h2
    · exact in_rest f A cap w h hb hl hA hc hf hcn hs9 h1 h2
  · exact in_kind f A cap w h h1

/-! ### LinkWindow -/
def sW (ep : Int) (k : Nat) : St := ⟨ep, 0, (List.range k).map (fun i => [i]), 0, fun _ => none, k⟩
theorem sW_0 (ep : Int) : sW ep 0 = St.new ep := rfl
theorem sW_len (ep : Int) (k : Nat) : (sW ep k).wait.length = k := by simp [sW]
theorem sW_put (ep : Int) (k : Nat) : stPut (sW ep k) [k] = sW ep (k + 1) := by unfold stPut sW; rw [List.range_succ]; simp
theorem sW_send {ep : Int} {k : Nat} (h : k < 60) : sendE (sW ep k) [k] = 0 ∧ sendS (sW ep k) [k] = sW ep (k + 1) := by
  unfold sendE sendS
  rw [if_neg (by simp), if_neg (by rw [sW_len]; omega), if_neg (by simp), if_neg (by rw [sW_len]; omega)]
  exact ⟨rfl, sW_put ep k⟩
theorem sW_long {ep : Int} {k : Nat} {l : List Nat} (h : 1048576 < l.length) : sendE (sW ep k) l = 6 ∧ sendS (sW ep k) l = sW ep k := by
  unfold sendE sendS
  rw [if_pos h, if_pos h]
  exact ⟨rfl, rfl⟩
/-- an end of the call's own, in a world behind w -/
def Mine (w : World) (p : Nat) (s : St) (wr : World) : Prop := ∃ col, EndAt col 1 wr p s ∧ Fresh col wr ∧ Below w.heap.size w wr ∧ ∀ i, i < w.heap.size → col i = 0
theorem Mine.new {w w1 : World} {ep : Int} {p : Nat} (h : ∀ (col : Nat → Nat) (c : Nat), (∀ i, w.heap.size ≤ i → i < w1.heap.size → col i = c) → EndAt col c w1 p (St.new ep)) (hB : Below w.heap.size w w1) : Mine w p (St.new ep) w1 := by
  obtain ⟨h1, h2⟩ := Newd.at h 1
  exact ⟨_, h1, h2, hB, fun i hi => colOf_lo hi⟩
theorem Mine.below {w w1 w2 : World} {p : Nat} {s : St} (h : Mine w p s w1) (hB : Below w1.heap.size w1 w2) : Mine w p s w2 := by
  obtain ⟨col, h1, h2, h3, h4⟩ := h
  exact ⟨col, h1.below hB, h2.below hB, h3.trans (hB.mono h3.size), h4⟩
theorem Mine.send {w w1 w2 : World} {p : Nat} {s : St} {col : Nat → Nat} {l : List Nat} {e : Ending} (h2 : Below w.heap.size w w1) (h4 : ∀ i, i < w.heap.size → col i = 0) (hs : Sent col 1 p s l w1 e w2) : e = .returned (.int .i64 (sendE s l)) ∧ Mine w p (sendS s l) w2 := by
  obtain ⟨h5, col', h6, h7, h8, h9⟩ := hs
  refine ⟨h5, col', h9, h7, h2.trans (h8.below h2.size (fun i hi => by rw [h4 i hi]; decide)), fun i hi => ?_⟩
  have := h2.size
  rw [h6 i (by omega)]; exact h4 i hi
theorem mine_send {w w1 : World} {p : Nat} {s : St} (A : Option Addr) (cap : Nat) (l : List Nat) (h : Mine w p s w1) (hb : BL w1 A l.length l) (hcn : s.cnt < 1000000) :
    Calls Try.prog 12 #[.pointer (some ⟨p, 0, none⟩), .slice A l.length cap] w1 fun e w' => e = .returned (.int .i64 (sendE s l)) ∧ Mine w p (sendS s l) w' := by
  obtain ⟨col, h1, h2, h3, h4⟩ := h
  exact (send_any A cap l w1 h1 hb (by decide) h2 hcn).mono fun e w' hs => Mine.send h3 h4 hs
theorem mine_out {w w1 : World} {p : Nat} {s : St} (h : Mine w p s w1) :
    Calls Try.prog 20 #[.pointer (some ⟨p, 0, none⟩)] w1 fun e w' => ∃ v, e = .returned v ∧ FR w' w1.heap.size v (outN s) (outF s) ∧ Mine w p s w' ∧ Below w1.heap.size w1 w' := by
  have h0 := h
  obtain ⟨col, h1, h2, h3, h4⟩ := h
  exact (out_any w1 h1).mono fun e w' ⟨v, h5, h6, h7⟩ => ⟨v, h5, h6, h0.below h7, h7⟩
theorem mine_waiting {w w1 : World} {p : Nat} {s : St} (h : Mine w p s w1) :
    Calls Try.prog 22 #[.pointer (some ⟨p, 0, none⟩)] w1 fun e w' => e = .returned (.int .i64 s.wait.length) ∧ w1 = w' := by obtain ⟨col, h1, -⟩ := h; exact waiting_any w1 h1
theorem mine_got {w w1 : World} {p : Nat} {s : St} (h : Mine w p s w1) :
    Calls Try.prog 23 #[.pointer (some ⟨p, 0, none⟩)] w1 fun e w' => e = .returned (.int .i64 s.got) ∧ w1 = w' := by obtain ⟨col, h1, -⟩ := h; exact got_any w1 h1
/-- What In answers, of an end of the call's own. -/
def MIn (w : World) (p : Nat) (s : St) (f : Fm) (w1 : World) (e : Ending) (w' : World) : Prop :=
  ∃ b us col, e = .returned (.tuple #[b, .int .i64 (inE s f)]) ∧ w'.ownsRow w1.heap.size 29 1 b (inL s f).length us ∧ Dats col w' us (inL s f) ∧ Mine w p (inS s f) w' ∧ Below w.heap.size w w' ∧ w1.heap.size ≤ w'.heap.size
theorem mine_in {w w1 : World} {p : Nat} {s : St} (f : Fm) (A : Option Addr) (cap : Nat) (h : Mine w p s w1) (hb : BL w1 A f.body.length f.body) (hl : f.body.length ≤ 140737488355328) (hA : (∀ y, A = some y → y.block < w.heap.size) ∨ ∃ w0, Mine w p s w0 ∧ Below w0.heap.size w0 w1 ∧ ∀ y, A = some y → w0.heap.size ≤ y.block)
    (hcn : s.cnt + 2 ≤ 1000000) (hs9 : f.s ≤ 9223372036854775807) :
    Calls Try.prog 14 #[.pointer (some ⟨p, 0, none⟩), .agg (cf f A cap)] w1 (MIn w p s f w1) := by
  rcases hA with hA | ⟨w0, h0, hB, hA⟩
  · obtain ⟨col, h1, h2, h3, h4⟩ := h
    refine (in_any f A cap w1 h1 hb hl (fun y e => by rw [h4 _ (hA y e)]; decide) (by decide) h2 hcn hs9).mono ?_
    rintro e w' ⟨b, us, e1, e2, e3, e4, e5⟩
    have hB' := h3.trans (e4.below h3.size (fun i hi => by rw [h4 i hi]; decide))
    exact ⟨b, us, col, e1, e2, e3, ⟨col, e5, h2.size e4.size, hB', h4⟩, hB', e4.size⟩
  · obtain ⟨col, h1, h2, h3, h4⟩ := h0
    have h3' : Below w.heap.size w w1 := h3.trans (hB.mono h3.size)
    refine (in_any f A cap w1 (h1.below hB) hb hl (fun y e => by rw [h2 _ (hA y e)]; decide) (by decide) (h2.below hB) hcn hs9).mono ?_
    rintro e w' ⟨b, us, e1, e2, e3, e4, e5⟩
    have hB' := h3'.trans (e4.below h3'.size (fun i hi => by rw [h4 i hi]; decide))
    exact ⟨b, us, col, e1, e2, e3, ⟨col, e5, (h2.below hB).size e4.size, hB', h4⟩, hB', e4.size⟩

theorem own_zero {w : World} {base n : Nat} {v : Value} (h : w.ownsRow base 5 1 v n (madeCells #[Value.int .u8 0] n).toList) (hn : n ≤ 9223372036854775807) : Own w base v n (List.replicate n 0) := by
  refine ⟨by simp, fun c hc => by rw [List.eq_of_mem_replicate hc]; decide, hn, ?_⟩
  have e : (madeCells #[Value.int .u8 0] n).toList = ub (List.replicate n 0) := by
    apply List.ext_getElem
    · simp [ub, size_madeCells]
    · intro i h1 h2
      simp [ub, madeCells, Nat.mod_one]
  rw [← e]; exact h
theorem win_run (M : Nat) (h : 1 ≤ M) : runLen (fun k => if k = M then some [120] else none) 0 17 = if M = 1 then 1 else 0 := by
  by_cases e : M = 1
  · subst e; rfl
  · rw [if_neg e]
    unfold runLen
    rw [if_neg (by rw [if_neg (by omega)]; simp)]
theorem win_in (ep : Int) (N M : Nat) (h : 1 ≤ M) (h2 : M ≤ 40) :
    inE (sW ep N) ⟨0, ep, M, 0, [120]⟩ = (if 16 < M then 9 else 0) ∧ (inL (sW ep N) ⟨0, ep, M, 0, [120]⟩).length = (if M = 1 then 1 else 0) ∧ (16 < M → (inS (sW ep N) ⟨0, ep, M, 0, [120]⟩).got = 0) := by
  have c1 : ¬ ((⟨0, ep, M, 0, [120]⟩ : Fm).e ≠ (sW ep N).ep) := by simp [sW]
  have c2 : ¬ ((⟨0, ep, M, 0, [120]⟩ : Fm).s < 0 ∨ (⟨0, ep, M, 0, [120]⟩ : Fm).a < 0 ∨ ((sW ep N).acked : Int) + outN (sW ep N) < (⟨0, ep, M, 0, [120]⟩ : Fm).a) := by
    show ¬ ((M : Int) < 0 ∨ (0 : Int) < 0 ∨ (((sW ep N).acked : Nat) : Int) + (outN (sW ep N) : Nat) < 0)
    omega
  have c3 : ¬ ((⟨0, ep, M, 0, [120]⟩ : Fm).s ≤ ((sW ep N).got : Int)) := by
    show ¬ ((M : Int) ≤ ((0 : Nat) : Int)); omega
  have ha : ackS (sW ep N) (⟨0, ep, M, 0, [120]⟩ : Fm).a = sW ep N := by
    unfold ackS; rw [if_pos (by show (0 : Int) ≤ ((0 : Nat) : Int); omega)]
  have c4 : (16 < (⟨0, ep, M, 0, [120]⟩ : Fm).s - ((sW ep N).got : Int)) ↔ 16 < M := by
    show (16 < (M : Int) - ((0 : Nat) : Int)) ↔ 16 < M; omega
  refine ⟨?_, ?_, fun h16 => ?_⟩
  · unfold inE
    rw [if_neg c1, if_neg c2, if_neg c3]
    by_cases g : 16 < M
    · rw [if_pos (c4.2 g), if_pos g]
    · rw [if_neg (fun q => g (c4.1 q)), if_neg g]
  · unfold inL
    rw [if_neg c1, if_neg c2, if_neg c3]
    by_cases g : 16 < M
    · rw [if_pos (c4.2 g), if_neg (by omega)]; rfl
    · rw [if_neg (fun q => g (c4.1 q)), ha]
      unfold turnL
      rw [takeL_len]
      unfold turnN keepS
      rw [if_neg (by simp [sW])]
      exact win_run M h
  · unfold inS
    rw [if_neg c1, if_neg c2, if_neg c3, if_pos (c4.2 h16), ha]
    rfl
theorem wrap8 (k : Nat) (h : k < 60) : IntKind.u8.wrap (k : Int) = k := by rw [IntKind.wrap_u8]; omega
theorem mod_of (n0 : Int) (m : Nat) (hm : 0 < m) (hm2 : m ≤ 100) : ∃ N : Nat, wrap64 ((IntKind.u64.wrap n0).tmod m) = N ∧ N < m := by
  have h0 : 0 ≤ IntKind.u64.wrap n0 := by rw [IntKind.wrap_u64]; omega
  have e : (IntKind.u64.wrap n0).tmod m = (IntKind.u64.wrap n0) % m := Int.tmod_eq_emod_of_nonneg h0
  have h1 := Int.emod_nonneg (IntKind.u64.wrap n0) (show (m : Int) ≠ 0 by omega)
  have h2 := Int.emod_lt_of_pos (IntKind.u64.wrap n0) (show (0 : Int) < (m : Int) by omega)
  refine ⟨((IntKind.u64.wrap n0) % m).toNat, ?_, by omega⟩
  rw [e, IntWalk.wrap64_in _ ⟨by omega, by omega⟩]
  omega
theorem one_cell8 (w : World) (k : Nat) (h : k < 256) : BL (w.alloc (.cells #[.int .u8 k] 5)) (some ⟨w.heap.size, 0, none⟩) [k].length [k] := one_byte w k h
theorem one120 (w : World) : BL (w.alloc (.cells #[.int .u8 120] 5 (1, 2))) (some ⟨w.heap.size, 0, none⟩) [120].length [120] := by
  refine ⟨rfl, by simp, by simp, .inr ⟨w.heap.size, 0, rfl, by simp, fun i hi => ?_⟩⟩
  obtain rfl : i = 0 := by simp at hi; omega
  exact World.cell?_alloc_mark w #[.int .u8 120] 5 (1, 2) 0
set_option maxRecDepth 100000 in
set_option maxHeartbeats 2000000 in
theorem window (ep n0 a0 : Int) (w : World) :
    Calls Try.prog 7 #[.int .i64 ep, .int .i64 n0, .int .i64 a0] w fun e w' => e = .returned (.bool true) ∧ Below w.heap.size w w' := by
  obtain ⟨i0, hi, hz0, hz1, hz2⟩ := info_parts bytes8
  have kc := fun (w : World) (C : Array Value) (n c : Nat) => Lib.run_convert_bytes_const (P := Try.prog) w 29 5 C n c Try.underlying29 Try.underlying5
  obtain ⟨N, hN, hN60⟩ := mod_of n0 60 (by omega) (by omega)
  obtain ⟨M, hM0, hM40⟩ := mod_of a0 40 (by omega) (by omega)
  have hN' : wrap64 ((IntKind.u64.wrap n0).tmod 60) = N := hN
  have hM' : wrap64 ((IntKind.u64.wrap a0).tmod 40) = M := hM0
  clear hN hM0
  replace kc := Lib.hid kc
  go_enter Try.func7, Try.ntmps7
  go_wp2_with (fail)
  refine (new_any ep w).mono ?_
  rintro e w1 ⟨p, rfl, hB1, hp1, hp2, hcol⟩
  have hM := Lib.hid (Mine.new hcol hB1)
  clear hB1 hcol
  replace hN' := Lib.hid hN'
  replace hM' := Lib.hid hM'
  go_wp2_with (fail)
  rw [hN'.out]
  clear hN'
  go_loopw [21] (fun i wr => ∃ k : Nat, k ≤ N ∧ i = .int .i64 k ∧ Hid (Mine w p (sW ep k) wr)) (fun i _ => N - (intOf i).toNat)
  case atStart => exact ⟨0, by omega, rfl, hM⟩
  case round =>
    clear hM
    obtain ⟨k, hk, rfl, hM⟩ := hrel
    by_cases hlt : k < N
    · have hw8 := wrap8 k (by omega)
      obtain ⟨s1, s2⟩ := sW_send (ep := ep) (show k < 60 by omega)
      have hM2 := Lib.hid (hM.out.below (al0 wr (.cells #[.int .u8 k] 5)))
      have hb2 := Lib.hid (one_cell8 wr k (by omega))
      have hs12 := Lib.hid (And.intro s1 s2)
      have hcn := Lib.hid (show (sW ep k).cnt < 1000000 from by show k < 1000000; omega)
      clear s1 s2 hM
      go_wp2_with (fail)
      refine (mine_send (some ⟨wr.heap.size, 0, none⟩) 1 [k] hM2.out hb2.out hcn.out).mono ?_
      rintro e w3 ⟨rfl, hM3⟩
      rw [hs12.out.1]
      rw [hs12.out.2] at hM3
      replace hM3 := Lib.hid hM3
      clear hM2 hb2 hcn hs12
      go_wp2
      go_roundw
      case rel => exact ⟨k + 1, by omega, by go_num, hM3⟩
      case measure => simp [intOf]; omega
    · obtain rfl : k = N := by omega
      go_wp2_with (fail)
      refine (mine_out hM.out).mono ?_
      rintro e w2 ⟨v, rfl, hR, hM2, -⟩
      obtain ⟨g, rfl, -⟩ := hR
      have hon : outN (sW ep k) = min k 16 := by unfold outN; rw [sW_len]
      rw [hon]
      have hM2' := Lib.hid hM2
      have hlen := Lib.hid (sW_len ep k)
      clear hM hM2 hon
      have hq : (min k 16 = k ∧ k ≤ 16) ∨ (min k 16 = 16 ∧ 16 < k) := by omega
      have hsd : Hid (∀ l : List Nat, 1048576 < l.length → sendE (sW ep k) l = 6 ∧ sendS (sW ep k) l = sW ep k) := Lib.hid fun l h => sW_long h
      have hwi := Lib.hid (win_in ep k (M + 1) (by omega) (by omega))
      have hcn := Lib.hid (show (sW ep k).cnt + 2 ≤ 1000000 from by show k + 2 ≤ 1000000; omega)
      generalize sW ep k = S at *
      rcases hq with ⟨e1, e2⟩ | ⟨e1, e2⟩
      all_goals
        rw [e1]
        replace e1 := Lib.hid e1
        obtain ⟨K, hK⟩ : ∃ K : Nat, K = 1048577 := ⟨_, rfl⟩
        have hKi : (1048577 : Int) = (K : Int) := by omega
        replace hKi := Lib.hid hKi
        replace hK := Lib.hid hK
        go_wp2_with (first
          | (go_at_call 22; ((with_reducible refine (mine_waiting hM2'.out).mono ?_); rintro e w' ⟨rfl, rfl⟩; rw [hlen.out]))
          | (refine wpList_make_full _ rfl _ _ 29 rfl w2.heap.size 5 i0 (.int .u8 0) 1 Try.underlying29 hi hz0 hz1 .i64 .i64 _ _ K rfl rfl hKi.out hKi.out ?c1 ?c2 ?c3 ?_))
        case c1 => rw [hz2, hK.out]; omega
        case c2 => rw [hK.out]; unfold maxLen; omega
        case c3 => exact Nat.le_refl _
        intro w3 hown3 hgrow3
        have hB3 := (Below.refl w2.heap.size w2).grown hgrow3 (Nat.le_refl _) (fun k e => by cases e)
        have hM3 := Lib.hid (hM2'.out.below hB3)
        have hb3 := Lib.hid (own_bl (own_zero hown3 (by rw [hK.out]; omega)))
        have hsK := hsd.out (List.replicate K 0) (by rw [List.length_replicate, hK.out]; omega)
        replace hsK := Lib.hid hsK
        have hrl := Lib.hid (show (List.replicate K 0).length = K from List.length_replicate)
        clear hown3 hgrow3 hB3 hM2' hsd
        generalize List.replicate K 0 = Z at *
        have hb4 : Hid (BL w3 (some ⟨w2.heap.size, 0, none⟩) Z.length Z) := Lib.hid (by rw [hrl.out]; exact hb3.out)
        clear hb3
        go_wp2_with (fail)
        rw [← hrl.out]
        refine (mine_send (some ⟨w2.heap.size, 0, none⟩) Z.length Z hM3.out hb4.out (by have := hcn.out; omega)).mono ?_
        rintro e w4 ⟨rfl, hM4⟩
        rw [hsK.out.1]
        rw [hsK.out.2] at hM4
        replace hM4 := Lib.hid hM4
        clear hM3 hb4 hsK
        have kc' := kc.out w4 #[.int .u8 120] 1 1
        go_wp2_with (go_at_call 22; ((with_reducible refine (mine_waiting hM4.out).mono ?_); rintro e w' ⟨rfl, rfl⟩; rw [hlen.out]))
        rw [hM'.out, show wrap64 ((M : Int) + 1) = ((M + 1 : Nat) : Int) from IntWalk.wrap64_in _ ⟨by omega, by omega⟩]
        obtain ⟨L, hL, hL1, hL40⟩ : ∃ L, L = M + 1 ∧ 1 ≤ L ∧ L ≤ 40 := ⟨_, rfl, by omega, by omega⟩
        rw [← hL] at hwi ⊢
        clear hL kc' hM'
        have hM5 := Lib.hid (hM4.out.below ((al0 w4 (.cells #[.int .u8 120] 5 (1, 2)))))
        have hb5 := Lib.hid (one120 w4)
        refine (mine_in ⟨0, ep, L, 0, [120]⟩ (some ⟨w4.heap.size, 0, none⟩) 1 hM5.out hb5.out (by simp) (.inr ⟨w4, hM4.out, al0 _ _, fun y e => by cases e; exact Nat.le_refl _⟩) hcn.out (by simp; omega)).mono ?_
        rintro e w6 ⟨b, us, col, rfl, ho6, -, hM6, hB6, -⟩
        obtain ⟨A6, c6, rfl, -, -⟩ := own_form ho6
        obtain ⟨q1, q2, q3⟩ := hwi.out
        rw [q1, q2]
        clear ho6 hM5 hb5 hM4 hwi q1 q2
        replace hM6 := Lib.hid hM6
        replace hB6 := Lib.hid hB6
        by_cases h16 : 16 < L
        · rw [if_pos h16, if_neg (by omega)]
          replace q3 := Lib.hid (q3 h16)
          go_wp2_with (fail)
          refine (awake_any w6).mono ?_
          rintro e w7 ⟨rfl, hB7⟩
          have hM7 := Lib.hid (hM6.out.below hB7)
          have hB8 := Lib.hid (hB6.out.trans (hB7.mono hB6.out.size))
          clear hM6 hB6 hB7
          go_wp2_with (go_at_call 23; ((with_reducible refine (mine_got hM7.out).mono ?_); rintro e w' ⟨rfl, rfl⟩; rw [q3.out]))
          go_ret
          exact ⟨rfl, hB8.out⟩
        · rw [if_neg h16]
          by_cases h1 : L = 1
          · subst h1
            rw [if_pos rfl]
            go_wp2_with (fail)
            refine (awake_any w6).mono ?_
            rintro e w7 ⟨rfl, hB7⟩
            have hB8 := Lib.hid (hB6.out.trans (hB7.mono hB6.out.size))
            clear hM6 hB6 hB7
            go_wp2
            go_ret
            exact ⟨rfl, hB8.out⟩
          · rw [if_neg h1]
            have hne : ((L : Int) == 1) = false := by rw [beq_eq_false_iff_ne]; omega
            go_wp2_with (fail)
            refine (awake_any w6).mono ?_
            rintro e w7 ⟨rfl, hB7⟩
            have hB8 := Lib.hid (hB6.out.trans (hB7.mono hB6.out.size))
            clear hM6 hB6 hB7
            go_wp2
            go_ret
            exact ⟨rfl, hB8.out⟩
end Go.Proofs.Ythiadkpndemeeaa.lnkJ
