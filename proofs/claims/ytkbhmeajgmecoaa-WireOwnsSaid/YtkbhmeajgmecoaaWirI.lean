/- The contracts of the parts of version 2, of the program. -/
import Derived.Test.YtkbhmeajgmecoaaWirH
namespace Go.Proofs.Ytkbhmeajgmecoaa.wirI
open Go.ChangeShapes Go.WideShapes Go.ChangeAt Go.RowKit
open numM numN rowA byt numA numB numC numD numE wirM wirA wirB wirD wirE wirF wirG wirL wirH

theorem makes_nil (w : World) : Makes w [] (.returned (.slice none 0 0)) w := Makes.of rfl (Own.nil_ w _) (Below.refl _ _)
theorem sun_any (n : Nat) (w : World) (hn : n < 18446744073709551616) : Calls Try.prog 49 #[.int .u64 n] w (Makes w (pNum n)) := by
  unfold pNum
  by_cases h0 : n = 0
  · subst h0
    go_enter Try.func49, Try.ntmps49
    go_wp2
    go_ret
    exact makes_nil w
  · rw [if_neg h0]
    have h1 : ((n : Int) == 0) = false := beq_eq_false_iff_ne.2 (by omega)
    replace hn := Lib.hid hn
    clear h0
    go_enter Try.func49, Try.ntmps49
    go_wp2_with (fail)
    refine (uvar_any n _ hn.out).mono ?_
    rintro e w1 ⟨A, cap, rfl, ho, hB⟩
    go_wp2
    go_ret
    exact ⟨A, cap, rfl, ho, hB⟩
theorem emp_yes {s : ByteArray} (h : s.size = 0) : s.toList.isEmpty = true := by
  rw [ByteArray.toList_eq, List.isEmpty_iff]
  exact List.eq_nil_of_length_eq_zero (by rw [Array.length_toList]; exact h)
theorem emp_no {s : ByteArray} (h : ¬ s.size = 0) : s.toList.isEmpty = false := by
  rw [ByteArray.toList_eq, List.isEmpty_eq_false_iff]
  intro e
  have := congrArg List.length e
  rw [Array.length_toList] at this; exact h this
theorem tue_any (s : ByteArray) (w : World) (hs : s.size ≤ 64) : Calls Try.prog 50 #[.string s] w (Makes w (pTxt s)) := by
  unfold pTxt
  by_cases h0 : s.size = 0
  · rw [if_pos h0]
    have h2 := emp_yes h0
    clear h0
    go_enter Try.func50, Try.ntmps50
    go_wp2
    go_ret
    exact makes_nil w
  · rw [if_neg h0]
    have h2 := emp_no h0
    clear h0
    go_enter Try.func50, Try.ntmps50
    go_wp2_with (fail)
    refine (ntext_any s _ hs).mono ?_
    rintro e w1 ⟨A, cap, rfl, ho, hB⟩
    go_wp2
    go_ret
    exact ⟨A, cap, rfl, ho, hB⟩

theorem size_zero {s : ByteArray} : s.toList = [] ↔ s = ⟨#[]⟩ := by
  rw [ByteArray.toList_eq]
  constructor
  · intro h
    have : s.data = #[] := Array.ext' (by rw [h])
    cases s; simp_all
  · rintro rfl; rfl
theorem eql_cmd (c : Cm) (w : World) :
    (binOp .eql 26 (.agg (cc c)) (.agg #[.int .i64 0, .int .i64 0, .int .i64 0, .int .i64 0, .int .i64 0, .string ⟨#[]⟩])).run Try.prog w = .ok (.bool (decide (c = Cm.nought))) w := by
  obtain ⟨a, b, d, e, f, s⟩ := c
  unfold Cm.nought
  go_simp
  simp only [size_zero]
  by_cases h1 : a = 0 <;> by_cases h2 : b = 0 <;> by_cases h3 : d = 0 <;> by_cases h4 : e = 0 <;> by_cases h5 : f = 0 <;> by_cases h6 : s = ⟨#[]⟩ <;> simp [h1, h2, h3, h4, h5, h6]
/-- the parts of a command's bytes by version 2, so far -/
def nC (c : Cm) (k : Nat) : List (List Nat) := ((nums c).take k).map fun x => uv x.toNat
theorem nC_0 (c : Cm) : nC c 0 = [] := rfl
theorem nC_s (c : Cm) {k : Nat} (h : k < 5) : nC c k ++ [uv (nat c k).toNat] = nC c (k + 1) := by
  unfold nC; rw [nums_take h]
theorem nC_n (c : Cm) (k : Nat) : (nC c k).length ≤ 5 := by unfold nC; rw [List.length_map, List.length_take, show (nums c).length = 5 from rfl]; omega
theorem nC_end (c : Cm) (h : c ≠ Cm.nought) : (nC c 5 ++ [tx c.key]).flatten = pCmd c := by
  have e5 : (nums c).take 5 = nums c := rfl
  unfold nC pCmd
  rw [e5, if_neg h]; simp [List.flatten_append]
/-- joined of a row of parts -/
theorem joined_prt {w W w3 : World} {v : Value} {ls : List (List Nat)} {l : List Nat} (hr : Prt W w3 v ls) (hB : Below w.heap.size w W) (hl : ls.flatten = l) (hn : ls.length ≤ 100000) (hsz : l.length ≤ 1099511627776) :
    Calls Try.prog 48 #[v] w3 (Makes w l) := by
  obtain ⟨-, xs, hq, -⟩ := id hr
  obtain ⟨A, c, rfl⟩ : ∃ A c, v = .slice A ls.length c := by
    rcases hq.2 with ⟨e, e0⟩ | ⟨g, cap, cur, e, _⟩
    · exact ⟨none, 0, by rw [e, e0]⟩
    · exact ⟨_, cap, e⟩
  subst hl
  refine (joined_any none A ls.length c ls w3 (hr.lst hn).2 hsz).mono ?_
  rintro e w' ⟨A', c', rfl, ho, hB2⟩
  have h3 := hr.trans hB
  exact ⟨A', c', rfl, Own.more (base' := w.heap.size) ho h3.size, trans0 h3 hB2⟩
set_option maxRecDepth 100000 in
set_option maxHeartbeats 1000000 in
theorem ncmd_any (c : Cm) (w : World) (hok : c.ok) : Calls Try.prog 53 #[.agg (cc c)] w (Makes w (pCmd c)) := by
  by_cases h0 : c = Cm.nought
  · subst h0
    go_enter Try.func53, Try.ntmps53
    unfold Cm.nought
    go_wp2
    go_ret
    exact Makes.of (l := []) rfl (Own.nil_ _ _) (alloc_below _ _)
  · have hcmp := eql_cmd c
    simp only [h0, decide_false] at hcmp
    have hen := Lib.hid (nC_end c h0)
    have hln := Lib.hid (pCmd_le c hok)
    have k5 : c.key.size ≤ 64 := by have := hok.key; omega
    replace hok := Lib.hid hok
    obtain ⟨i0, hi0, hz0, hz1, hz2⟩ := info_parts bytes24
    have hW := Lib.hid (alloc_below w (.cells (cc c) 26))
    have hbx := Lib.hid (Box.new w (cc c) 26)
    clear h0
    go_enter Try.func53, Try.ntmps53
    go_wp2_with (fail)
    generalize w.alloc (.cells (cc c) 26) = W at *
    refine (numsOf_any c _).mono ?_
    rintro e w2 ⟨rfl, hB2⟩
    have hr2 := Lib.hid (Prt.none_ hB2)
    clear hB2 hcmp
    go_wp2
    go_loopw [3, 11] (fun v i wr => ∃ k : Nat, k ≤ 5 ∧ i = .int .i64 k ∧ Hid (Prt W wr v (nC c k))) (fun _ i _ => 5 - (intOf i).toNat)
    case atStart => exact ⟨0, by omega, rfl, hr2⟩
    case round =>
      obtain ⟨k, hk5, rfl, hrow⟩ := hrel
      clear hr2
      by_cases hlt : k < 5
      · have hidx := index5 c k hlt wr
        obtain ⟨x0, x1⟩ := nat_ok hok.out hlt
        have htk := Lib.hid (nC_s c hlt)
        generalize nat c k = x at *
        have x2 : x < 18446744073709551616 := by omega
        have x3 := wrap64i x x0 x2
        go_wp2_with (fail)
        refine (uvar_i x _ x0 x2).mono ?_
        rintro e w2 ⟨A, cap, rfl, ho, hB2⟩
        have hm := hrow.out.made ho hB2
        have hr2 := Lib.hid hm.1
        have hp2 := Lib.hid hm.2
        have hlr := Lib.hid (show (nC c k).length ≤ 100000 by have := nC_n c k; omega)
        clear hm ho hB2 hrow hidx
        go_wp2_with (at_builtin; refine wpList_addp rfl (.tmp 14) (.tmp 18) 69 rfl i0 Try.underlying69 hi0 hz0 hz1 hz2 _ _ rfl hr2.out _ (uv x.toNat) hp2.out rfl hlr.out ?_)
        intro v' w3 hr3
        replace hr3 := Lib.hid hr3
        rw [htk.out] at hr3
        clear hr2 hp2
        go_wp2
        go_roundw
        case rel => exact ⟨k + 1, by omega, by go_num, hr3⟩
        case measure => simp [intOf]; omega
      · obtain rfl : k = 5 := by omega
        have d13 : wr.cell? ⟨w.heap.size, 5, none⟩ = some (.string c.key) := (hbx.out.below hrow.out.bel).at 5
        go_wp2_with (fail)
        refine (ntext_any c.key _ k5).mono ?_
        rintro e w2 ⟨A, cap, rfl, ho, hB2⟩
        have hm := hrow.out.made ho hB2
        have hr2 := Lib.hid hm.1
        have hp2 := Lib.hid hm.2
        have hlr := Lib.hid (show (nC c 5).length ≤ 100000 by have := nC_n c 5; omega)
        clear hm ho hB2 hrow d13
        go_wp2_with (at_builtin; refine wpList_addp rfl (.tmp 21) (.tmp 25) 69 rfl i0 Try.underlying69 hi0 hz0 hz1 hz2 _ _ rfl hr2.out _ (tx c.key) hp2.out rfl hlr.out ?_)
        intro v' w3 hr3
        have hj := Lib.hid (joined_prt hr3 hW.out hen.out (by rw [List.length_append, List.length_singleton]; have := nC_n c 5; omega) (by have := hln.out; omega))
        clear hr3 hr2 hp2
        go_wp2_with (fail)
        refine hj.out.mono ?_
        rintro e w4 ⟨A4, c4, rfl, ho4, hB4⟩
        go_wp2
        go_ret
        exact Makes.of rfl ho4 hB4

/-! ### Vec -/
def nN (l : List Nat) (k : Nat) : List (List Nat) := [uv l.length] ++ (l.take k).map uv
theorem nN_0 (l : List Nat) : nN l 0 = [uv l.length] := rfl
theorem nN_s (l : List Nat) {k : Nat} (h : k < l.length) : nN l k ++ [uv (nth l k)] = nN l (k + 1) := by
  unfold nN; rw [List.append_assoc, take_map uv l h, nth_eq h]
theorem nN_n (l : List Nat) (k : Nat) (h : k ≤ 5000) : (nN l k).length ≤ 5001 := by unfold nN; rw [List.length_append, List.length_map, List.length_take, List.length_singleton]; omega
theorem nN_end (l : List Nat) (h : ¬ l.length = 0) : (nN l l.length).flatten = pVec l := by
  unfold nN pVec
  rw [List.take_length, if_neg h]; simp
set_option maxRecDepth 100000 in
set_option maxHeartbeats 1000000 in
theorem nvec_any (a : Option Addr) (n c : Nat) (l : List Nat) (w : World) (h : NL w a n l) (hn : n ≤ 32) : Calls Try.prog 52 #[.slice a n c] w (Makes w (pVec l)) := by
  have hln := Lib.hid h.1
  by_cases h0 : n = 0
  · subst h0
    have e0 : pVec l = [] := by unfold pVec; rw [if_pos hln.out]
    rw [e0]
    clear h hln
    go_enter Try.func52, Try.ntmps52
    go_wp2
    go_ret
    exact makes_nil w
  · have h1 : ((n : Int) == 0) = false := beq_eq_false_iff_ne.2 (by omega)
    have hen := Lib.hid (nN_end l (by rw [hln.out]; exact h0))
    have hle := Lib.hid (pVec_le l h.2.2.1 (by rw [hln.out]; exact hn))
    have hfn := Lib.hid h.2.2.1
    have e1 := wrap64_nat n (by omega)
    replace h := Lib.hid h
    obtain ⟨i0, hi0, hz0, hz1, hz2⟩ := info_parts bytes24
    clear h0
    go_enter Try.func52, Try.ntmps52
    go_wp2_with (fail)
    refine (uvar_any n _ (by omega)).mono ?_
    rintro e w1 ⟨A, cap, rfl, ho, hB⟩
    have hrow := Prt.lit (W := w) (vs := [.slice A (uv n).length cap]) (ls := [uv n]) ⟨hB, PB.of_own ho (by intro k e; cases e), trivial⟩ #[.slice A (uv n).length cap] rfl 1 rfl (by simp)
    rw [show [uv n] = nN l 0 by rw [nN_0, hln.out]] at hrow
    have hrow0 := Lib.hid hrow
    clear hrow ho hB
    go_wp2
    go_loopw [3, 16] (fun v i wr => ∃ k : Nat, k ≤ n ∧ i = .int .i64 k ∧ Hid (Prt w wr v (nN l k))) (fun _ i _ => n - (intOf i).toNat)
    case atStart => exact ⟨0, by omega, rfl, hrow0⟩
    case round =>
      obtain ⟨k, hk, rfl, hrow⟩ := hrel
      clear hrow0
      by_cases hlt : k < n
      · obtain ⟨b, off, rfl, hbl, hvc⟩ := (h.out.below hrow.out.bel).at hlt
        have hll : k < l.length := by rw [hln.out]; exact hlt
        have hvf := Lib.hid (hfn.out _ (nth_mem hll))
        have htk := Lib.hid (nN_s l hll)
        generalize nth l k = v at *
        clear hll
        go_wp2_with (fail)
        refine (uvar_any v _ hvf.out).mono ?_
        rintro e w2 ⟨A, cap, rfl, ho, hB2⟩
        have hm := hrow.out.made ho hB2
        have hr2 := Lib.hid hm.1
        have hp2 := Lib.hid hm.2
        have hlr := Lib.hid (show (nN l k).length ≤ 100000 by have := nN_n l k (by omega); omega)
        clear hm ho hB2 hvc hrow
        go_wp2_with (at_builtin; refine wpList_addp rfl (.tmp 20) (.tmp 23) 69 rfl i0 Try.underlying69 hi0 hz0 hz1 hz2 _ _ rfl hr2.out _ (uv v) hp2.out rfl hlr.out ?_)
        intro v' w3 hr3
        replace hr3 := Lib.hid hr3
        rw [htk.out] at hr3
        clear hr2 hp2
        go_wp2
        go_roundw
        case rel => exact ⟨k + 1, by omega, by go_num, hr3⟩
        case measure => simp [intOf]; omega
      · obtain rfl : k = n := by omega
        rw [hln.out] at hen
        have hj := Lib.hid (joined_prt hrow.out (Below.refl _ _) hen.out (by have := nN_n l k (by omega); omega) (by have := hle.out; omega))
        clear hrow h
        go_wp2_with (fail)
        refine hj.out.mono ?_
        rintro e w4 ⟨A4, c4, rfl, ho4, hB4⟩
        go_wp2
        go_ret
        exact Makes.of rfl ho4 hB4

/-! ### Vers -/
/-- the TS ahead of a version -/
def ah (l : List Vr) (k : Nat) : Nat := if k = 0 then 0 else (vth l (k - 1)).ts
theorem nvl_at (l : List Vr) : ∀ (a k : Nat) (h : k < l.length), (nvl a l)[k]'(by rw [nvl_len]; exact h) = nv (if k = 0 then a else (vth l (k - 1)).ts) (vth l k) := by
  induction l with
  | nil => intro a k h; simp at h
  | cons v r ih =>
    intro a k h
    rcases k with _ | k
    · rfl
    · have h' : k < r.length := by simpa using h
      have := ih v.ts k h'
      rw [if_neg (by omega)]
      show (nvl v.ts r)[k]'_ = _
      rw [this]
      rcases k with _ | k
      · rfl
      · rfl
def nVs (l : List Vr) (k : Nat) : List (List Nat) := [uv l.length] ++ (nvl 0 l).take k
theorem nVs_0 (l : List Vr) : nVs l 0 = [uv l.length] := rfl
theorem nVs_s (l : List Vr) {k : Nat} (h : k < l.length) : nVs l k ++ [nv (ah l k) (vth l k)] = nVs l (k + 1) := by
  unfold nVs ah
  rw [List.append_assoc, List.take_succ_eq_append_getElem (by rw [nvl_len]; exact h), nvl_at l 0 k h]
theorem nVs_n (l : List Vr) (k : Nat) (h : k ≤ 5000) : (nVs l k).length ≤ 5001 := by unfold nVs; rw [List.length_append, List.length_take, List.length_singleton]; omega
theorem nVs_end (l : List Vr) (h : ¬ l.length = 0) : (nVs l l.length).flatten = pVers l := by
  unfold nVs pVers
  rw [List.take_of_length_le (by rw [nvl_len]; omega), if_neg h]; simp
theorem ah_lt {l : List Vr} (h : ∀ v ∈ l, v.fits) {k : Nat} (hk : k ≤ l.length) : ah l k < 18446744073709551616 := by
  unfold ah; split
  · decide
  · exact (h _ (vth_mem (by omega))).2.2.1
theorem ah_s (l : List Vr) (k : Nat) : ah l (k + 1) = (vth l k).ts := by unfold ah; rw [if_neg (by omega)]; rfl
set_option maxRecDepth 100000 in
set_option maxHeartbeats 1000000 in
theorem nvers_any (a : Option Addr) (n c : Nat) (l : List Vr) (w : World) (h : VL w a n l) (hn : n ≤ 4096) (hok : ∀ v ∈ l, v.ok) : Calls Try.prog 51 #[.slice a n c] w (Makes w (pVers l)) := by
  have hln := Lib.hid h.1
  by_cases h0 : n = 0
  · subst h0
    have e0 : pVers l = [] := by unfold pVers; rw [if_pos hln.out]
    rw [e0]
    clear h hln hok
    go_enter Try.func51, Try.ntmps51
    go_wp2
    go_ret
    exact makes_nil w
  · have h1 : ((n : Int) == 0) = false := beq_eq_false_iff_ne.2 (by omega)
    have hen := Lib.hid (nVs_end l (by rw [hln.out]; exact h0))
    have hle := Lib.hid (pVers_le l hok (by rw [hln.out]; exact hn))
    have hfn := Lib.hid h.2.2.1
    replace hok := Lib.hid hok
    have e1 := wrap64_nat n (by omega)
    replace h := Lib.hid h
    obtain ⟨i0, hi0, hz0, hz1, hz2⟩ := info_parts bytes24
    clear h0
    go_enter Try.func51, Try.ntmps51
    go_wp2_with (fail)
    refine (uvar_any n _ (by omega)).mono ?_
    rintro e w1 ⟨A, cap, rfl, ho, hB⟩
    have hrow := Prt.lit (W := w) (vs := [.slice A (uv n).length cap]) (ls := [uv n]) ⟨hB, PB.of_own ho (by intro k e; cases e), trivial⟩ #[.slice A (uv n).length cap] rfl 1 rfl (by simp)
    rw [show [uv n] = nVs l 0 by rw [nVs_0, hln.out]] at hrow
    have hrow0 := Lib.hid hrow
    clear hrow ho hB
    go_wp2
    go_loopw [3, 4, 17] (fun v t i wr => ∃ k x : Nat, k ≤ n ∧ i = .int .i64 k ∧ t = .int .u64 x ∧ Hid (x = ah l k) ∧ Hid (Prt w wr v (nVs l k))) (fun _ _ i _ => n - (intOf i).toNat)
    case atStart => exact ⟨0, 0, by omega, rfl, rfl, rfl, hrow0⟩
    case round =>
      obtain ⟨k, x, hk, rfl, rfl, hx, hrow⟩ := hrel
      clear hrow0
      by_cases hlt : k < n
      · obtain ⟨b, off, rfl, hbl, hvc⟩ := (h.out.below hrow.out.bel).at hlt
        have hll : k < l.length := by rw [hln.out]; exact hlt
        have hvo := Lib.hid (hok.out _ (vth_mem hll))
        have hvf := Lib.hid (hfn.out _ (vth_mem hll)).2.2.1
        have hxl := Lib.hid (show x < 18446744073709551616 by rw [hx.out]; exact ah_lt hfn.out (by omega))
        have htk := nVs_s l hll
        rw [← hx.out] at htk
        have hxs := ah_s l k
        generalize vth l k = v at *
        replace htk := Lib.hid htk
        replace hxs := Lib.hid hxs
        obtain ⟨c1, c2, c3, c4, c5, c6⟩ := hvc
        clear hll hx
        go_wp2_with (fail)
        refine (nver_any v x _ hvo.out hvf.out hxl.out).mono ?_
        rintro e w2 ⟨A, cap, rfl, ho, hB2⟩
        have hbv := (Box.new wr (cv v) 51).below hB2
        have d3 : w2.cell? ⟨wr.heap.size, 3, none⟩ = some (.int .u64 v.ts) := hbv.at 3
        have hm := (hrow.out.alloc (.cells (cv v) 51)).made ho hB2
        have hr2 := Lib.hid hm.1
        have hp2 := Lib.hid hm.2
        have hlr := Lib.hid (show (nVs l k).length ≤ 100000 by have := nVs_n l k (by omega); omega)
        have hsz2 : wr.heap.size < w2.heap.size := hbv.lt
        have hlt3 := hrow.out.lt
        clear hm ho hB2 hrow hbv c1 c2 c3 c4 c5 c6
        have hub := Lib.hid (show ∀ k, u3.ownBlock = some k → k < wr.heap.size from hlt3)
        go_wp2_with (at_builtin; refine wpList_addg rfl (.tmp 21) (.tmp 25) 69 rfl i0 Try.underlying69 hi0 hz0 hz1 hz2 _ _ rfl hr2.out _ (nv x v) hp2.out rfl hlr.out ?_)
        intro v' w3 hr3 hg3
        have d3 : w3.cell? ⟨wr.heap.size, 3, none⟩ = some (.int .u64 v.ts) := by
          rw [hg3.cell_far ⟨wr.heap.size, 3, none⟩ (by simp; omega) (fun e => by have := hub.out _ e.symm; simp at this)]
          rw [World.cell?_alloc_lt _ _ _ hsz2]
          exact d3
        replace hr3 := Lib.hid hr3
        rw [htk.out] at hr3
        clear hr2 hp2 hg3
        go_wp2
        go_roundw
        case rel => exact ⟨k + 1, v.ts, by omega, by go_num, rfl, hxs.out.symm, hr3⟩
        case measure => simp [intOf]; omega
      · obtain rfl : k = n := by omega
        rw [hln.out] at hen
        have hj := Lib.hid (joined_prt hrow.out (Below.refl _ _) hen.out (by have := nVs_n l k (by omega); omega) (by have := hle.out; omega))
        clear hrow h
        go_wp2_with (fail)
        refine hj.out.mono ?_
        rintro e w4 ⟨A4, c4, rfl, ho4, hB4⟩
        go_wp2
        go_ret
        exact Makes.of rfl ho4 hB4
end Go.Proofs.Ytkbhmeajgmecoaa.wirI
