/- The contracts of takeNumbers, sizeOfFirst, first and Unpack. -/
import Derived.Test.YtgjgjnahdkoofaaFraB
import Derived.Deep.OwnRows
namespace Go.Proofs.Ytgjgjnahdkoofaa.fraC
open Go.ChangeShapes Go.WideShapes Go.ChangeAt Go.RowKit Go.Deep
open numM numN rowA byt numA numB numC numD fraM fraB

def tnV (l : List Nat) (k i : Nat) : Value := if i < k then .int .i64 (wd l (1 + 4 * i)) else .int .i64 0
theorem tnV_set (l : List Nat) (k : Nat) : (fun j => if j = k then Value.int .i64 (wd l (1 + 4 * k)) else tnV l k j) = tnV l (k + 1) := by
  funext j
  unfold tnV
  by_cases h : j = k
  · subst h; rw [if_pos rfl, if_pos (by omega)]
  · rw [if_neg h]
    by_cases h1 : j < k
    · rw [if_pos h1, if_pos (by omega)]
    · rw [if_neg h1, if_neg (by omega)]
theorem tn0 (w : World) (l : List Nat) : (w.alloc (.cells #[.int .i64 0, .int .i64 0, .int .i64 0, .int .i64 0] 46)).rowIs w.heap.size 46 4 (tnV l 0) := by
  have h := World.rowIs_alloc w #[.int .i64 0, .int .i64 0, .int .i64 0, .int .i64 0] 46 (tnV l 0) (fun i hi => ?_)
  · exact h
  · have : i = 0 ∨ i = 1 ∨ i = 2 ∨ i = 3 := by simp at hi; omega
    rcases this with rfl | rfl | rfl | rfl <;> rfl
set_option maxRecDepth 100000 in
theorem nums_any (b off n cap : Nat) (l : List Nat) (w : World) (hb : BL w (some ⟨b, off, none⟩) n l) (hcap : n ≤ cap) (hc9 : cap ≤ 9223372036854775807) (h17 : 17 ≤ n) :
    Calls Try.prog 24 #[.slice (some ⟨b, off, none⟩) n cap] w fun e w' => e = .returned (.agg #[.int .i64 (wd l 1), .int .i64 (wd l 5), .int .i64 (wd l 9), .int .i64 (wd l 13)]) ∧ Below w.heap.size w w' := by
  have hn := Lib.hid hb.1
  have hlt := Lib.hid hb.lt
  have hm := hb.2.1
  replace hb := Lib.hid hb
  have r2 := Lib.hid ((tn0 w l).alloc (.cells #[.int .i64 0, .int .i64 0, .int .i64 0, .int .i64 0] 46))
  have r3 := tn0 (w.alloc (.cells #[.int .i64 0, .int .i64 0, .int .i64 0, .int .i64 0] 46)) l
  rw [nblk_alloc] at r3
  replace r3 := Lib.hid r3
  have hB0 := Lib.hid (((Below.refl w.heap.size w).alloc (Nat.le_refl _) (.cells #[.int .i64 0, .int .i64 0, .int .i64 0, .int .i64 0] 46)).alloc (by simp) (.cells #[.int .i64 0, .int .i64 0, .int .i64 0, .int .i64 0] 46))
  go_enter Try.func24, Try.ntmps24
  go_wp2
  go_loopw [7] (fun i wr => ∃ k : Nat, k ≤ 4 ∧ i = .int .i64 k ∧ Hid (wr.rowIs w.heap.size 46 4 (tnV l 0)) ∧ Hid (wr.rowIs (w.heap.size + 1) 46 4 (tnV l k)) ∧ Hid (Below w.heap.size w wr)) (fun i _ => 4 - (intOf i).toNat)
  case atStart => exact ⟨0, by omega, rfl, r2, r3, hB0⟩
  case round =>
    obtain ⟨k, hk, rfl, r2', r3', hB⟩ := hrel
    clear r2 r3 hB0
    have hbr := Lib.hid (hb.out.below hB.out)
    by_cases hlt1 : k < 4
    · have hd := Lib.hid (hbr.out.drop (1 + 4 * k))
      have hw := wd_lt hlt.out (1 + 4 * k)
      have he := Lib.hid (tfv4 (l := l) (i := 1 + 4 * k) (by rw [hn.out]; omega))
      have cw := r3'.out.cell (i := k) hlt1
      have fw := r3'.out.frozen k
      have hst := Lib.hid (r3'.out.set k (.int .i64 (wd l (1 + 4 * k))))
      have hso := Lib.hid (r2'.out.setOther (a := ⟨w.heap.size + 1, k, none⟩) (by simp) (.int .i64 (wd l (1 + 4 * k))))
      have hBn := Lib.hid (hB.out.setCell (p := ⟨w.heap.size + 1, k, none⟩) (by simp) (.int .i64 (wd l (1 + 4 * k))))
      have hx : (1 : Int) + 4 * (k : Int) < cap := by omega
      go_wp2_with ((go_at_call 28; ((with_reducible refine (tfixed_any _ _ _ 4 _ _ hd.out (by omega) (by omega)).mono ?_); rintro e w' ⟨rfl, rfl⟩)))
      rw [he.out.1]
      rw [w64 (show wd l (1 + 4 * k) < 9223372036854775808 by omega)]
      go_roundw
      case rel => exact ⟨k + 1, by omega, by go_num, hso, Lib.hid (by have := hst.out; rw [tnV_set] at this; exact this), hBn⟩
      case measure => simp [intOf]; omega
    · obtain rfl : k = 4 := by omega
      have c0 : wr.cell? ⟨w.heap.size + 1, 0, none⟩ = some (.int .i64 (wd l 1)) := r3'.out.cell (i := 0) (by omega)
      have c1 : wr.cell? ⟨w.heap.size + 1, 1, none⟩ = some (.int .i64 (wd l 5)) := r3'.out.cell (i := 1) (by omega)
      have c2 : wr.cell? ⟨w.heap.size + 1, 2, none⟩ = some (.int .i64 (wd l 9)) := r3'.out.cell (i := 2) (by omega)
      have c3 : wr.cell? ⟨w.heap.size + 1, 3, none⟩ = some (.int .i64 (wd l 13)) := r3'.out.cell (i := 3) (by omega)
      have d0 : wr.cell? ⟨w.heap.size, 0, none⟩ = some (.int .i64 0) := r2'.out.cell (i := 0) (by omega)
      have d1 : wr.cell? ⟨w.heap.size, 1, none⟩ = some (.int .i64 0) := r2'.out.cell (i := 1) (by omega)
      have d2 : wr.cell? ⟨w.heap.size, 2, none⟩ = some (.int .i64 0) := r2'.out.cell (i := 2) (by omega)
      have d3 : wr.cell? ⟨w.heap.size, 3, none⟩ = some (.int .i64 0) := r2'.out.cell (i := 3) (by omega)
      have f0 := r2'.out.frozen 0
      have f1 := r2'.out.frozen 1
      have f2 := r2'.out.frozen 2
      have f3 := r2'.out.frozen 3
      go_wp2
      refine bodyPost_ret (v := .agg #[.int .i64 (wd l 1), .int .i64 (wd l 5), .int .i64 (wd l 9), .int .i64 (wd l 13)]) (by simp [results, Try.results24, go_sem, d0, d1, d2, d3]) rfl ⟨rfl, ?_⟩
      exact (((hB.out.setCell (by simp) _).setCell (by simp) _).setCell (by simp) _).setCell (by simp) _

/-! ### How long the first frame is -/
theorem index4 (a b c d : Int) (k : Nat) (h : k < 4) (w : World) :
    (Instr.index 46 (.agg #[.int .i64 a, .int .i64 b, .int .i64 c, .int .i64 d]) (.int .i64 k)).run Try.prog w = .ok (.int .i64 ([a, b, c, d].getD k 0)) w := by
  obtain rfl | rfl | rfl | rfl : k = 0 ∨ k = 1 ∨ k = 2 ∨ k = 3 := by omega
  all_goals kernel_rfl
theorem index43 (a b c d : Int) (w : World) : (Instr.index 46 (.agg #[.int .i64 a, .int .i64 b, .int .i64 c, .int .i64 d]) (.int .i64 3)).run Try.prog w = .ok (.int .i64 d) w := index4 a b c d 3 (by decide) w
set_option maxRecDepth 100000 in
theorem size_any (a : Option Addr) (n cap : Nat) (l : List Nat) (w : World) (hb : BL w a n l) (hcap : n ≤ cap) (hc9 : cap ≤ 9223372036854775807) :
    Calls Try.prog 22 #[.slice a n cap] w fun e w' => e = .returned (.tuple #[.int .i64 (szN l), .int .i64 (szE l)]) ∧ Below w.heap.size w w' := by
  have hn := hb.1
  by_cases h0 : n = 0
  · have e1 : szE l = 2 := by unfold szE; rw [if_pos (by omega)]
    have e2 : szN l = 0 := by unfold szN; rw [e1]; rfl
    rw [e1, e2]
    subst h0
    clear hn hb e1 e2
    go_enter Try.func22, Try.ntmps22
    go_wp2
    go_ret2
    exact ⟨rfl, Below.refl _ _⟩
  obtain ⟨b, off, rfl, hc0⟩ := hb.at (show 0 < n by omega)
  rw [Nat.add_zero] at hc0
  have hv := nth_lt hb.lt (show 0 < l.length by omega)
  by_cases hz : nth l 0 = 0
  · have e1 : szE l = 3 := by unfold szE; rw [if_neg (by omega), if_pos hz]
    have e2 : szN l = 0 := by unfold szN; rw [e1]; rfl
    rw [e1, e2]
    rw [hz] at hc0
    clear hn hb e1 e2 hz hv
    go_enter Try.func22, Try.ntmps22
    go_wp2_with ((go_at_call 16; ((with_reducible refine (isv_no _ _ (.inl (by decide))).mono ?_); rintro e w' ⟨rfl, rfl⟩)))
    go_ret2
    exact ⟨rfl, Below.refl _ _⟩
  by_cases h17 : n < 17
  · have e1 : szE l = 2 := by unfold szE; rw [if_neg (by omega), if_neg hz, if_pos (by omega)]
    have e2 : szN l = 0 := by unfold szN; rw [e1]; rfl
    rw [e1, e2]
    generalize nth l 0 = v at *
    clear hn hb e1 e2
    go_enter Try.func22, Try.ntmps22
    go_wp2_with ((go_at_call 16; ((with_reducible refine (isv_yes _ _ (by omega) (by omega)).mono ?_); rintro e w' ⟨rfl, rfl⟩)))
    go_ret2
    exact ⟨rfl, Below.refl _ _⟩
  have hnum := Lib.hid (nums_any b off n cap l w hb hcap hc9 (by omega))
  have hcn := wd_lt hb.lt 13
  by_cases hlong : 1048576 < cnt l
  · have e1 : szE l = 6 := by unfold szE; rw [if_neg (by omega), if_neg hz, if_neg (by omega), if_pos hlong]
    have e2 : szN l = 0 := by unfold szN; rw [e1]; rfl
    rw [e1, e2]
    change 1048576 < wd l 13 at hlong
    generalize nth l 0 = v at *
    generalize wd l 13 = c at *
    have hix := index43 (wd l 1) (wd l 5) (wd l 9) c
    clear hn hb e1 e2
    go_enter Try.func22, Try.ntmps22
    go_wp2_with (first | (go_at_call 16; ((with_reducible refine (isv_yes _ _ (by omega) (by omega)).mono ?_); rintro e w' ⟨rfl, rfl⟩)) | (go_at_call 24; ((with_reducible refine hnum.out.mono ?_); rintro e w' ⟨rfl, hB⟩)))
    go_ret2
    exact ⟨rfl, hB⟩
  by_cases hsh : n < cnt l + 21
  · have e1 : szE l = 2 := by unfold szE; rw [if_neg (by omega), if_neg hz, if_neg (by omega), if_neg hlong, if_pos (by omega)]
    have e2 : szN l = 0 := by unfold szN; rw [e1]; rfl
    rw [e1, e2]
    change ¬ 1048576 < wd l 13 at hlong
    change n < wd l 13 + 21 at hsh
    generalize nth l 0 = v at *
    generalize wd l 13 = c at *
    have hix := index43 (wd l 1) (wd l 5) (wd l 9) c
    clear hn hb e1 e2
    go_enter Try.func22, Try.ntmps22
    go_wp2_with (first | (go_at_call 16; ((with_reducible refine (isv_yes _ _ (by omega) (by omega)).mono ?_); rintro e w' ⟨rfl, rfl⟩)) | (go_at_call 24; ((with_reducible refine hnum.out.mono ?_); rintro e w' ⟨rfl, hB⟩)))
    go_ret2
    exact ⟨rfl, hB⟩
  · have e1 : szE l = 0 := by unfold szE; rw [if_neg (by omega), if_neg hz, if_neg (by omega), if_neg hlong, if_neg (by omega)]
    have e2 : szN l = wd l 13 + 21 := by unfold szN; rw [e1]; rfl
    rw [e1, e2]
    change ¬ 1048576 < wd l 13 at hlong
    change ¬ n < wd l 13 + 21 at hsh
    generalize nth l 0 = v at *
    generalize wd l 13 = c at *
    have hix := index43 (wd l 1) (wd l 5) (wd l 9) c
    clear hn hb e1 e2
    go_enter Try.func22, Try.ntmps22
    go_wp2_with (first | (go_at_call 16; ((with_reducible refine (isv_yes _ _ (by omega) (by omega)).mono ?_); rintro e w' ⟨rfl, rfl⟩)) | (go_at_call 24; ((with_reducible refine hnum.out.mono ?_); rintro e w' ⟨rfl, hB⟩)))
    go_ret2
    exact ⟨ret2 (congrArg (Value.int .i64) (by omega)) rfl, hB⟩
end Go.Proofs.Ytgjgjnahdkoofaa.fraC
