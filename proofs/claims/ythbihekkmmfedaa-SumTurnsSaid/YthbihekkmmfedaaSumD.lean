/- The walk of the statement SumTurns: the sum of three texts put together bit by bit is the three sums put together; it returns true, whatever it is given. -/
import Derived.Test.YthbihekkmmfedaaSumC
import Derived.Deep.RegionHeld3
import Derived.Deep.DeepCutAuto
namespace Go.Proofs.Ythbihekkmmfedaa.sumD
open Go.ChangeShapes Go.WideShapes Go.ChangeAt Go.RowKit
open sumM sumA rowA sumB sumC

/-- the first j of the bytes put together, nought behind them -/
def upto (f g h : Nat → Nat) (j i : Nat) : Nat := if i < j then f i ^^^ g i ^^^ h i else 0
theorem upto_none (f g h : Nat → Nat) (n : Nat) : row (upto f g h 0) n = (madeCells #[.int .u8 0] n).toList := by
  rw [toList_madeCells_one]
  apply List.ext_getElem?
  intro i
  by_cases hi : i < n
  · rw [row_get _ _ _ hi, List.getElem?_replicate, if_pos hi]
    unfold upto; rw [if_neg (by omega)]; rfl
  · rw [List.getElem?_eq_none (by rw [row_len']; omega), List.getElem?_eq_none (by simp; omega)]
theorem upto_set (f g h : Nat → Nat) (j n : Nat) : (row (upto f g h j) n).set j (.int .u8 ((f j ^^^ g j ^^^ h j : Nat))) = row (upto f g h (j + 1)) n := by
  apply List.ext_getElem?
  intro i
  rw [List.getElem?_set]
  by_cases hi : i < n
  · rw [row_get _ _ _ hi, row_get _ _ _ hi, row_len']
    by_cases he : j = i
    · subst he
      rw [if_pos rfl, if_pos hi]
      unfold upto
      rw [if_pos (by omega)]
    · rw [if_neg he]
      unfold upto
      by_cases h2 : i < j
      · rw [if_pos h2, if_pos (by omega)]
      · rw [if_neg h2, if_neg (by omega)]
  · have h1 : (row (upto f g h j) n)[i]? = none := List.getElem?_eq_none (by rw [row_len']; omega)
    have h2 : (row (upto f g h (j + 1)) n)[i]? = none := List.getElem?_eq_none (by rw [row_len']; omega)
    rw [h1, h2, row_len']
    by_cases he : j = i
    · rw [if_pos he, if_neg (by omega)]
    · rw [if_neg he]
theorem upto_store {w wr : World} {g n j : Nat} {f f1 f2 : Nat → Nat} (h : wr.ownsRow w.heap.size 5 1 (.slice (some ⟨g, 0, none⟩) n n) n (row (upto f f1 f2 j) n)) (hB : Below w.heap.size w wr) :
    (wr.setCell ⟨g, j, none⟩ (.int .u8 ((f j ^^^ f1 j ^^^ f2 j : Nat)))).drew.ownsRow w.heap.size 5 1 (.slice (some ⟨g, 0, none⟩) n n) n (row (upto f f1 f2 (j + 1)) n) ∧
    Below w.heap.size w (wr.setCell ⟨g, j, none⟩ (.int .u8 ((f j ^^^ f1 j ^^^ f2 j : Nat)))).drew := by
  refine ⟨?_, (hB.setCell (p := ⟨g, j, none⟩) (h.lt g rfl).1 _).drew⟩
  have := (h.stored j (.int .u8 ((f j ^^^ f1 j ^^^ f2 j : Nat)))).1
  rw [upto_set] at this
  exact this
theorem Bytes.cut {w : World} {a : Option Addr} {l n : Nat} {f : Nat → Nat} (h : Bytes w a l f) (hn : n ≤ l) : Bytes w a n f := by
  refine ⟨by have := h.1; omega, fun i hi => h.2.1 i (by omega), ?_⟩
  rcases h.2.2 with h | ⟨b, off, h1, h2, h3⟩
  · exact .inl (by omega)
  · exact .inr ⟨b, off, h1, h2, fun i hi => h3 i (by omega)⟩
theorem Bytes.cellAt {w wr : World} {b off l : Nat} {f : Nat → Nat} (h : Bytes w (some ⟨b, off, none⟩) l f) (hB : Below w.heap.size w wr) {j : Nat} (hj : j < l) : wr.cell? ⟨b, off + j, none⟩ = some (.int .u8 (f j)) := by
  have h2 := Bytes.step hB h
  rcases h2.2.2 with h | ⟨b', off', h1, _, h3⟩
  · omega
  · cases h1; exact h3 j hj

theorem upto_lt {w : World} {a0 a1 a2 : Option Addr} {l0 l1 l2 n i : Nat} {f0 f1 f2 : Nat → Nat} (h0 : Bytes w a0 l0 f0) (h1 : Bytes w a1 l1 f1) (h2 : Bytes w a2 l2 f2) (hi : i < n) (n0 : n ≤ l0) (n1 : n ≤ l1) (n2 : n ≤ l2) : upto f0 f1 f2 n i < 256 := by
  unfold upto; rw [if_pos hi]
  exact xor_lt8 (xor_lt8 (h0.2.1 i (by omega)) (h1.2.1 i (by omega))) (h2.2.1 i (by omega))
/-- The four texts lie in the world w', which is wr with more memory. -/
def T3 (wr : World) (n g : Nat) (X : Nat → Nat) (a0 : Option Addr) (f0 : Nat → Nat) (a1 : Option Addr) (f1 : Nat → Nat) (a2 : Option Addr) (f2 : Nat → Nat) (w' : World) : Prop :=
  Below wr.heap.size wr w' ∧ Bytes w' (some ⟨g, 0, none⟩) n X ∧ Bytes w' a0 n f0 ∧ Bytes w' a1 n f1 ∧ Bytes w' a2 n f2
theorem T3.start {wr : World} {n g : Nat} {X : Nat → Nat} {a0 a1 a2 : Option Addr} {f0 f1 f2 : Nat → Nat} (h : Bytes wr (some ⟨g, 0, none⟩) n X) (h0 : Bytes wr a0 n f0) (h1 : Bytes wr a1 n f1) (h2 : Bytes wr a2 n f2) : T3 wr n g X a0 f0 a1 f1 a2 f2 wr.drew := by
  have hB : Below wr.heap.size wr wr.drew := (Below.refl _ _).drew
  exact ⟨hB, Bytes.step hB h, Bytes.step hB h0, Bytes.step hB h1, Bytes.step hB h2⟩
theorem T3.step {wr W w1 : World} {n g : Nat} {X : Nat → Nat} {a0 a1 a2 : Option Addr} {f0 f1 f2 : Nat → Nat} (hB : Below W.heap.size W w1) (h : T3 wr n g X a0 f0 a1 f1 a2 f2 W) : T3 wr n g X a0 f0 a1 f1 a2 f2 w1 :=
  ⟨h.1.trans (hB.mono h.1.size), Bytes.step hB h.2.1, Bytes.step hB h.2.2.1, Bytes.step hB h.2.2.2.1, Bytes.step hB h.2.2.2.2⟩

section
variable {wr w' : World} {n g : Nat} {X : Nat → Nat} {a0 a1 a2 : Option Addr} {f0 f1 f2 : Nat → Nat} (h : T3 wr n g X a0 f0 a1 f1 a2 f2 w')
include h
theorem T3.x : Bytes w' (some ⟨g, 0, none⟩) n X := h.2.1
theorem T3.t0 : Bytes w' a0 n f0 := h.2.2.1
theorem T3.t1 : Bytes w' a1 n f1 := h.2.2.2.1
theorem T3.t2 : Bytes w' a2 n f2 := h.2.2.2.2
end
theorem upto_fin {w : World} {a0 a1 a2 : Option Addr} {l0 l1 l2 n : Nat} {f0 f1 f2 : Nat → Nat} (h0 : Bytes w a0 l0 f0) (h1 : Bytes w a1 l1 f1) (h2 : Bytes w a2 l2 f2) (n0 : n ≤ l0) (n1 : n ≤ l1) (n2 : n ≤ l2) :
    (((mo 0 (upto f0 f1 f2 n) n : Nat) : Int) == bits BinOp.xor IntKind.u32 (bits BinOp.xor IntKind.u32 (mo 0 f0 n : Nat) (mo 0 f1 n : Nat)) (mo 0 f2 n : Nat)) = true := by
  have b0 : mo 0 f0 n < 4294967296 := mo_lt (by omega) (fun i hi => h0.2.1 i (by omega))
  have b1 : mo 0 f1 n < 4294967296 := mo_lt (by omega) (fun i hi => h1.2.1 i (by omega))
  have b2 : mo 0 f2 n < 4294967296 := mo_lt (by omega) (fun i hi => h2.2.1 i (by omega))
  rw [xor32 _ _ b0 b1, xor32 _ _ (xor_lt32 b0 b1) b2, ← mo_three]
  rw [mo_same (f := upto f0 f1 f2 n) (g := fun i => f0 i ^^^ f1 i ^^^ f2 i) 0 n (fun i hi => by unfold upto; rw [if_pos hi])]
  exact beq_self_eq_true _
theorem cut_to (a : Option Addr) (l c j : Nat) (h : j ≤ c) (w : World) : (Instr.slice 23 (.slice a l c) none (some (.int .i64 (j : Int))) none).run Try.prog w = .ok (.slice a j c) w := by
  have ht : Try.prog.underlying 23 = some (.slice (Try.prog.elem 23)) := by kernel_rfl
  have hs : ∀ w, (sizeOf (Try.prog.elem 23)).run Try.prog w = .ok 1 w := fun _ => by kernel_rfl
  rw [run_slice_h w 23 a l c ht .i64 (j : Int) (by omega) (by omega), hs]
  cases a <;> simp [Result.andThen, sliced, Addr.add_zero']

set_option maxHeartbeats 1000000 in
theorem turns (a0 : Option Addr) (l0 c0 : Nat) (f0 : Nat → Nat) (a1 : Option Addr) (l1 c1 : Nat) (f1 : Nat → Nat) (a2 : Option Addr) (l2 c2 : Nat) (f2 : Nat → Nat) (w : World)
    (h0 : Bytes w a0 l0 f0) (h1 : Bytes w a1 l1 f1) (h2 : Bytes w a2 l2 f2) (r0 : l0 ≤ c0) (r1 : l1 ≤ c1) (r2 : l2 ≤ c2) (m0 : c0 ≤ 140737488351232) :
    Calls Try.prog 6 #[.slice a0 l0 c0, .slice a1 l1 c1, .slice a2 l2 c2] w fun e w' => e = .returned (.bool true) ∧ Below w.heap.size w w' := by
  obtain ⟨i0, hi, hz0, hz1, hz2⟩ := info_parts bytes8
  go_enter Try.func6, Try.ntmps6
  go_upto_region 1 with fail
  go_cut [7] (fun v wx => ∃ n : Nat, v = .int .i64 n ∧ n ≤ l0 ∧ n ≤ l1 ∧ n ≤ l2 ∧ w = wx)
  case first =>
    go_wp2
    all_goals (go_meet; exact ⟨_, rfl, by omega, by omega, by omega, rfl⟩)
  case rest =>
    obtain ⟨n, rfl, n0, n1, n2, rfl⟩ := hcut
    go_wp2_with (refine wpList_make_full _ rfl _ _ 23 rfl w.heap.size 5 i0 (.int .u8 0) 1 Try.underlying23 hi hz0 hz1 .i64 .i64 _ _ n rfl rfl rfl rfl ?c1 ?c2 ?c3 ?_)
    case c1 => rw [hz2]; omega
    case c2 => unfold maxLen; omega
    case c3 => exact Nat.le_refl _
    intro w1 hown1 hgrow
    rw [← upto_none f0 f1 f2 n] at hown1
    have hB1 := Lib.hid ((Below.refl w.heap.size w).grown hgrow (Nat.le_refl _) (fun k hk => by cases hk))
    have hrow1 := Lib.hid hown1
    clear hown1 hgrow hi hz0 hz1 hz2
    go_wp2
    go_loopw [21] (fun i wr => ∃ j : Nat, j ≤ n ∧ i = .int .i64 j ∧ wr.ownsRow w.heap.size 5 1 (.slice (some ⟨w.heap.size, 0, none⟩) n n) n (row (upto f0 f1 f2 j) n) ∧ Below w.heap.size w wr) (fun i _ => n - (intOf i).toNat)
    case atStart => exact ⟨0, by omega, rfl, hrow1.out, hB1.out⟩
    case round =>
      obtain ⟨j, hj, rfl, hrw, hBw⟩ := hrel
      by_cases hlt : j < n
      · have fw := hrw.frozenAt j
        have hst := Lib.hid (upto_store hrw hBw)
        have cw : wr.cell? ⟨w.heap.size, j, none⟩ = some (.int .u8 0) := by
          rw [hrw.cellAt j (by omega), row_get _ _ _ hlt]
          unfold upto; rw [if_neg (by omega)]; rfl
        obtain ⟨b0, o0, rfl, _⟩ := h0.at (show j < l0 by omega)
        obtain ⟨b1, o1, rfl, _⟩ := h1.at (show j < l1 by omega)
        obtain ⟨b2, o2, rfl, _⟩ := h2.at (show j < l2 by omega)
        have k0 := Bytes.cellAt h0 hBw (show j < l0 by omega)
        have k1 := Bytes.cellAt h1 hBw (show j < l1 by omega)
        have k2 := Bytes.cellAt h2 hBw (show j < l2 by omega)
        have x1 := xor8 (f0 j) (f1 j) (h0.2.1 j (by omega)) (h1.2.1 j (by omega))
        have x2 := xor8 (f0 j ^^^ f1 j) (f2 j) (xor_lt8 (h0.2.1 j (by omega)) (h1.2.1 j (by omega))) (h2.2.1 j (by omega))
        clear hrw h0 h1 h2
        go_wp2
        go_region
        go_wp2
        go_roundw
        case rel => exact ⟨j + 1, by omega, by go_num, hst.out.1, hst.out.2⟩
        case measure => simp [intOf]; omega
      · obtain rfl : j = n := by omega
        have T0 := Lib.hid (T3.start (owned_bytes hrw (by omega) (fun i hi => upto_lt h0 h1 h2 hi n0 n1 n2)) (Bytes.cut (Bytes.step hBw h0) n0) (Bytes.cut (Bytes.step hBw h1) n1) (Bytes.cut (Bytes.step hBw h2) n2))
        have s0 := cut_to a0 l0 c0 j (by omega)
        have s1 := cut_to a1 l1 c1 j (by omega)
        have s2 := cut_to a2 l2 c2 j (by omega)
        have hfin := Lib.hid (upto_fin h0 h1 h2 n0 n1 n2)
        clear hrw
        go_wp2
        go_region_held3 (fun w' => T3 wr j w.heap.size (upto f0 f1 f2 j) a0 f0 a1 f1 a2 f2 w')
          (first | exact T0.out | exact T3.step (by assumption) (by assumption))
          (first | (go_at_call 7; refine (awake_any _).mono ?_; rintro e w2 ⟨rfl, hB⟩) | (go_at_call 8; ((with_reducible refine (of_any (some ⟨w.heap.size, 0, none⟩) _ _ (upto f0 f1 f2 j) _ (T3.x (by assumption))).mono ?_); rintro e w' ⟨rfl, rfl⟩)) | (go_at_call 8; ((with_reducible refine (of_any a0 _ _ f0 _ (T3.t0 (by assumption))).mono ?_); rintro e w' ⟨rfl, rfl⟩)) | (go_at_call 8; ((with_reducible refine (of_any a1 _ _ f1 _ (T3.t1 (by assumption))).mono ?_); rintro e w' ⟨rfl, rfl⟩)) | (go_at_call 8; ((with_reducible refine (of_any a2 _ _ f2 _ (T3.t2 (by assumption))).mono ?_); rintro e w' ⟨rfl, rfl⟩)))
        rename_i hHeld
        go_wp2
        go_ret
        exact ⟨ret_eq (congrArg Value.bool hfin.out), hBw.trans (hHeld.1.mono hBw.size)⟩
theorem turns_row (a0 : Option Addr) (l0 c0 : Nat) (z0 : List Int) (a1 : Option Addr) (l1 c1 : Nat) (z1 : List Int) (a2 : Option Addr) (l2 c2 : Nat) (z2 : List Int) (w : World) (w0 : IsRow .u8 w a0 l0 c0 z0) (w1 : IsRow .u8 w a1 l1 c1 z1) (w2 : IsRow .u8 w a2 l2 c2 z2) (m0 : c0 * 1 ≤ 140737488351232) :
    Calls Try.prog 6 #[.slice a0 l0 c0, .slice a1 l1 c1, .slice a2 l2 c2] w fun e w' => e = .returned (.bool true) ∧ Below w.heap.size w w' :=
  turns a0 l0 c0 _ a1 l1 c1 _ a2 l2 c2 _ w (row_bytes w0) (row_bytes w1) (row_bytes w2) (row_len w0).1 (row_len w1).1 (row_len w2).1 (by omega)
end Go.Proofs.Ythbihekkmmfedaa.sumD
