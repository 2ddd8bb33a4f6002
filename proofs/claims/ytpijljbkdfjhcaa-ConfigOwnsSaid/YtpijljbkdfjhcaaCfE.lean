/- The mode of one place is turned. -/
import Derived.Test.YtpijljbkdfjhcaaCfD
import Derived.Deep.DeepMust
set_option linter.unusedVariables false
set_option maxRecDepth 100000
namespace Go.Proofs.Ytpijljbkdfjhcaa.cfE
open Go.ChangeShapes Go.WideShapes Go.ChangeAt Go.RowKit Go.Deep
open spnM spnA spnB spnD spnI spnS cfA cfB cfC cfD

/-- a command -/
structure Cm where
  kind : Int
  dc : Int
  shard : Int
  node : Int
  mode : Int
  key : ByteArray
abbrev cC (c : Cm) : Array Value := #[.int .i64 c.kind, .int .i64 c.dc, .int .i64 c.shard, .int .i64 c.node, .int .i64 c.mode, .string c.key]
abbrev vC (c : Cm) : Value := .agg (cC c)
def Rg (n : Int) : Prop := -9223372036854775808 ≤ n ∧ n ≤ 9223372036854775807
structure KC (c : Cm) : Prop where
  kind : Rg c.kind
  dc : Rg c.dc
  shard : Rg c.shard
  node : Rg c.node
  mode : Rg c.mode
/-- is one of the first n of this mode? -/
def anyN (mo : Nat → Int) (x : Int) : Nat → Bool
  | 0 => false
  | n + 1 => anyN mo x n || decide (mo n = x)
def anyM (mo : Nat → Int) (x : Int) : Bool := anyN mo x 21
theorem anyN_up (mo : Nat → Int) (x : Int) (n : Nat) : anyN mo x (n + 1) = (anyN mo x n || decide (mo n = x)) := rfl
theorem anyN_iff (mo : Nat → Int) (x : Int) : ∀ n, anyN mo x n = true ↔ ∃ j, j < n ∧ mo j = x
  | 0 => by simp [anyN]
  | n + 1 => by
    rw [anyN_up, Bool.or_eq_true, anyN_iff mo x n, decide_eq_true_eq]
    constructor
    · rintro (⟨j, h1, h2⟩ | h)
      · exact ⟨j, by omega, h2⟩
      · exact ⟨n, by omega, h⟩
    · rintro ⟨j, h1, h2⟩
      by_cases h : j = n
      · subst h; exact .inr h2
      · exact .inl ⟨j, by omega, h2⟩
theorem anyM_iff (mo : Nat → Int) (x : Int) : anyM mo x = true ↔ ∃ j, j < 21 ∧ mo j = x := anyN_iff mo x 21
theorem anyN_in {mo : Nat → Int} {x : Int} {j n : Nat} (hj : j < n) (h : mo j = x) : anyN mo x n = true := (anyN_iff mo x n).2 ⟨j, hj, h⟩
/-- modes in memory -/
def MoR (b o : Nat) (mo : Nat → Int) (w : World) : Prop := ∀ j, j < 21 → w.cell? ⟨b, o + j, none⟩ = some (.int .i64 (mo j))
theorem index_any (b o : Nat) (mo : Nat → Int) (x : Int) (w : World) (h : MoR b o mo w) :
    Calls Try.prog 57 #[.slice (some ⟨b, o, none⟩) 21 21, .int .i64 x] w fun e w' => (∃ r, e = .returned (.int .i64 r) ∧ decide (0 ≤ r) = anyM mo x) ∧ w = w' := by
  replace h := Lib.hid h
  go_enter Try.func57, Try.ntmps57
  go_wp2
  go_loopw [8] (fun i wr => ∃ j : Nat, j ≤ 21 ∧ i = .int .i64 j ∧ Hid (anyN mo x j = false) ∧ w = wr) (fun i _ => 21 - (intOf i).toNat)
  case atStart => exact ⟨0, by omega, rfl, Lib.hid rfl, rfl⟩
  case round =>
    obtain ⟨j, hj, rfl, hn, rfl⟩ := hrel
    by_cases hlt : j < 21
    · have hc := h.out j hlt
      have hj0 : (0 : Int) ≤ (j : Int) := by omega
      have hj1 : (j : Int) < 21 := by omega
      have hu := Lib.hid (anyN_up mo x j)
      have hin := Lib.hid (fun (e : mo j = x) => anyN_in (n := 21) hlt e)
      generalize mo j = y at *
      by_cases hxy : x = y
      · have hxy' : (x == y) = true := by rw [beq_iff_eq]; exact hxy
        have hb := hin.out hxy.symm
        clear hin hu hn
        have hb' := Lib.hid hb
        clear hb hxy
        go_wp2
        go_ret
        exact ⟨⟨_, rfl, by rw [show anyM mo x = true from hb'.out]; simp⟩, rfl⟩
      · have hxy' : (x == y) = false := by rw [beq_eq_false_iff_ne]; exact hxy
        have hn' : Hid (anyN mo x (j + 1) = false) := Lib.hid (by rw [hu.out, hn.out]; simp; exact fun e => hxy e.symm)
        clear hin hu hn hxy
        go_wp2
        go_roundw
        case rel => exact ⟨j + 1, by omega, by go_num, hn', by trivial⟩
        case measure => simp [intOf]; omega
    · obtain rfl : j = 21 := by omega
      go_wp2
      go_ret
      exact ⟨⟨_, rfl, by rw [show anyM mo x = false from hn.out]; simp⟩, by trivial⟩
theorem contains_any (b o : Nat) (mo : Nat → Int) (x : Int) (w : World) (h : MoR b o mo w) :
    Calls Try.prog 53 #[.slice (some ⟨b, o, none⟩) 21 21, .int .i64 x] w fun e w' => e = .returned (.bool (anyM mo x)) ∧ w = w' := by
  have hi := Lib.hid (index_any b o mo x w h)
  generalize anyM mo x = y at *
  clear h
  go_enter Try.func53, Try.ntmps53
  go_wp2_with (go_at_call 57; ((with_reducible refine hi.out.mono ?_); rintro e w' ⟨⟨r, rfl, hr⟩, rfl⟩))
  all_goals
    go_ret
    exact ⟨by rw [← hr]; try rfl, by trivial⟩
def apart (mo : Nat → Int) (mode : Int) : Bool := if mode = 1 then anyM mo 3 else if mode = 3 then anyM mo 1 else false
theorem isApart_any (b o : Nat) (mo : Nat → Int) (x : Int) (w : World) (h : MoR b o mo w) :
    Calls Try.prog 51 #[.slice (some ⟨b, o, none⟩) 21 21, .int .i64 x] w fun e w' => e = .returned (.bool (apart mo x)) ∧ w = w' := by
  have hc := Lib.hid (fun x => contains_any b o mo x w h)
  clear h
  unfold apart
  by_cases h1 : x = 1
  · subst h1
    rw [if_pos rfl]
    go_enter Try.func51, Try.ntmps51
    go_wp2_with (go_at_call 53; ((with_reducible refine (hc.out 3).mono ?_); rintro e w' ⟨rfl, rfl⟩))
    go_ret
    exact ⟨rfl, rfl⟩
  · rw [if_neg h1]
    have h1' : (x == 1) = false := by rw [beq_eq_false_iff_ne]; exact h1
    by_cases h3 : x = 3
    · subst h3
      rw [if_pos rfl]
      clear h1
      go_enter Try.func51, Try.ntmps51
      go_wp2_with (go_at_call 53; ((with_reducible refine (hc.out 1).mono ?_); rintro e w' ⟨rfl, rfl⟩))
      go_ret
      exact ⟨rfl, rfl⟩
    · rw [if_neg h3]
      have h3' : (x == 3) = false := by rw [beq_eq_false_iff_ne]; exact h3
      clear h1 h3 hc
      go_enter Try.func51, Try.ntmps51
      go_wp2
      go_ret
      exact ⟨rfl, rfl⟩
/-- may it be said at all? -/
def may (s : Cf) (c : Cm) : Bool := (decide (0 ≤ c.node) && decide (c.node ≤ min s.nodes 4)) && (decide (1 ≤ c.mode) && decide (c.mode ≤ 3))
def plc (c : Cm) : Nat := (1 + 5 * c.dc + c.node).toNat
def swE (s : Cf) (c : Cm) : Nat := if may s c = false then 1 else if s.mo (plc c) = c.mode then 8 else if apart s.mo c.mode = true then 15 else 0
def swM (s : Cf) (c : Cm) : Cf := { s with mo := upd s.mo (plc c) c.mode }
theorem SB.mor {T : TypeId} {b : Nat} {s : Cf} {a : Wh} {w : World} (h : SB T b s a w) : MoR b 14 s.mo w := fun _ hj => h.mo hj
theorem cells6 (w : World) (c : Cm) (T : TypeId) : (w.alloc (.cells (cC c) T)).cell? ⟨w.heap.size, 1, none⟩ = some (.int .i64 c.dc) ∧ (w.alloc (.cells (cC c) T)).cell? ⟨w.heap.size, 3, none⟩ = some (.int .i64 c.node) ∧ (w.alloc (.cells (cC c) T)).cell? ⟨w.heap.size, 4, none⟩ = some (.int .i64 c.mode) :=
  ⟨cell_of_row _ _ 1 (cC c) T (0, 0) (heap_alloc_new w _), cell_of_row _ _ 3 (cC c) T (0, 0) (heap_alloc_new w _), cell_of_row _ _ 4 (cC c) T (0, 0) (heap_alloc_new w _)⟩
theorem below_drewN' {B : Nat} {w w1 : World} (h : Below B w w1) (n : Nat) : Below B w (w1.drewN n) := ⟨h.os, h.tape, h.output, h.size, h.block⟩
theorem gs_drewN {w : World} {base : Nat} {s : Cf} {a : Wh} (h : GS w base s a) (n : Nat) : GS (w.drewN n) base s a := fun i hi => ⟨(h i hi).cs, (h i hi).ns⟩
theorem Bx.drewN {T : TypeId} {b base : Nat} {s : Cf} {w0 w : World} (h : Bx T b base s w0 w) (n : Nat) : Bx T b base s w0 (w.drewN n) := by
  obtain ⟨a', h1, h2, h3⟩ := h
  exact ⟨a', h1, gs_drewN h2 n, below_drewN' h3 n⟩
theorem quiet1 {P : Program} {f : FuncId} {args : Array Value} {w : World} {n : Nat} {v : Value} (h : Calls P f args (w.drewN n) fun e w' => e = .returned v ∧ w.drewN n = w') : Calls P f args (w.drewN n) fun e w'' => e = .returned v ∧ ∃ m, w'' = w.drewN m := h.mono fun _ _ ⟨he, hm⟩ => ⟨he, n, hm.symm⟩
theorem quiet3 {P : Program} {f : FuncId} {args : Array Value} {w : World} {k n : Nat} {v : Value} (h : Calls P f args (w.drewN (k + n)) fun e w' => e = .returned v ∧ w.drewN (k + n) = w') : Calls P f args (w.drewN (k + n)) fun e w'' => e = .returned v ∧ ∃ m, w'' = w.drewN (k + m) := h.mono fun _ _ ⟨he, hm⟩ => ⟨he, n, hm.symm⟩
set_option maxHeartbeats 1000000 in
theorem turn_bad (b base : Nat) (s : Cf) (a : Wh) (c : Cm) (w : World) (hk : KC c) (hS : SB TS b s a w) (hG : GS w base s a) (hb : base ≤ b) (hbw : base ≤ w.heap.size) (hm : may s c = false) :
    Calls Try.prog 42 #[.pointer (some ⟨b, 0, none⟩), vC c] w fun e w' => e = .returned (.int .i64 1) ∧ Bx TS b base s w w' := by
  have hB0 := al0 w (.cells (cC c) 43)
  obtain ⟨d0, d1, d2⟩ := cells6 w c 43
  obtain ⟨W, hW⟩ : ∃ W, w.alloc (.cells (cC c) 43) = W := ⟨_, rfl⟩
  have hS1 := hS.below hB0
  have hX : Hid (∀ n, Bx TS b base s w (W.drewN n)) := Lib.hid fun n => (Bx.drewN ⟨a, by rw [← hW]; exact hS1, hW ▸ hG.below hB0, hW ▸ (Below.refl base w).alloc hbw _⟩ n)
  have k1 := hS1.c1
  rw [hW] at hS1 d0 d1 d2 k1
  have hWf := Lib.hid hW
  clear hS hG hB0 hW hS1 d0
  unfold may at hm
  have hf1 := Lib.hid (fun (w : World) => isFrom_any 0 (min s.nodes 4) c.node w)
  have hf2 := Lib.hid (fun (w : World) => isFrom_any 1 3 c.mode w)
  generalize (decide (0 ≤ c.node) && decide (c.node ≤ min s.nodes 4)) = g1 at *
  generalize (decide (1 ≤ c.mode) && decide (c.mode ≤ 3)) = g2 at *
  go_enter Try.func42, Try.ntmps42
  go_wp2_with (fail)
  rw [hWf.out]
  have hq1 := Lib.hid (fun n => quiet1 (hf1.out (W.drewN n)))
  have hq2 := Lib.hid (fun n => quiet1 (hf2.out (W.drewN n)))
  clear hf1 hf2
  cases g1
  all_goals cases g2
  all_goals first | (exfalso; cases hm; done) | skip
  all_goals
    clear hm
    go_quiet (first | (go_at_call 27; first | (with_reducible exact hq1.out _) | (with_reducible exact hq2.out _) | go_must (exact (0 : Nat))) | fail)
    go_wp2
    go_ret
    exact ⟨rfl, hX.out _⟩
theorem may_yes {s : Cf} {c : Cm} (h : may s c = true) : 0 ≤ c.node ∧ c.node ≤ s.nodes ∧ c.node ≤ 4 ∧ 1 ≤ c.mode ∧ c.mode ≤ 3 := by
  unfold may at h
  simp only [Bool.and_eq_true, decide_eq_true_eq] at h
  omega
theorem MoR.drewN {b o : Nat} {mo : Nat → Int} {w : World} (h : MoR b o mo w) (n : Nat) : MoR b o mo (w.drewN n) := h
set_option maxHeartbeats 1000000 in
theorem turn_good (b base : Nat) (s : Cf) (a : Wh) (c : Cm) (w : World) (hd0 : 0 ≤ c.dc) (hd3 : c.dc ≤ 3) (hk : KC c) (hS : SB TS b s a w) (hG : GS w base s a) (hb : base ≤ b) (hbw : base ≤ w.heap.size) (hm : may s c = true) :
    Calls Try.prog 42 #[.pointer (some ⟨b, 0, none⟩), vC c] w fun e w' => e = .returned (.int .i64 (swE s c)) ∧ Bx TS b base (if swE s c = 0 then swM s c else s) w w' := by
  have hB0 := al0 w (.cells (cC c) 43)
  obtain ⟨d0, d1, d2⟩ := cells6 w c 43
  obtain ⟨W, hW⟩ : ∃ W, w.alloc (.cells (cC c) 43) = W := ⟨_, rfl⟩
  have hS1 := hS.below hB0
  have k1 := hS1.c1
  have hG1 := hG.below hB0
  have hBw := (Below.refl base w).alloc hbw (.cells (cC c) 43)
  rw [hW] at hS1 d0 d1 d2 k1 hG1 hBw
  obtain ⟨n0, n1, n2, n3, n4⟩ := may_yes hm
  have hpp : plc c < 21 := by unfold plc; omega
  have hpe : (1 + 5 * c.dc + (c.node - 1) + 1 : Int) = (plc c : Int) := by unfold plc; omega
  have hX : Hid (∀ n, Bx TS b base s w (W.drewN n)) := Lib.hid fun n => Bx.drewN ⟨a, hS1, hG1, hBw⟩ n
  have hY : Hid (∀ n, Bx TS b base (swM s c) w ((W.drewN n).setCell ⟨b, 14 + plc c, none⟩ (.int .i64 c.mode))) := Lib.hid fun n => by
    have g1 : SB TS b s a (W.drewN n) := hS1
    exact ⟨a, g1.setMo hpp c.mode, ((gs_drewN hG1 n).box g1 ts1 ts2 _ _).ms fun _ _ => rfl, (below_drewN' hBw n).setCell (p := ⟨b, 14 + plc c, none⟩) hb _⟩
  have hE : Hid (swE s c = if s.mo (plc c) = c.mode then 8 else if apart s.mo c.mode = true then 15 else 0) := Lib.hid (by unfold swE; rw [hm]; rfl)
  have hmo := hS1.mo hpp
  have hfz := hS1.fz
  have hMo := Lib.hid (SB.mor hS1)
  have hWf := Lib.hid hW
  have hq3 := Lib.hid (fun k n => quiet3 (k := k) (n := n) (isApart_any b 14 s.mo c.mode (W.drewN (k + n)) (MoR.drewN hMo.out (k + n))))
  have hpl := Lib.hid (fun w => place_any c.dc (c.node - 1) w hd0 hd3 (by omega) (by omega))
  rw [hpe] at hpl
  have hw1 : IntKind.i64.wrap (c.node - 1) = c.node - 1 := wrap_in _ (by omega) (by omega)
  have hp0 : (0 : Int) ≤ (plc c : Int) := by omega
  have hp1 : (plc c : Int) < 21 := by omega
  clear hS hG hB0 hW hS1 hG1 hBw hpe hMo
  unfold may at hm
  have hf1 := Lib.hid (fun (w : World) => isFrom_any 0 (min s.nodes 4) c.node w)
  have hf2 := Lib.hid (fun (w : World) => isFrom_any 1 3 c.mode w)
  rw [Bool.and_eq_true] at hm
  rw [hm.1] at hf1
  rw [hm.2] at hf2
  clear hm hk hd0 hd3 n0 n1 n2 n3 n4
  have hq1 := Lib.hid (fun n => quiet1 (hf1.out (W.drewN n)))
  have hq2 := Lib.hid (fun n => quiet1 (hf2.out (W.drewN n)))
  clear hf1 hf2
  obtain ⟨R, hR⟩ : ∃ R, (if swE s c = 0 then swM s c else s) = R := ⟨_, rfl⟩
  rw [hR]
  replace hR := Lib.hid hR
  generalize swE s c = E at *
  generalize plc c = p at *
  generalize s.mo p = y at *
  generalize apart s.mo c.mode = z at *
  go_enter Try.func42, Try.ntmps42
  go_wp2_with (fail)
  rw [hWf.out]
  go_quiet (first | (go_at_call 27; first | (with_reducible exact hq1.out _) | (with_reducible exact hq2.out _) | go_must (exact (0 : Nat))) | fail)
  clear hq1 hq2 k1
  go_wp2_with (go_at_call 24; ((with_reducible refine (hpl.out _).mono ?_); rintro e w' ⟨rfl, rfl⟩))
  clear hpl hw1
  by_cases hy : y = c.mode
  · have hyb : (y == c.mode) = true := by rw [beq_iff_eq]; exact hy
    have hE' : Hid (E = 8) := Lib.hid (hE.out.trans (if_pos hy))
    clear hy hq3 hY hE hfz
    go_quiet (fail)
    rw [World.drewN_drewN]
    clear hmo d0 d1 d2
    go_wp2
    go_ret
    obtain rfl := hE'.out
    obtain rfl := hR.out
    exact ⟨rfl, hX.out _⟩
  · have hyb : (y == c.mode) = false := by rw [beq_eq_false_iff_ne]; exact hy
    have hE' : Hid (E = if z = true then 15 else 0) := Lib.hid (hE.out.trans (if_neg hy))
    clear hy hE
    go_quiet (fail)
    rw [World.drewN_drewN]
    clear hyb
    go_wp2_with (fail)
    cases z
    · go_quiet (first | (go_at_call 51; first | (with_reducible exact hq3.out _ _) | go_must (exact (0 : Nat))) | fail)
      rw [World.drewN_drewN]
      clear hq3 hX
      go_wp2_with (fail)
      go_region
      all_goals
        go_wp2
        go_ret
        obtain rfl := hE'.out
        obtain rfl := hR.out
        refine ⟨rfl, ?_⟩
        first | exact hY.out _ | exact (hY.out _).drew | go_must (exact (0 : Nat))
    · clear hY
      go_quiet (first | (go_at_call 51; first | (with_reducible exact hq3.out _ _) | go_must (exact (0 : Nat))) | fail)
      rw [World.drewN_drewN]
      go_wp2
      go_ret
      obtain rfl := hE'.out
      obtain rfl := hR.out
      exact ⟨rfl, hX.out _⟩
end Go.Proofs.Ytpijljbkdfjhcaa.cfE
