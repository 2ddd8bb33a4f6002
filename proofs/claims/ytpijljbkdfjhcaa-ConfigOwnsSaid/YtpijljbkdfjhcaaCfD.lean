/- Copy. -/
import Derived.Test.YtpijljbkdfjhcaaCfC
import Derived.Test.YtpijljbkdfjhcaaSpnD
set_option linter.unusedVariables false
set_option maxRecDepth 100000
namespace Go.Proofs.Ytpijljbkdfjhcaa.cfD
open Go.ChangeShapes Go.WideShapes Go.ChangeAt Go.RowKit Go.Deep
open spnM spnA spnB spnD spnI spnS cfA cfB cfC

/-- nothing -/
def zC : Cf := ⟨0, 0, fun _ => false, fun _ => non, fun _ => 0⟩
abbrev zA : Wh := fun _ => nAr
theorem zGS (w : World) (base : Nat) : GS w base zC zA := fun i _ => GM.non_ w base
theorem ix_ma (s : Cf) (a : Wh) {j : Nat} (h : j < 4) (w : World) : (Instr.index 27 (.agg #[.slice (a 0).A1 (s.ms 0).cs.length (a 0).c1, .slice (a 0).A2 (s.ms 0).ns.length (a 0).c2, .slice (a 1).A1 (s.ms 1).cs.length (a 1).c1, .slice (a 1).A2 (s.ms 1).ns.length (a 1).c2, .slice (a 2).A1 (s.ms 2).cs.length (a 2).c1, .slice (a 2).A2 (s.ms 2).ns.length (a 2).c2, .slice (a 3).A1 (s.ms 3).cs.length (a 3).c1, .slice (a 3).A2 (s.ms 3).ns.length (a 3).c2]) (.int .i64 (j : Int))).run Try.prog w = .ok (.agg #[.slice (a j).A1 (s.ms j).cs.length (a j).c1, .slice (a j).A2 (s.ms j).ns.length (a j).c2]) w := by
  rcases four h with rfl | rfl | rfl | rfl <;> kernel_rfl
theorem run_row {T : TypeId} {b : Nat} {s : Cf} {a : Wh} {w : World} (h : SB T b s a w) (hT : T = TS ∨ T = TR) : (loadVar T ⟨b, 0, none⟩).run Try.prog w = .ok (.agg (cS s a)) w := by
  rcases hT with rfl | rfl
  · exact run_loadVar_row w b _ _ _ _ _ h Try.underlying30 rfl (by kernel_rfl)
  · exact run_loadVar_row w b _ _ _ _ _ h Try.underlying34 rfl (by kernel_rfl)
theorem info_s {T : TypeId} (hT : T = TS ∨ T = TR) (s : Cf) (a : Wh) : (Try.prog.info? T).map (·.size) = some (cS s a).size := by
  rcases hT with rfl | rfl <;> kernel_rfl
section
variable {ops : Array Oper} {rest : List Oper} {o : Oper} {c : Act} {w : World} {Q : Exit → Act → World → Prop} {s s' : Cf} {a a' : Wh}
/-- a configuration is loaded whole, stored whole -/
theorem st_load (hgd : o.guard = none) (T : TypeId) (x : Operand) (ho : o.op = .load T x) (b : Nat) (hx : c.eval x = .pointer (some ⟨b, 0, none⟩)) (hS : SB T b s a w) (hT : T = TS ∨ T = TR)
    (h : wpList Try.prog ops Q rest (c.put o.dst (.agg (cS s a))) w) : wpList Try.prog ops Q (o :: rest) c w := by
  rcases hT with rfl | rfl
  · exact wpList_load_row hgd _ x ho b hx _ _ _ _ hS Try.underlying30 rfl (by kernel_rfl) h
  · exact wpList_load_row hgd _ x ho b hx _ _ _ _ hS Try.underlying34 rfl (by kernel_rfl) h
theorem st_store (hgd : o.guard = none) (T : TypeId) (x y : Operand) (ho : o.op = .store T x y) (b : Nat) (s' : Cf) (a' : Wh) (hx : c.eval x = .pointer (some ⟨b, 0, none⟩)) (hy : c.eval y = .agg (cS s' a')) (hS : SB T b s a w) (hT : T = TS ∨ T = TR)
    (h : wpList Try.prog ops Q rest (c.put o.dst undef) (w.setRow b (cS s' a'))) : wpList Try.prog ops Q (o :: rest) c w :=
  wpList_store_row hgd _ x y ho b _ hx hy _ _ hS (info_s hT s' a') (by rw [cS_size, cS_size]) (cS_one s' a') h
theorem st_res {fn : Func} {p : Tmp} {T : TypeId} (h : fn.results = #[.cell p T]) (tmps : Array Value) (w : World) (b : Nat) (hp : tmps.getD p undef = .pointer (some ⟨b, 0, none⟩)) (hS : SB T b s a w) (hT : T = TS ∨ T = TR) :
    (results fn tmps).run Try.prog w = .ok (.agg (cS s a)) w := by
  rcases hT with rfl | rfl
  · exact results_cell_row h tmps w b _ _ _ _ hp hS Try.underlying30 rfl (by kernel_rfl)
  · exact results_cell_row h tmps w b _ _ _ _ hp hS Try.underlying34 rfl (by kernel_rfl)
theorem st_res2 {fn : Func} {p u : Tmp} {T : TypeId} (h : fn.results = #[.cell p T, .tmp u]) (tmps : Array Value) (w : World) (b : Nat) (x : Value) (hp : tmps.getD p undef = .pointer (some ⟨b, 0, none⟩)) (hu : tmps.getD u undef = x) (hS : SB T b s a w) (hT : T = TS ∨ T = TR) :
    (results fn tmps).run Try.prog w = .ok (.tuple #[.agg (cS s a), x]) w := by
  rw [results_cell_tmp h, hp, hu]
  show ((loadVar T ⟨b, 0, none⟩).run Try.prog w).andThen _ = _
  rw [run_row hS hT]
  rfl
end
/-- the copy on the way: the first j maps are the call's own -/
structure CX (b base : Nat) (s : Cf) (j : Nat) (w0 w : World) : Prop where
  ex : ∃ a', SB TS b s a' w ∧ ∀ i, i < j → GM w base (a' i).A1 (a' i).c1 (a' i).A2 (a' i).c2 (s.ms i)
  sb : SB TS (b + 1) zC zA w
  bel : Below base w0 w
theorem cx_step {b base j : Nat} {s : Cf} {w0 w w1 : World} {A1 A2 : Option Addr} {c1 c2 : Nat} (hj : j < 4) (h : CX b base s j w0 w) (hb : base ≤ b) (hbw : base ≤ w.heap.size) (hG : GM w1 w.heap.size A1 c1 A2 c2 (s.ms j)) (hB : Below w.heap.size w w1) :
    CX b base s (j + 1) w0 ((w1.setCell ⟨b, 6 + j * 2, none⟩ (.slice A1 (s.ms j).cs.length c1)).setCell ⟨b, 6 + j * 2 + 1, none⟩ (.slice A2 (s.ms j).ns.length c2)) := by
  obtain ⟨⟨a', hS, ho⟩, hz, hbl⟩ := h
  have hS1 := hS.below hB
  have q := hS1.setMa hj A1 c1 A2 c2 (s.ms j)
  have e : ({ s with ms := upd s.ms j (s.ms j) } : Cf) = s := by
    have : upd s.ms j (s.ms j) = s.ms := by funext i; unfold upd; split <;> simp_all
    rw [this]
  rw [e] at q
  have g1 : ∀ {A1' A2' : Option Addr} {c1' c2' : Nat} {m' : M}, GM w1 base A1' c1' A2' c2' m' → GM ((w1.setCell ⟨b, 6 + j * 2, none⟩ (.slice A1 (s.ms j).cs.length c1)).setCell ⟨b, 6 + j * 2 + 1, none⟩ (.slice A2 (s.ms j).ns.length c2)) base A1' c1' A2' c2' m' := fun h => by
    have hne : ∀ {v : Value} {sz k : Nat} {e : TypeId} {xs : List Value}, w1.ownsRow base e sz v k xs → TS ≠ e → ∀ k, v.ownBlock = some k → ((w1.setCell ⟨b, 6 + j * 2, none⟩ (.slice A1 (s.ms j).cs.length c1)).setCell ⟨b, 6 + j * 2 + 1, none⟩ (.slice A2 (s.ms j).ns.length c2)).heap[k]? = w1.heap[k]? := fun ho hne k e => by
      have hkb : k ≠ b := fun e1 => row_box (n := 0) hS1 ho hne (by rw [e, e1])
      exact (heap_setCell_other _ ⟨b, _, none⟩ k _ hkb).trans (heap_setCell_other _ ⟨b, _, none⟩ k _ hkb)
    exact ⟨own_block h.cs fun k e => hne h.cs ts1 k e, own_block h.ns fun k e => hne h.ns ts2 k e⟩
  refine ⟨⟨_, q, fun i hi => ?_⟩, ((hz.below hB).other (by omega) _ _).other (by omega) _ _, ((hbl.trans (hB.mono hbw)).setCell (p := ⟨b, 6 + j * 2, none⟩) hb _).setCell (p := ⟨b, 6 + j * 2 + 1, none⟩) hb _⟩
  by_cases hij : i = j
  · subst hij; rw [upd_same]; exact g1 (hG.more hbw)
  · rw [upd_other _ _ hij]; exact g1 ((ho i (by omega)).below hB)
theorem CX.alloc {b base j : Nat} {s : Cf} {w0 w : World} (h : CX b base s j w0 w) (hbw : base ≤ w.heap.size) (o : Obj) : CX b base s j w0 (w.alloc o) := by
  obtain ⟨⟨a', hS, ho⟩, hz, hbl⟩ := h
  exact ⟨⟨a', hS.below (al0 w o), fun i hi => (ho i hi).below (al0 w o)⟩, hz.below (al0 w o), hbl.alloc hbw o⟩
/-- What a call answers that makes a configuration. -/
def GivesS (s : Cf) (w : World) (e : Ending) (w' : World) : Prop := ∃ a', e = .returned (.agg (cS s a')) ∧ GS w' w.heap.size s a' ∧ Below w.heap.size w w'
theorem copy_any (s : Cf) (a : Wh) (w : World) (h : HS w s a) : Calls Try.prog 25 #[.agg (cS s a)] w (GivesS s w) := by
  have hB := trans0 (al0 w (.cells (cS s a) TS)) (al0 (w.alloc (.cells (cS s a) TS)) (.cells #[.int .i64 0, .int .i64 0, .bool false, .bool false, .bool false, .bool false, .slice none 0 0, .slice none 0 0, .slice none 0 0, .slice none 0 0, .slice none 0 0, .slice none 0 0, .slice none 0 0, .slice none 0 0, .int .i64 0, .int .i64 0, .int .i64 0, .int .i64 0, .int .i64 0, .int .i64 0, .int .i64 0, .int .i64 0, .int .i64 0, .int .i64 0, .int .i64 0, .int .i64 0, .int .i64 0, .int .i64 0, .int .i64 0, .int .i64 0, .int .i64 0, .int .i64 0, .int .i64 0, .int .i64 0, .int .i64 0] TS))
  have hS := (SB.new TS s a w).below (al0 (w.alloc (.cells (cS s a) TS)) (.cells #[.int .i64 0, .int .i64 0, .bool false, .bool false, .bool false, .bool false, .slice none 0 0, .slice none 0 0, .slice none 0 0, .slice none 0 0, .slice none 0 0, .slice none 0 0, .slice none 0 0, .slice none 0 0, .int .i64 0, .int .i64 0, .int .i64 0, .int .i64 0, .int .i64 0, .int .i64 0, .int .i64 0, .int .i64 0, .int .i64 0, .int .i64 0, .int .i64 0, .int .i64 0, .int .i64 0, .int .i64 0, .int .i64 0, .int .i64 0, .int .i64 0, .int .i64 0, .int .i64 0, .int .i64 0, .int .i64 0] TS))
  have hZ : SB TS (w.heap.size + 1) zC zA ((w.alloc (.cells (cS s a) TS)).alloc (.cells #[.int .i64 0, .int .i64 0, .bool false, .bool false, .bool false, .bool false, .slice none 0 0, .slice none 0 0, .slice none 0 0, .slice none 0 0, .slice none 0 0, .slice none 0 0, .slice none 0 0, .slice none 0 0, .int .i64 0, .int .i64 0, .int .i64 0, .int .i64 0, .int .i64 0, .int .i64 0, .int .i64 0, .int .i64 0, .int .i64 0, .int .i64 0, .int .i64 0, .int .i64 0, .int .i64 0, .int .i64 0, .int .i64 0, .int .i64 0, .int .i64 0, .int .i64 0, .int .i64 0, .int .i64 0, .int .i64 0] TS)) := by
    have := SB.new TS zC zA (w.alloc (.cells (cS s a) TS))
    rw [World.size_alloc] at this
    exact this
  have hi := Lib.hid (fun (j : Nat) (h : j < 4) (wx : World) => ix_ma s a h wx)
  have k0 := hS.m1 (j := 0) (by omega)
  have k1 := hS.m2 (j := 0) (by omega)
  have k2 := hS.m1 (j := 1) (by omega)
  have k3 := hS.m2 (j := 1) (by omega)
  have k4 := hS.m1 (j := 2) (by omega)
  have k5 := hS.m2 (j := 2) (by omega)
  have k6 := hS.m1 (j := 3) (by omega)
  have k7 := hS.m2 (j := 3) (by omega)
  have hsz : w.heap.size + 2 ≤ ((w.alloc (.cells (cS s a) TS)).alloc (.cells #[.int .i64 0, .int .i64 0, .bool false, .bool false, .bool false, .bool false, .slice none 0 0, .slice none 0 0, .slice none 0 0, .slice none 0 0, .slice none 0 0, .slice none 0 0, .slice none 0 0, .slice none 0 0, .int .i64 0, .int .i64 0, .int .i64 0, .int .i64 0, .int .i64 0, .int .i64 0, .int .i64 0, .int .i64 0, .int .i64 0, .int .i64 0, .int .i64 0, .int .i64 0, .int .i64 0, .int .i64 0, .int .i64 0, .int .i64 0, .int .i64 0, .int .i64 0, .int .i64 0, .int .i64 0, .int .i64 0] TS)).heap.size := by simp
  obtain ⟨W, hW⟩ : ∃ W, ((w.alloc (.cells (cS s a) TS)).alloc (.cells #[.int .i64 0, .int .i64 0, .bool false, .bool false, .bool false, .bool false, .slice none 0 0, .slice none 0 0, .slice none 0 0, .slice none 0 0, .slice none 0 0, .slice none 0 0, .slice none 0 0, .slice none 0 0, .int .i64 0, .int .i64 0, .int .i64 0, .int .i64 0, .int .i64 0, .int .i64 0, .int .i64 0, .int .i64 0, .int .i64 0, .int .i64 0, .int .i64 0, .int .i64 0, .int .i64 0, .int .i64 0, .int .i64 0, .int .i64 0, .int .i64 0, .int .i64 0, .int .i64 0, .int .i64 0, .int .i64 0] TS)) = W := ⟨_, rfl⟩
  have hX : Hid (CX w.heap.size w.heap.size s 0 w W) := Lib.hid ⟨⟨a, by rw [← hW]; exact hS, fun i hi => absurd hi (by omega)⟩, by rw [← hW]; exact hZ, by rw [← hW]; exact hB⟩
  replace h := Lib.hid h
  have hWf := Lib.hid hW
  clear hB hS hZ hsz hW
  go_enter Try.func25, Try.ntmps25
  go_wp2
  rw [hWf.out]
  clear k0 k1 k2 k3 k4 k5 k6 k7
  go_loopw [7] (fun i wr => ∃ j : Nat, j ≤ 4 ∧ i = .int .i64 j ∧ Hid (CX w.heap.size w.heap.size s j w wr)) (fun i _ => 4 - (intOf i).toNat)
  case atStart => exact ⟨0, by omega, rfl, hX⟩
  case round =>
    clear hX hWf
    obtain ⟨j, hj, rfl, hX⟩ := hrel
    by_cases hlt : j < 4
    · have hx := hi.out j hlt
      have hj0 : (0 : Int) ≤ (j : Int) := by omega
      have hj1 : (j : Int) < 4 := by omega
      have hbw := hX.out.bel.size
      have hX1 := hX.out.alloc hbw (.cells #[.slice (a j).A1 (s.ms j).cs.length (a j).c1, .slice (a j).A2 (s.ms j).ns.length (a j).c2] 26)
      have hcp := Lib.hid (spnD.copy_any _ _ _ _ _ _ ((h.out j hlt).below hX1.bel))
      have hst := Lib.hid (fun (w1 : World) (A1 A2 : Option Addr) (c1 c2 : Nat) => cx_step (w1 := w1) (A1 := A1) (A2 := A2) (c1 := c1) (c2 := c2) hlt hX1 (Nat.le_refl _) hX1.bel.size)
      obtain ⟨a', hS, -⟩ := hX1.ex
      replace hS := Lib.hid hS
      clear hX1 hX
      go_wp2_with (go_at_call 38; ((with_reducible refine hcp.out.mono ?_); rintro e w' ⟨A1, c1, A2, c2, rfl, hG', hB'⟩; have hS' := hS.out.below hB'; have y0 := hS'.m1 hlt; have y1 := hS'.m2 hlt; have f := hS'.fz))
      have hfin := Lib.hid (hst.out _ _ _ _ _ hG' hB')
      clear y0 y1 f hS' hG' hB'
      go_roundw
      case rel => exact ⟨j + 1, by omega, by go_num, hfin⟩
      case measure => simp [intOf]; omega
    · obtain rfl : j = 4 := by omega
      obtain ⟨⟨a', hS, ho⟩, hz, hbl⟩ := hX.out
      clear hi hX
      go_wp2_with (first | (refine st_load rfl TS _ rfl w.heap.size rfl hS (.inl rfl) ?_) | (refine st_store rfl TS _ _ rfl (w.heap.size + 1) s a' rfl rfl hz (.inl rfl) ?_) | fail)
      refine bodyPost_ret (v := .agg (cS s a')) (st_res rfl _ _ (w.heap.size + 1) rfl (hz.setRow s a') (.inl rfl)) rfl ⟨a', rfl, ?_, below_setRow' hbl (by omega) _⟩
      intro i hi
      have hr : ∀ {v : Value} {sz k : Nat} {e : TypeId} {xs : List Value}, wr.ownsRow w.heap.size e sz v k xs → TS ≠ e → ∀ k, v.ownBlock = some k → (wr.setRow (w.heap.size + 1) (cS s a')).heap[k]? = wr.heap[k]? := fun ho hne k e => setRow_other wr _ k _ (fun e1 => row_box (n := 0) hz ho hne (by rw [e, e1]))
      exact ⟨own_block (ho i hi).cs fun k e => hr (ho i hi).cs ts1 k e, own_block (ho i hi).ns fun k e => hr (ho i hi).ns ts2 k e⟩
end Go.Proofs.Ytpijljbkdfjhcaa.cfD
