/- Whole configurations stored in one step. -/
import Derived.Test.YtpijljbkdfjhcaaCfI
import Derived.Test.YtpijljbkdfjhcaaCfR
set_option linter.unusedVariables false
set_option maxRecDepth 100000
namespace Go.Proofs.Ytpijljbkdfjhcaa.cfW
open Go.ChangeShapes Go.WideShapes Go.ChangeAt Go.RowKit Go.Deep
open spnM spnA spnB spnD spnI spnS cfA cfB cfC cfD cfE cfI cfR

/-- what is stored may be stored there; the world behind it -/
def StT (T : TypeId) (w : World) (v u : Value) : Prop := ∃ b cs old t, v = .pointer (some ⟨b, 0, none⟩) ∧ u = .agg cs ∧ w.heap[b]? = some (.cells old t (0, 0)) ∧ (Try.prog.info? T).map (·.size) = some cs.size ∧ old.size = cs.size ∧ cs.all (·.oneCell') = true
def stW (w : World) (v u : Value) : World :=
  match v, u with
  | .pointer (some p), .agg cs => w.setRow p.block cs
  | _, _ => w
theorem stW_at (w : World) (b : Nat) (s : Cf) (a : Wh) : stW w (.pointer (some ⟨b, 0, none⟩)) (.agg (cS s a)) = w.setRow b (cS s a) := rfl
theorem op_st (T : TypeId) (dst : Option Tmp) (x y : Operand) (ty : TypeId) (pos : String) (after : Array Edge) (guard : Option (Nat × Bool)) (a : Act) (w : World) (K : Act → World → Prop) (Q : Exit → Act → World → Prop) (h : StT T w (a.eval x) (a.eval y)) :
    Oper.wp Try.prog { dst := dst, op := .store T x y, type := ty, pos := pos, after := after, guard := guard } a w K Q = K (a.put dst undef) (stW w (a.eval x) (a.eval y)) := by
  obtain ⟨b, cs, old, t, hx, hy, hg, hi, ho, h1⟩ := h
  rw [hx, hy]
  unfold Oper.wp execOp
  simp only [hx, hy, Instr.storeAt, Instr.sureAddr, Sem.run_bind, Sem.run_pure, Result.andThen_ok, run_storeVar_row w b t T old cs hg hi ho h1]
  rfl
theorem ex_st (T : TypeId) (dst : Option Tmp) (x y : Operand) (ty : TypeId) (pos : String) (after : Array Edge) (guard : Option (Nat × Bool)) (ρ : Operand → Value) (w : World) (h : StT T w (ρ x) (ρ y)) :
    (execOp ρ { dst := dst, op := .store T x y, type := ty, pos := pos, after := after, guard := guard }).run Try.prog w = .ok .skip (stW w (ρ x) (ρ y)) := by
  obtain ⟨b, cs, old, t, hx, hy, hg, hi, ho, h1⟩ := h
  rw [hx, hy]
  unfold execOp
  simp only [hx, hy, Instr.storeAt, Instr.sureAddr, Sem.run_bind, Sem.run_pure, Result.andThen_ok, run_storeVar_row w b t T old cs hg hi ho h1]
  rfl
theorem op_stS (dst : Option Tmp) (x y : Operand) (ty : TypeId) (pos : String) (after : Array Edge) (guard : Option (Nat × Bool)) (a : Act) (w : World) (K : Act → World → Prop) (Q : Exit → Act → World → Prop) (h : StT 30 w (a.eval x) (a.eval y)) :
    Oper.wp Try.prog { dst := dst, op := .store 30 x y, type := ty, pos := pos, after := after, guard := guard } a w K Q = K (a.put dst undef) (stW w (a.eval x) (a.eval y)) := op_st _ dst x y ty pos after guard a w K Q h
theorem op_stR (dst : Option Tmp) (x y : Operand) (ty : TypeId) (pos : String) (after : Array Edge) (guard : Option (Nat × Bool)) (a : Act) (w : World) (K : Act → World → Prop) (Q : Exit → Act → World → Prop) (h : StT 34 w (a.eval x) (a.eval y)) :
    Oper.wp Try.prog { dst := dst, op := .store 34 x y, type := ty, pos := pos, after := after, guard := guard } a w K Q = K (a.put dst undef) (stW w (a.eval x) (a.eval y)) := op_st _ dst x y ty pos after guard a w K Q h
theorem ex_stS (dst : Option Tmp) (x y : Operand) (ty : TypeId) (pos : String) (after : Array Edge) (guard : Option (Nat × Bool)) (ρ : Operand → Value) (w : World) (h : StT 30 w (ρ x) (ρ y)) :
    (execOp ρ { dst := dst, op := .store 30 x y, type := ty, pos := pos, after := after, guard := guard }).run Try.prog w = .ok .skip (stW w (ρ x) (ρ y)) := ex_st _ dst x y ty pos after guard ρ w h
theorem ex_stR (dst : Option Tmp) (x y : Operand) (ty : TypeId) (pos : String) (after : Array Edge) (guard : Option (Nat × Bool)) (ρ : Operand → Value) (w : World) (h : StT 34 w (ρ x) (ρ y)) :
    (execOp ρ { dst := dst, op := .store 34 x y, type := ty, pos := pos, after := after, guard := guard }).run Try.prog w = .ok .skip (stW w (ρ x) (ρ y)) := ex_st _ dst x y ty pos after guard ρ w h
section
variable {T : TypeId} {b : Nat} {s : Cf} {a : Wh} {w : World}
theorem st_of (h : SB T b s a w) (hT : T = TS ∨ T = TR) (s' : Cf) (a' : Wh) : StT T w (.pointer (some ⟨b, 0, none⟩)) (.agg (cS s' a')) := ⟨b, cS s' a', cS s a, T, rfl, rfl, h, info_s hT s' a', by rw [cS_size, cS_size], cS_one s' a'⟩
theorem stS_new (w : World) (s' : Cf) (a' : Wh) : StT 30 (w.alloc (.cells #[.int .i64 0, .int .i64 0, .bool false, .bool false, .bool false, .bool false, .slice none 0 0, .slice none 0 0, .slice none 0 0, .slice none 0 0, .slice none 0 0, .slice none 0 0, .slice none 0 0, .slice none 0 0, .int .i64 0, .int .i64 0, .int .i64 0, .int .i64 0, .int .i64 0, .int .i64 0, .int .i64 0, .int .i64 0, .int .i64 0, .int .i64 0, .int .i64 0, .int .i64 0, .int .i64 0, .int .i64 0, .int .i64 0, .int .i64 0, .int .i64 0, .int .i64 0, .int .i64 0, .int .i64 0, .int .i64 0] 30)) (.pointer (some ⟨w.heap.size, 0, none⟩)) (.agg (cS s' a')) := st_of (show SB TS w.heap.size zC zA _ from SB.new TS zC zA w) (.inl rfl) s' a'
theorem stR_new (w : World) (s' : Cf) (a' : Wh) : StT 34 (w.alloc (.cells #[.int .i64 0, .int .i64 0, .bool false, .bool false, .bool false, .bool false, .slice none 0 0, .slice none 0 0, .slice none 0 0, .slice none 0 0, .slice none 0 0, .slice none 0 0, .slice none 0 0, .slice none 0 0, .int .i64 0, .int .i64 0, .int .i64 0, .int .i64 0, .int .i64 0, .int .i64 0, .int .i64 0, .int .i64 0, .int .i64 0, .int .i64 0, .int .i64 0, .int .i64 0, .int .i64 0, .int .i64 0, .int .i64 0, .int .i64 0, .int .i64 0, .int .i64 0, .int .i64 0, .int .i64 0, .int .i64 0] 34)) (.pointer (some ⟨w.heap.size, 0, none⟩)) (.agg (cS s' a')) := st_of (show SB TR w.heap.size zC zA _ from SB.new TR zC zA w) (.inr rfl) s' a'
end
end Go.Proofs.Ytpijljbkdfjhcaa.cfW
