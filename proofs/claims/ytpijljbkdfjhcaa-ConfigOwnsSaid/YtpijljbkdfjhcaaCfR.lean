/- Whole configurations, and their modes, loaded in one step. -/
import Derived.Test.YtpijljbkdfjhcaaCfE
set_option linter.unusedVariables false
set_option maxRecDepth 100000
namespace Go.Proofs.Ytpijljbkdfjhcaa.cfR
open Go.ChangeShapes Go.WideShapes Go.ChangeAt Go.RowKit Go.Deep
open spnM spnA spnB spnD spnI spnS cfA cfB cfC cfD cfE

/-- what lies at a pointer may be loaded; what it is -/
def RdT (T : TypeId) (w : World) (v : Value) : Prop := ∃ p x, v = .pointer (some p) ∧ (loadVar T p).run Try.prog w = .ok x w
def okV : Result Value → Value
  | .ok x _ => x
  | _ => undef
def adV : Value → Addr
  | .pointer (some p) => p
  | _ => ⟨0, 0, none⟩
noncomputable def rdV (T : TypeId) (w : World) (v : Value) : Value := okV ((loadVar T (adV v)).run Try.prog w)
theorem rd_of {T : TypeId} {w : World} {p : Addr} {x : Value} (h : (loadVar T p).run Try.prog w = .ok x w) : RdT T w (.pointer (some p)) ∧ rdV T w (.pointer (some p)) = x :=
  ⟨⟨p, x, rfl, h⟩, by unfold rdV adV; rw [h]; rfl⟩
theorem op_ld (T : TypeId) (dst : Option Tmp) (x : Operand) (ty : TypeId) (pos : String) (after : Array Edge) (guard : Option (Nat × Bool)) (a : Act) (w : World) (K : Act → World → Prop) (Q : Exit → Act → World → Prop) (h : RdT T w (a.eval x)) :
    Oper.wp Try.prog { dst := dst, op := .load T x, type := ty, pos := pos, after := after, guard := guard } a w K Q = K (a.put dst (rdV T w (a.eval x))) w := by
  obtain ⟨p, v, hx, hv⟩ := h
  have e : rdV T w (a.eval x) = v := by rw [hx]; exact (rd_of hv).2
  rw [e]
  unfold Oper.wp execOp
  simp only [hx, Instr.loadAt, Instr.sureAddr, Sem.run_bind, Sem.run_pure, Result.andThen_ok, hv]
  rfl
theorem op_ldS (dst : Option Tmp) (x : Operand) (ty : TypeId) (pos : String) (after : Array Edge) (guard : Option (Nat × Bool)) (a : Act) (w : World) (K : Act → World → Prop) (Q : Exit → Act → World → Prop) (h : RdT 30 w (a.eval x)) :
    Oper.wp Try.prog { dst := dst, op := .load 30 x, type := ty, pos := pos, after := after, guard := guard } a w K Q = K (a.put dst (rdV 30 w (a.eval x))) w := op_ld 30 dst x ty pos after guard a w K Q h
theorem op_ldR (dst : Option Tmp) (x : Operand) (ty : TypeId) (pos : String) (after : Array Edge) (guard : Option (Nat × Bool)) (a : Act) (w : World) (K : Act → World → Prop) (Q : Exit → Act → World → Prop) (h : RdT 34 w (a.eval x)) :
    Oper.wp Try.prog { dst := dst, op := .load 34 x, type := ty, pos := pos, after := after, guard := guard } a w K Q = K (a.put dst (rdV 34 w (a.eval x))) w := op_ld 34 dst x ty pos after guard a w K Q h
theorem op_ldM (dst : Option Tmp) (x : Operand) (ty : TypeId) (pos : String) (after : Array Edge) (guard : Option (Nat × Bool)) (a : Act) (w : World) (K : Act → World → Prop) (Q : Exit → Act → World → Prop) (h : RdT 28 w (a.eval x)) :
    Oper.wp Try.prog { dst := dst, op := .load 28 x, type := ty, pos := pos, after := after, guard := guard } a w K Q = K (a.put dst (rdV 28 w (a.eval x))) w := op_ld 28 dst x ty pos after guard a w K Q h
theorem ex_ld (T : TypeId) (dst : Option Tmp) (x : Operand) (ty : TypeId) (pos : String) (after : Array Edge) (guard : Option (Nat × Bool)) (ρ : Operand → Value) (w : World) (h : RdT T w (ρ x)) :
    (execOp ρ { dst := dst, op := .load T x, type := ty, pos := pos, after := after, guard := guard }).run Try.prog w = .ok (.value (rdV T w (ρ x))) w := by
  obtain ⟨p, v, hx, hv⟩ := h
  have e : rdV T w (ρ x) = v := by rw [hx]; exact (rd_of hv).2
  rw [e]
  unfold execOp
  simp only [hx, Instr.loadAt, Instr.sureAddr, Sem.run_bind, Sem.run_pure, Result.andThen_ok, hv]
theorem ex_ldS (dst : Option Tmp) (x : Operand) (ty : TypeId) (pos : String) (after : Array Edge) (guard : Option (Nat × Bool)) (ρ : Operand → Value) (w : World) (h : RdT 30 w (ρ x)) :
    (execOp ρ { dst := dst, op := .load 30 x, type := ty, pos := pos, after := after, guard := guard }).run Try.prog w = .ok (.value (rdV 30 w (ρ x))) w := ex_ld 30 dst x ty pos after guard ρ w h
theorem ex_ldR (dst : Option Tmp) (x : Operand) (ty : TypeId) (pos : String) (after : Array Edge) (guard : Option (Nat × Bool)) (ρ : Operand → Value) (w : World) (h : RdT 34 w (ρ x)) :
    (execOp ρ { dst := dst, op := .load 34 x, type := ty, pos := pos, after := after, guard := guard }).run Try.prog w = .ok (.value (rdV 34 w (ρ x))) w := ex_ld 34 dst x ty pos after guard ρ w h
theorem ex_ldM (dst : Option Tmp) (x : Operand) (ty : TypeId) (pos : String) (after : Array Edge) (guard : Option (Nat × Bool)) (ρ : Operand → Value) (w : World) (h : RdT 28 w (ρ x)) :
    (execOp ρ { dst := dst, op := .load 28 x, type := ty, pos := pos, after := after, guard := guard }).run Try.prog w = .ok (.value (rdV 28 w (ρ x))) w := ex_ld 28 dst x ty pos after guard ρ w h
theorem run_modes {b : Nat} {mo : Nat → Int} {w : World} (h : MoR b 14 mo w) : (loadVar 28 ⟨b, 14, none⟩).run Try.prog w = .ok (.agg #[.int .i64 (mo 0), .int .i64 (mo 1), .int .i64 (mo 2), .int .i64 (mo 3), .int .i64 (mo 4), .int .i64 (mo 5), .int .i64 (mo 6), .int .i64 (mo 7), .int .i64 (mo 8), .int .i64 (mo 9), .int .i64 (mo 10), .int .i64 (mo 11), .int .i64 (mo 12), .int .i64 (mo 13), .int .i64 (mo 14), .int .i64 (mo 15), .int .i64 (mo 16), .int .i64 (mo 17), .int .i64 (mo 18), .int .i64 (mo 19), .int .i64 (mo 20)]) w := by
  have hl : (loadCells ⟨b, 14, none⟩ ([.int .i64 (mo 0), .int .i64 (mo 1), .int .i64 (mo 2), .int .i64 (mo 3), .int .i64 (mo 4), .int .i64 (mo 5), .int .i64 (mo 6), .int .i64 (mo 7), .int .i64 (mo 8), .int .i64 (mo 9), .int .i64 (mo 10), .int .i64 (mo 11), .int .i64 (mo 12), .int .i64 (mo 13), .int .i64 (mo 14), .int .i64 (mo 15), .int .i64 (mo 16), .int .i64 (mo 17), .int .i64 (mo 18), .int .i64 (mo 19), .int .i64 (mo 20)] : List Value).length).run Try.prog w = .ok ([.int .i64 (mo 0), .int .i64 (mo 1), .int .i64 (mo 2), .int .i64 (mo 3), .int .i64 (mo 4), .int .i64 (mo 5), .int .i64 (mo 6), .int .i64 (mo 7), .int .i64 (mo 8), .int .i64 (mo 9), .int .i64 (mo 10), .int .i64 (mo 11), .int .i64 (mo 12), .int .i64 (mo 13), .int .i64 (mo 14), .int .i64 (mo 15), .int .i64 (mo 16), .int .i64 (mo 17), .int .i64 (mo 18), .int .i64 (mo 19), .int .i64 (mo 20)] : List Value).toArray w :=
    run_loadCells_list (P := Try.prog) w ⟨b, 14, none⟩ [.int .i64 (mo 0), .int .i64 (mo 1), .int .i64 (mo 2), .int .i64 (mo 3), .int .i64 (mo 4), .int .i64 (mo 5), .int .i64 (mo 6), .int .i64 (mo 7), .int .i64 (mo 8), .int .i64 (mo 9), .int .i64 (mo 10), .int .i64 (mo 11), .int .i64 (mo 12), .int .i64 (mo 13), .int .i64 (mo 14), .int .i64 (mo 15), .int .i64 (mo 16), .int .i64 (mo 17), .int .i64 (mo 18), .int .i64 (mo 19), .int .i64 (mo 20)] (fun j v hv => by
      have hadd : (⟨b, 14, none⟩ : Addr).add j = ⟨b, 14 + j, none⟩ := by unfold Addr.add; split <;> simp_all
      rw [hadd]
      by_cases hj : j < 21
      · rw [h j hj, ← hv]
        rcases many hj with rfl | rfl | rfl | rfl | rfl | rfl | rfl | rfl | rfl | rfl | rfl | rfl | rfl | rfl | rfl | rfl | rfl | rfl | rfl | rfl | rfl <;> rfl
      · rw [List.getElem?_eq_none (by simp; omega)] at hv; cases hv)
  have hagg : (isAgg 28).run Try.prog w = .ok true w := by
    unfold isAgg
    rw [Sem.run_bind, run_underlying Try.underlying28 w]
    rfl
  cases hq : Try.prog.info? 28 with
  | none => have e : (Try.prog.info? 28).map (·.size) = some 21 := by kernel_rfl
            rw [hq] at e; cases e
  | some i =>
    have e : (Try.prog.info? 28).map (·.size) = some 21 := by kernel_rfl
    rw [hq] at e
    have hs : i.size = 21 := by simpa using e
    have hl' : (loadCells ⟨b, 14, none⟩ 21).run Try.prog w = .ok #[.int .i64 (mo 0), .int .i64 (mo 1), .int .i64 (mo 2), .int .i64 (mo 3), .int .i64 (mo 4), .int .i64 (mo 5), .int .i64 (mo 6), .int .i64 (mo 7), .int .i64 (mo 8), .int .i64 (mo 9), .int .i64 (mo 10), .int .i64 (mo 11), .int .i64 (mo 12), .int .i64 (mo 13), .int .i64 (mo 14), .int .i64 (mo 15), .int .i64 (mo 16), .int .i64 (mo 17), .int .i64 (mo 18), .int .i64 (mo 19), .int .i64 (mo 20)] w := hl
    simp [loadVar, Sem.run_bind, hagg, sizeOf, typeInfo, hq, hs, hl']
section
variable {T : TypeId} {b : Nat} {s : Cf} {a : Wh} {w : World}
theorem rd_row (h : SB T b s a w) (hT : T = TS ∨ T = TR) : RdT T w (.pointer (some ⟨b, 0, none⟩)) ∧ rdV T w (.pointer (some ⟨b, 0, none⟩)) = .agg (cS s a) := rd_of (run_row h hT)
theorem rd_modes (h : SB T b s a w) : RdT 28 w (.pointer (some ⟨b, 14, none⟩)) ∧ rdV 28 w (.pointer (some ⟨b, 14, none⟩)) = .agg #[.int .i64 (s.mo 0), .int .i64 (s.mo 1), .int .i64 (s.mo 2), .int .i64 (s.mo 3), .int .i64 (s.mo 4), .int .i64 (s.mo 5), .int .i64 (s.mo 6), .int .i64 (s.mo 7), .int .i64 (s.mo 8), .int .i64 (s.mo 9), .int .i64 (s.mo 10), .int .i64 (s.mo 11), .int .i64 (s.mo 12), .int .i64 (s.mo 13), .int .i64 (s.mo 14), .int .i64 (s.mo 15), .int .i64 (s.mo 16), .int .i64 (s.mo 17), .int .i64 (s.mo 18), .int .i64 (s.mo 19), .int .i64 (s.mo 20)] := rd_of (run_modes (SB.mor h))
end
end Go.Proofs.Ytpijljbkdfjhcaa.cfR
