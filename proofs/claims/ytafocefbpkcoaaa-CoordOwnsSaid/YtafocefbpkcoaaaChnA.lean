/- Versions in memory: rows of them, those of the call's own; what two are when held against one another; the contracts of the calls on two versions. -/
import Derived.Test.YtafocefbpkcoaaaChnM
import Derived.Test.YtafocefbpkcoaaaGen
import Derived.Lib.Hide
import Derived.LoopTactic
import Derived.Below
import Derived.WalkLawsBesides
import Derived.Deep.RegionHeld3
import Derived.Deep.DrawnRows
import Derived.Deep.QuietTactic
import Derived.BigQuiet
import Derived.WalkSpells
import Derived.IntWalk
set_option linter.unusedVariables false
namespace Go.Proofs.Ytafocefbpkcoaaa.chnA
open Go.ChangeShapes Go.WideShapes Go.ChangeAt Go.RowKit Go.Deep
open opV chnM gen
attribute [local go_sem ↓] Go.wp_at_zero Go.wp_at_succ

theorem wrap_in (n : Int) (h1 : -9223372036854775808 ≤ n) (h2 : n ≤ 9223372036854775807) : IntKind.i64.wrap n = n := IntWalk.i64_in _ ⟨h1, h2⟩
theorem al0 (w : World) (o : Obj) : Below w.heap.size w (w.alloc o) := (Below.refl _ _).alloc (Nat.le_refl _) o
theorem trans0 {w w1 w2 : World} (h1 : Below w.heap.size w w1) (h2 : Below w1.heap.size w1 w2) : Below w.heap.size w w2 := h1.trans (h2.mono h1.size)
theorem bal {W X : World} (h : Below W.heap.size W X) (o : Obj) : Below W.heap.size W (X.alloc o) := h.alloc h.size o
theorem bdr {W X : World} (h : Below W.heap.size W X) : Below W.heap.size W X.drew := h.drew
theorem below_drew (w : World) : Below w.heap.size w w.drew := (Below.refl _ _).drew
theorem bdrN {B : Nat} {w w1 : World} (n : Nat) (h : Below B w w1) : Below B w (w1.drewN n) := ⟨h.os, h.tape, h.output, h.size, h.block⟩
theorem undrew {w w' : World} (h : Below w.drew.heap.size w.drew w') : Below w.heap.size w w' := ⟨h.os, h.tape, h.output, h.size, h.block⟩
theorem keep_cell {W W' : World} (hB : Below W.heap.size W W') {b o : Nat} {v : Value} (h : W.cell? ⟨b, o, none⟩ = some v) : W'.cell? ⟨b, o, none⟩ = some v :=
  (hB.cell (p := ⟨b, o, none⟩) (World.block_lt_of_cell? _ _ h)).trans h
theorem keep_frozen {W W' : World} (hB : Below W.heap.size W W') {b o : Nat} {v : Value} (h : W.cell? ⟨b, o, none⟩ = some v) (hf : W.frozen? ⟨b, o, none⟩ = false) : W'.frozen? ⟨b, o, none⟩ = false :=
  (hB.frozen (p := ⟨b, o, none⟩) (World.block_lt_of_cell? _ _ h)).trans hf
/-! ### One version -/
/-- a mark as a value -/
abbrev mk (a : Int × Int × Int) : Value := .agg #[.int .u64 a.1, .int .i64 a.2.1, .int .i64 a.2.2]
/-- a version's cells, its value -/
def cL (v : Ver) : List Value := [.string v.key, .string v.val, .bool v.gone, .int .u64 v.ts, .int .i64 v.dc, .int .i64 v.tx]
abbrev vv (v : Ver) : Value := .agg #[.string v.key, .string v.val, .bool v.gone, .int .u64 v.ts, .int .i64 v.dc, .int .i64 v.tx]
theorem cL_len (v : Ver) : (cL v).length = 6 := rfl
theorem cL_one (v : Ver) : ∀ u ∈ cL v, u.oneCell' = true := by
  intro u hu
  simp only [cL, List.mem_cons, List.not_mem_nil, or_false] at hu
  rcases hu with rfl | rfl | rfl | rfl | rfl | rfl <;> rfl
/-- A version lies at o of block b. -/
abbrev V6 (b o : Nat) (v : Ver) (w : World) : Prop :=
  w.cell? ⟨b, o, none⟩ = some (.string v.key) ∧ w.cell? ⟨b, o + 1, none⟩ = some (.string v.val) ∧ w.cell? ⟨b, o + 2, none⟩ = some (.bool v.gone) ∧
  w.cell? ⟨b, o + 3, none⟩ = some (.int .u64 v.ts) ∧ w.cell? ⟨b, o + 4, none⟩ = some (.int .i64 v.dc) ∧ w.cell? ⟨b, o + 5, none⟩ = some (.int .i64 v.tx)
theorem V6.keep {b o : Nat} {v : Ver} {w w1 : World} (h : V6 b o v w) (hk : ∀ o, w1.cell? ⟨b, o, none⟩ = w.cell? ⟨b, o, none⟩) : V6 b o v w1 := by
  unfold V6 at *; rw [hk, hk, hk, hk, hk, hk]; exact h
theorem V6.lt {b o : Nat} {v : Ver} {w : World} (h : V6 b o v w) : b < w.heap.size := World.block_lt_of_cell? _ _ h.1
theorem V6.below {b o : Nat} {v : Ver} {w w1 : World} (h : V6 b o v w) (hb : Below w.heap.size w w1) : V6 b o v w1 := h.keep fun o => hb.cell (p := ⟨b, o, none⟩) h.lt
theorem V6.step {b o B : Nat} {v : Ver} {w w1 : World} (h : V6 b o v w) (hb : Below B w w1) (hB : w.heap.size ≤ B) : V6 b o v w1 := h.keep fun o => hb.cell (p := ⟨b, o, none⟩) (Nat.lt_of_lt_of_le h.lt hB)
theorem V6.new (w : World) (v : Ver) (t : TypeId) : V6 w.heap.size 0 v (w.alloc (.cells #[.string v.key, .string v.val, .bool v.gone, .int .u64 v.ts, .int .i64 v.dc, .int .i64 v.tx] t)) := by
  have h := fun (j : Nat) (u : Value) (hu : (#[.string v.key, .string v.val, .bool v.gone, .int .u64 v.ts, .int .i64 v.dc, .int .i64 v.tx] : Array Value)[j]? = some u) =>
    (cell_of_row _ _ j _ t (0, 0) (heap_alloc_new w (.cells #[.string v.key, .string v.val, .bool v.gone, .int .u64 v.ts, .int .i64 v.dc, .int .i64 v.tx] t))).trans hu
  exact ⟨h 0 _ rfl, h 1 _ rfl, h 2 _ rfl, h 3 _ rfl, h 4 _ rfl, h 5 _ rfl⟩
theorem V6.of_block {b o : Nat} {v : Ver} {w w1 : World} (h : V6 b o v w) (e : w1.heap[b]? = w.heap[b]?) : V6 b o v w1 := h.keep fun o => World.cell?_of_block (a := ⟨b, o, none⟩) e
/-- two of them -/
abbrev S2 (b1 o1 b2 o2 : Nat) (x y : Ver) (w : World) : Prop := V6 b1 o1 x w ∧ V6 b2 o2 y w
theorem S2.below {b1 o1 b2 o2 : Nat} {x y : Ver} {w w1 : World} (h : S2 b1 o1 b2 o2 x y w) (hb : Below w.heap.size w w1) : S2 b1 o1 b2 o2 x y w1 := ⟨h.1.below hb, h.2.below hb⟩
theorem tl_inj {a b : ByteArray} : a.toList = b.toList ↔ a = b := by
  constructor
  · intro h
    rw [ByteArray.toList_eq, ByteArray.toList_eq] at h
    have : a.data = b.data := Array.ext' h
    cases a; cases b; simp_all
  · rintro rfl; rfl
theorem ver_eq (v u : Ver) : (v = u) ↔ (v.key = u.key ∧ v.val = u.val ∧ v.gone = u.gone ∧ v.ts = u.ts ∧ v.dc = u.dc ∧ v.tx = u.tx) := by cases v; cases u; simp
theorem eql_ver (v u : Ver) (w : World) : (binOp .eql 64 (.agg #[.string v.key, .string v.val, .bool v.gone, .int .u64 v.ts, .int .i64 v.dc, .int .i64 v.tx]) (.agg #[.string u.key, .string u.val, .bool u.gone, .int .u64 u.ts, .int .i64 u.dc, .int .i64 u.tx])).run Try.prog w = .ok (.bool (decide (v = u))) w := by
  obtain ⟨a, b, c, d, e, f⟩ := v
  obtain ⟨a', b', c', d', e', f'⟩ := u
  go_simp
  simp only [tl_inj]
  by_cases h1 : a = a' <;> by_cases h2 : b = b' <;> by_cases h3 : c = c' <;> by_cases h4 : d = d' <;> by_cases h5 : e = e' <;> by_cases h6 : f = f' <;> simp [h1, h2, h3, h4, h5, h6]
theorem neq_ver (v u : Ver) (w : World) : (binOp .neq 64 (.agg #[.string v.key, .string v.val, .bool v.gone, .int .u64 v.ts, .int .i64 v.dc, .int .i64 v.tx]) (.agg #[.string u.key, .string u.val, .bool u.gone, .int .u64 u.ts, .int .i64 u.dc, .int .i64 u.tx])).run Try.prog w = .ok (.bool (!decide (v = u))) w := by
  obtain ⟨a, b, c, d, e, f⟩ := v
  obtain ⟨a', b', c', d', e', f'⟩ := u
  go_simp
  simp only [tl_inj]
  by_cases h1 : a = a' <;> by_cases h2 : b = b' <;> by_cases h3 : c = c' <;> by_cases h4 : d = d' <;> by_cases h5 : e = e' <;> by_cases h6 : f = f' <;> simp [h1, h2, h3, h4, h5, h6]
/-! ### Calls on two versions -/
theorem cell_new_drew (W : World) (C : Array Value) (t : TypeId) (n j : Nat) (hn : n = W.heap.size) : ((W.alloc (.cells C t)).drew).cell? ⟨n, j, none⟩ = C[j]? := by
  subst hn; simp
end Go.Proofs.Ytafocefbpkcoaaa.chnA
