/- How texts, and rows of anything, that come in are opened. -/
import Derived.Test.YtpijljbkdfjhcaaRows
import Derived.WalkKit
import Derived.ProofKit
import Derived.OpenShut
import Derived.SizedLaws
import Derived.ChangeArms
import Derived.Deep.Fields
import Derived.Deep.Slices
import Derived.Lib.SmallJoins
set_option maxRecDepth 100000
namespace Go.Proofs.Ytpijljbkdfjhcaa.opG
open Go.ChangeShapes Go.WideShapes Go.ChangeAt Go.RowKit Go.Deep Go.Joins

def Kept (l : List Nat) : Prop := ∀ z ∈ l, z ≤ 140737488351232
theorem kept_all {l : List Nat} (h : Kept l) : l.all (· ≤ reachBytes) = true := by
  rw [List.all_eq_true]
  intro z hz
  have := h z hz
  exact decide_eq_true (p := z ≤ reachBytes) this
section
variable {H : Type} {enc : TypeId × Value → H} {W : World} {base : Nat}
theorem weightsAll_mem' {P : Program} {e : TypeId} {ds : List (DataW H)} {d : DataW H} (hd : d ∈ ds) {z : Nat} (hz : z ∈ d.weights P e) : z ∈ DataW.weightsAll P e ds := by
  induction ds with
  | nil => simp at hd
  | cons a r ih =>
    unfold DataW.weightsAll
    rcases List.mem_cons.1 hd with rfl | hd
    · exact List.mem_append.2 (.inl hz)
    · exact List.mem_append.2 (.inr (ih hd))
/-- A slice of elements of k cells each. -/
theorem open_rows {t e : TypeId} {k : Nat} (ht : Try.prog.underlying t = some (.slice e)) (hk : Try.prog.cellsOf e = k) (hk0 : 0 < k) {α : Type} [Inhabited α] (Q : Nat → Nat → α → Prop)
    (elem : ∀ b o cs n y, (∀ j, j < k → W.cell? ⟨b, o + j, none⟩ = cs[j]?) → cs.length = k → DataW.trod enc Try.prog W base (fun _ => true) true n e cs = some y → Kept (y.1.weights Try.prog e) → ∃ v : α, Q b o v)
    {n : Nat} {c : Value} {y : DataW H × List MemPlace} (h : DataW.trod enc Try.prog W base (fun _ => true) true n t [c] = some y) (hw : Kept (y.1.weights Try.prog t)) :
    ∃ (a : Option Addr) (len cap : Nat) (l : List α), c = .slice a len cap ∧ l.length = len ∧ len ≤ 9223372036854775807 ∧ (len = 0 ∨ ∃ b off, a = some ⟨b, off, none⟩ ∧ b < W.heap.size ∧ ∀ i, i < len → Q b (off + i * k) (l.getD i default)) := by
  rcases open_slice ht h with ⟨hcs, _⟩ | ⟨x, len, cap, m, n, D, Pl, hcs, _, hl, hm, hmm, hx, hi⟩
  · simp only [List.cons.injEq, and_true] at hcs
    exact ⟨none, 0, 0, [], hcs, rfl, by omega, .inl rfl⟩
  · simp only [List.cons.injEq, and_true] at hcs
    unfold maxLen at hm
    rw [hk] at hi
    have hlm : len ≤ m := by rw [hmm]; split <;> omega
    have hkd : ∀ i, i < len → Kept ((D i).weights Try.prog e) := fun i hil z hz => hw z (by
      rw [hx]
      simp only [DataW.weights, ht, List.mem_cons, List.mem_append]
      right; left
      exact weightsAll_mem' (List.mem_map.2 ⟨i, List.mem_range.2 hil, rfl⟩) hz)
    have each : ∀ i, i < len → x.spot = none ∧ x.block < W.heap.size ∧ ∃ v : α, Q x.block (x.off + i * k) v := by
      intro i hil
      obtain ⟨cs, hc, htr⟩ := hi i (by omega)
      obtain ⟨_, hcl, hat⟩ := World.cells?_some hc
      have hs : x.spot = none := by
        obtain ⟨cs0, hc0, -⟩ := hi 0 (by omega)
        obtain ⟨_, hcl0, hat0⟩ := World.cells?_some hc0
        have h0 := hat0 0 (by omega)
        obtain ⟨b, off, spot⟩ := x
        rw [List.getElem?_eq_getElem (by omega)] at h0
        simpa [Addr.add] using World.cell?_spot h0
      obtain ⟨b, off, spot⟩ := x
      simp only at hs
      subst hs
      have hat' : ∀ j, j < k → W.cell? ⟨b, off + i * k + j, none⟩ = cs[j]? := fun j hj => by
        have := hat j (by omega)
        rw [Go.Deep.add_add, Go.WideShapes.add_plain] at this
        rw [← this]
        congr 2
        omega
      refine ⟨rfl, ?_, elem b (off + i * k) cs _ _ hat' hcl htr (hkd i hil)⟩
      have := hat' 0 hk0
      rw [List.getElem?_eq_getElem (by omega)] at this
      exact World.block_lt_of_cell? _ (⟨b, off + i * k + 0, none⟩ : Addr) this
    have each' : ∀ i : Nat, ∃ v : α, i < len → Q x.block (x.off + i * k) v := by
      intro i
      by_cases hil : i < len
      · obtain ⟨_, _, v, hv⟩ := each i hil
        exact ⟨v, fun _ => hv⟩
      · exact ⟨default, fun h => absurd h hil⟩
    refine ⟨some x, len, cap, (List.range len).map fun i => (each' i).choose, hcs, by simp, by omega, ?_⟩
    by_cases h0 : len = 0
    · exact .inl h0
    · obtain ⟨hs, hlt, -⟩ := each 0 (by omega)
      refine .inr ⟨x.block, x.off, ?_, hlt, fun i hil => ?_⟩
      · obtain ⟨b, off, spot⟩ := x
        simp only at hs
        subst hs
        rfl
      · have e : ((List.range len).map fun i => (each' i).choose).getD i default = (each' i).choose := by
          rw [List.getD_eq_getElem?_getD, List.getElem?_map, List.getElem?_range hil]
          rfl
        rw [e]
        exact (each' i).choose_spec hil
theorem fld_string {n : Nat} {c : Value} {y : DataW H × List MemPlace} (h : DataW.trod enc Try.prog W base (fun _ => true) true n 9 [c] = some y) (hw : Kept (y.1.weights Try.prog 9)) :
    ∃ s : ByteArray, c = .string s ∧ s.size ≤ 140737488351232 := by
  obtain ⟨s, e, hy, _⟩ := DataW.trod_string Try.underlying9 h
  simp only [List.cons.injEq, and_true] at e
  refine ⟨s, e, hw _ ?_⟩
  rw [hy]
  simp [DataW.weights]
/-- the n rows of k cells each at a are l -/
def Rs {α : Type} [Inhabited α] (W : World) (Q : World → Nat → Nat → α → Prop) (k : Nat) (a : Option Addr) (n : Nat) (l : List α) : Prop :=
  l.length = n ∧ n ≤ 9223372036854775807 ∧ (n = 0 ∨ ∃ b off, a = some ⟨b, off, none⟩ ∧ b < W.heap.size ∧ ∀ i, i < n → Q W b (off + i * k) (l.getD i default))
theorem kept_of {ts : List TypeId} {ds : List (DataW H)} (hsz : (DataW.weightsEach Try.prog ts ds).all (· ≤ reachBytes) = true) {j : Nat} {t : TypeId} {d : DataW H} (hj : ts[j]? = some t) (hd : ds[j]? = some d) : Kept (d.weights Try.prog t) := by
  intro z hz
  have := List.all_eq_true.1 hsz z (DataW.weights_mem_each hj hd z hz)
  exact of_decide_eq_true (p := z ≤ reachBytes) this
end
end Go.Proofs.Ytpijljbkdfjhcaa.opG
