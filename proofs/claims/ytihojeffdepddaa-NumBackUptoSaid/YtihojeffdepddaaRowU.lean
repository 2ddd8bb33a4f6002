/- What the bound of an 'upto' statement gives of the arguments: how long a text is, and a slice of integers. -/
import Derived.Test.YtihojeffdepddaaRows
import Derived.Test.YtihojeffdepddaaRowA
namespace Go.Proofs.Ytihojeffdepddaa.rowU
open Go.ChangeShapes Go.WideShapes Go.ChangeAt Go.RowKit
open rowA

theorem bulk_ints {H : Type} (k : IntKind) (zs : List Int) : Rows.uptoBulkAll (zs.map fun n => (DataW.lit (.int k n) : DataW H)) = zs.length := by
  induction zs with
  | nil => rfl
  | cons z zs ih =>
    have h1 : Rows.uptoBulk (DataW.lit (.int k z) : DataW H) = 1 := by simp [Rows.uptoBulk]
    rw [List.map_cons, Rows.uptoBulkAll, ih, List.length_cons, h1]
    omega
theorem bulk_text {H : Type} (s : ByteArray) : Rows.uptoBulk (DataW.lit (.string s.data.toList) : DataW H) = s.size + 1 := by
  rw [Rows.uptoBulk, Array.length_toList]; rfl
theorem bulk_of {H : Type} {l : List (DataW H)} (h : Rows.uptoSmall H l = true) : Rows.uptoBulkAll l ≤ 1048576 := of_decide_eq_true h
/-- A slice of integers that came in, opened: as open_row, and no longer than its reading is great. -/
theorem open_rowU {H : Type} {enc : TypeId × Value → H} {P : Program} {W : World} {r : Reach} {base b0 : Nat} {t e : TypeId} {k : IntKind} {v : Value} {d : DataW H} {p : List MemPlace} {ts : List TypeId} {ds : List (DataW H)} (j : Nat)
    (ht : P.underlying t = some (.slice e)) (he : P.underlying e = some (.int k)) (hc : P.cellsOf e = 1) (hv : Value.okWide P W r b0 t v) (h : DataW.Trod enc P W base (fun _ => true) true t v d p)
    (hsz : (DataW.weightsEach P ts ds).all (· ≤ reachBytes) = true) (hj : ts[j]? = some t) (hd : ds[j]? = some d) :
    ∃ a len cap zs, v = .slice a len cap ∧ IsRow k W a len cap zs ∧ cap * P.bytesOf e ≤ 140737488351232 ∧ cap ≤ Rows.uptoBulk d := by
  have h2 := open_row j ht he hc hv h hsz hj hd
  obtain ⟨a, len, cap, rfl⟩ := okWide_slice ht hv
  obtain ⟨fuel, hf⟩ := h
  rcases open_ints ht he hc hf with ⟨hcs, _⟩ | ⟨x, l, c, zs, hcs, _, hl, hm, hz, hx, hcell, hwz⟩
  · simp [Value.cells] at hcs
    obtain ⟨rfl, rfl, rfl⟩ := hcs
    exact ⟨none, 0, 0, [], rfl, .inl ⟨rfl, rfl, rfl, rfl⟩, by omega, by omega⟩
  · simp [Value.cells] at hcs
    obtain ⟨rfl, rfl, rfl⟩ := hcs
    simp only [Prod.mk.injEq] at hx
    obtain ⟨rfl, rfl⟩ := hx
    simp only [if_true] at hz
    obtain ⟨a2, l2, c2, z2, e2, w2, m2⟩ := h2
    cases e2
    refine ⟨some x, len, cap, zs, rfl, .inr ⟨x, rfl, hl, hm, hz, hcell, hwz⟩, m2, ?_⟩
    rw [Rows.uptoBulk]
    unfold lits
    rw [bulk_ints, bulk_ints, List.length_take, List.length_drop]
    omega
end Go.Proofs.Ytihojeffdepddaa.rowU
