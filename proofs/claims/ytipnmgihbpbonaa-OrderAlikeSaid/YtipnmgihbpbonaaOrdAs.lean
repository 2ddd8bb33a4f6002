/- Rows of commits of the call's own whose elements change places. -/
import Derived.Test.YtipnmgihbpbonaaOrdRi
import Derived.Test.YtipnmgihbpbonaaOrdAm
import Derived.Test.YtipnmgihbpbonaaOpS
set_option linter.unusedVariables false
set_option linter.unusedSimpArgs false
set_option maxRecDepth 100000
namespace Go.Proofs.Ytipnmgihbpbonaa.ordAs
open Go.ChangeShapes Go.WideShapes Go.ChangeAt Go.RowKit Go.Deep
open opV opR chnM gen chnA chnR chnE ordA ordB ordC ordM ordL ordI ordAm

theorem set_four {xs : List Value} {a : Nat} (v0 v1 v2 v3 : Value) (h : a + 4 ≤ xs.length) : ((((xs.set a v0).set (a + 1) v1).set (a + 2) v2).set (a + 3) v3) = xs.take a ++ ([v0, v1, v2, v3] ++ xs.drop (a + 4)) := by
  apply List.ext_getElem
  · simp; omega
  · intro i h1 h2
    simp only [List.length_set] at h1
    simp only [List.getElem_set]
    rcases Nat.lt_or_ge i a with h3 | h3
    · rw [if_neg (by omega), if_neg (by omega), if_neg (by omega), if_neg (by omega), List.getElem_append_left (by simp; omega), List.getElem_take]
    · rw [List.getElem_append_right (by simp; omega)]
      have hl : (xs.take a).length = a := by simp; omega
      simp only [hl]
      rcases Nat.lt_or_ge i (a + 4) with h4 | h4
      · have : i = a ∨ i = a + 1 ∨ i = a + 2 ∨ i = a + 3 := by omega
        rcases this with rfl | rfl | rfl | rfl <;> simp
      · rw [if_neg (by omega), if_neg (by omega), if_neg (by omega), if_neg (by omega), List.getElem_append_right (by simp; omega), List.getElem_drop]
        congr 1
        simp; omega
theorem gl_set {m : List MR} {i : Nat} {v : MR} (hi : i < m.length) :
    (((((gl m).set (i * 4) (.int .u64 v.ts)).set (i * 4 + 1) (.int .i64 v.dc)).set (i * 4 + 2) (.int .i64 v.tx)).set (i * 4 + 3) (.slice v.A v.vs.length v.c)) = gl (m.set i v) := by
  rw [set_four _ _ _ _ (by rw [gl_len]; omega), List.set_eq_take_append_cons_drop, if_pos hi, gl_app, gl_cons, gl_take, gl_drop]
  rw [show (i + 1) * 4 = i * 4 + 4 by omega]
  rfl
/-- a commit is laid at place o of a row of the call's own -/
abbrev putR (w : World) (g o : Nat) (v : MR) : World := (((w.setCell ⟨g, o, none⟩ (.int .u64 v.ts)).setCell ⟨g, o + 1, none⟩ (.int .i64 v.dc)).setCell ⟨g, o + 2, none⟩ (.int .i64 v.tx)).setCell ⟨g, o + 3, none⟩ (.slice v.A v.vs.length v.c)
/-- the row in another order -/
structure Ow (W : World) (L : List MR) (A : Option Addr) (c : Nat) (m : List MR) (X : World) : Prop where
  pm : m.Perm L
  own : X.ownsRow W.heap.size 32 4 (.slice A L.length c) L.length (gl m)
  bel : Below W.heap.size W X
section
variable {W X X1 : World} {L m : List MR} {A : Option Addr} {g c i k : Nat} {v : MR}
theorem Ow.lt (h : Ow W L (some ⟨g, 0, none⟩) c m X) : W.heap.size ≤ g ∧ g < X.heap.size := World.ownsRow.lt h.own g rfl
theorem Ow.below (h : Ow W L A c m X) (hB : Below X.heap.size X X1) : Ow W L A c m X1 := ⟨h.pm, own_block h.own fun k e => hB.block k (World.ownsRow.lt h.own k e).2, trans0 h.bel hB⟩
theorem Ow.drew (h : Ow W L A c m X) : Ow W L A c m X.drew := ⟨h.pm, h.own, h.bel.drew⟩
theorem Ow.gr (h : Ow W L A c m X) : GR X W.heap.size A c m := by
  unfold GR; rw [h.pm.length_eq]; exact h.own
theorem Ow.some_ (h : Ow W L A c m X) (hl : 0 < L.length) : ∃ g, A = some ⟨g, 0, none⟩ := by
  rcases h.own.2 with ⟨e, h0⟩ | ⟨g, _, _, e, _⟩
  · omega
  · simp only [Value.slice.injEq] at e
    exact ⟨g, e.1⟩
theorem Ow.r4 (h : Ow W L (some ⟨g, 0, none⟩) c m X) (hi : i < L.length) (hs : L.length ≤ 1000) : R4 g (i * 4) (nt m i) X := by
  have hl := h.pm.length_eq
  have hv := h.gr.hv (by omega)
  obtain ⟨b, off, e, _, hc⟩ := hv.at (i := i) (by omega)
  simp only [Option.some.injEq, Addr.mk.injEq, and_true] at e
  obtain ⟨rfl, rfl⟩ := e
  rw [Nat.zero_add] at hc
  exact hc
theorem Ow.fz (h : Ow W L (some ⟨g, 0, none⟩) c m X) (o : Nat) : X.frozen? ⟨g, o, none⟩ = false := World.ownsRow.frozenAt h.own o
theorem stored4 {n base : Nat} {xs : List Value} (h : X.ownsRow base 32 4 (.slice (some ⟨g, 0, none⟩) n c) n xs) (o : Nat) (v : MR) :
    (putR X g o v).ownsRow base 32 4 (.slice (some ⟨g, 0, none⟩) n c) n ((((xs.set o (.int .u64 v.ts)).set (o + 1) (.int .i64 v.dc)).set (o + 2) (.int .i64 v.tx)).set (o + 3) (.slice v.A v.vs.length v.c)) :=
  ((((h.stored o _).1.stored (o + 1) _).1.stored (o + 2) _).1.stored (o + 3) _).1
theorem putR_below {B : Nat} {w0 w : World} (h : Below B w0 w) (hg : B ≤ g) (o : Nat) (v : MR) : Below B w0 (putR w g o v) :=
  (((h.setCell (p := ⟨g, o, none⟩) hg _).setCell (p := ⟨g, o + 1, none⟩) hg _).setCell (p := ⟨g, o + 2, none⟩) hg _).setCell (p := ⟨g, o + 3, none⟩) hg _
theorem Ow.swap (h : Ow W L (some ⟨g, 0, none⟩) c m X) (hi : i < L.length) (hk : k < L.length) : Ow W L (some ⟨g, 0, none⟩) c (sws m i k) (putR (putR X g (i * 4) (nt m k)) g (k * 4) (nt m i)) := by
  have hl := h.pm.length_eq
  refine ⟨(sws_perm (by omega) (by omega)).trans h.pm, ?_, putR_below (putR_below h.bel h.lt.1 _ _) h.lt.1 _ _⟩
  have h1 := stored4 h.own (i * 4) (nt m k)
  rw [gl_set (by omega)] at h1
  have h2 := stored4 h1 (k * 4) (nt m i)
  rw [gl_set (by simp; omega)] at h2
  exact h2
end
theorem pick (s : Int) (n : Nat) (h0 : 0 < n) (h4 : n ≤ 40) : ∃ i : Nat, i < n ∧ wrap64 ((IntKind.u64.wrap s).tmod (n : Int)) = (i : Int) := by
  have h1 : 0 ≤ IntKind.u64.wrap s := by rw [IntKind.wrap_u64]; omega
  have h2 := Int.emod_lt_of_pos (IntKind.u64.wrap s) (show (0 : Int) < (n : Int) by omega)
  have h3 := Int.emod_nonneg (IntKind.u64.wrap s) (show (n : Int) ≠ 0 by omega)
  rw [Int.tmod_eq_emod_of_nonneg h1]
  generalize IntKind.u64.wrap s % (n : Int) = q at *
  refine ⟨q.toNat, by omega, ?_⟩
  unfold wrap64
  omega
end Go.Proofs.Ytipnmgihbpbonaa.ordAs
