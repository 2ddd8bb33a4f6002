/- The document's Release: what its steps make of a log. -/
import Derived.Test.YtipnmgihbpbonaaOrdQ
import Derived.Test.YtipnmgihbpbonaaOrdI
set_option linter.unusedVariables false
set_option linter.unusedSimpArgs false
set_option maxRecDepth 100000
namespace Go.Proofs.Ytipnmgihbpbonaa.ordP
open Go.ChangeShapes Go.WideShapes Go.ChangeAt Go.RowKit Go.Deep
open opV chnM gen chnA chnR chnE ordA ordB ordC ordCr ordM ordL ordD ordH ordI ordK ordRl ordW ordE2 ordQ

section
variable {T : TypeId} {col : Nat → Nat} {c p : Nat} {L : Lg} {A1 A2 A' : Option Addr} {c1 c2 c' n : Nat} {ms mw l' : List MR} {w w3 : World}
/-- one more stands behind the stable ones -/
theorem radd1 {o : Obj} {x : MR} (h : LogIs T col c w p L A1 c1 A2 c2 ms mw) (hc : c ≠ 0) (hf : Fresh col w) (hx : x ∈ mw) (hl : ms.length + 1 + mw.length ≤ 200) (hg : (w.alloc o).grownBy w3 (Value.slice A1 ms.length c1).ownBlock)
    (ho : w3.ownsRow 0 32 4 (.slice A' (ms.length + 1) c') (ms.length + 1) (gl ms ++ cR x)) (hat : (Value.slice A' (ms.length + 1) c').ownBlock = (Value.slice A1 ms.length c1).ownBlock ∨ (Value.slice A' (ms.length + 1) c').ownBlock = some (w.alloc o).heap.size) :
    w3.cell? ⟨p, 0, none⟩ = some (.slice A1 ms.length c1) ∧ w3.frozen? ⟨p, 0, none⟩ = false ∧ ∃ col', Cn c col w col' (w3.setCell ⟨p, 0, none⟩ (.slice A' (ms.length + 1) c')) ∧ LogIs T col' c (w3.setCell ⟨p, 0, none⟩ (.slice A' (ms.length + 1) c')) p ⟨L.st ++ [x.r], L.wt, L.bd⟩ A' c' A2 c2 (ms ++ [x]) mw := by
  have hnl : (ms ++ [x]).length = ms.length + 1 := by simp
  have hG : GR w3 0 A' c' (ms ++ [x]) := by unfold GR; rw [hnl, gl_app, gl_one]; exact ho
  have h1 := h.below (al0 w o)
  have hnp : (Value.slice A1 ms.length c1).ownBlock ≠ some p := row_apart h.row h.o1 h.tne
  have hp6 : w3.heap[p]? = (w.alloc o).heap[p]? := hg.block p h1.row.lt (fun e => hnp e.symm)
  have hp := h.put1 (l' := ms ++ [x]) (A' := A') (c' := c') hc hf (al0 w o) hg hG (fun k e => by
    rw [hnl] at e
    rcases hat with h1 | h1
    · rw [h1] at e; exact .inl e
    · rw [h1] at e; cases e; exact .inr (al0 w o).size) (fun y hy => .inl (by
      rcases List.mem_append.1 hy with hy | hy
      · exact h.d1 y hy
      · rw [List.mem_singleton.1 hy]; exact h.d2 x hx)) (by rw [hnl]; omega)
  rw [hnl] at hp
  obtain ⟨g1, g2, g3, g4⟩ := hp
  rw [List.map_append, h.e1] at g4
  exact ⟨(World.cell?_of_block (a := ⟨p, 0, none⟩) hp6).trans h1.cells.1, (World.frozen?_of_block (a := ⟨p, 0, none⟩) hp6).trans h1.fz.1, _, ⟨g1, g2, g3⟩, g4⟩
/-- those that wait are a row in new memory -/
theorem radd2 (h : LogIs T col c w p L A1 c1 A2 c2 ms mw) (hc : c ≠ 0) (hf : Fresh col w) (hB : Below w.heap.size w w3) (hG : GR w3 w.heap.size A' c' l') (hm : ∀ x ∈ l', x ∈ mw) (hl : ms.length + l'.length ≤ 200) :
    w3.cell? ⟨p, 1, none⟩ = some (.slice A2 mw.length c2) ∧ w3.frozen? ⟨p, 1, none⟩ = false ∧ ∃ col', Cn c col w col' (w3.setCell ⟨p, 1, none⟩ (.slice A' l'.length c')) ∧ LogIs T col' c (w3.setCell ⟨p, 1, none⟩ (.slice A' l'.length c')) p ⟨L.st, l'.map MR.r, L.bd⟩ A1 c1 A' c' ms l' := by
  have h3 := h.below hB
  obtain ⟨g1, g2, g3, g4⟩ := h.put2 (l' := l') (A' := A') (c' := c') hc hf hB ⟨rfl, rfl, rfl, Nat.le_refl _, fun _ _ _ => rfl⟩ (hG.more (Nat.zero_le _)) (fun k e => .inr (World.ownsRow.lt hG k e).1) (fun x hx => .inl (h.d2 x (hm x hx))) hl
  exact ⟨h3.cells.2.1, h3.fz.2.1, _, ⟨g1, g2, g3⟩, g4⟩
end
/-- the two halves of a row laid behind one another in new memory -/
theorem emp_r (w : World) (base : Nat) (h : base ≤ w.heap.size) : (w.alloc (.cells #[] 32)).ownsRow base 32 4 (.slice (some ⟨w.heap.size, 0, none⟩) 0 0) 0 [] :=
  ⟨rfl, .inr ⟨w.heap.size, 0, #[], rfl, h, heap_alloc_new w _, by omega, by unfold maxLen; omega, rfl, rfl⟩⟩
theorem half1 {w w3 : World} {A' : Option Addr} {c' n : Nat} {k : List MR} (hk : k.length = n) (ho : w3.ownsRow w.heap.size 32 4 (.slice A' (0 + n) c') (0 + n) ([] ++ gl k)) (hg : (w.alloc (.cells #[] 32)).grownBy w3 (Value.slice (some ⟨w.heap.size, 0, none⟩) 0 0).ownBlock) :
    w3.ownsRow w.heap.size 32 4 (.slice A' n c') n (gl k) ∧ Below w.heap.size w w3 := by
  rw [Nat.zero_add, List.nil_append] at ho
  exact ⟨ho, (al0 w _).grown hg (al0 w _).size (fun b e => by cases e; exact Nat.le_refl _)⟩
theorem half2 {w w3 w4 : World} {A A' : Option Addr} {cc c' n n2 : Nat} {k k2 : List MR} (hk : k.length = n) (hk2 : k2.length = n2) (hB : Below w.heap.size w w3) (h3 : w3.ownsRow w.heap.size 32 4 (.slice A n cc) n (gl k)) (ho : w4.ownsRow w.heap.size 32 4 (.slice A' (n + n2) c') (n + n2) (gl k ++ gl k2)) (hg : w3.grownBy w4 (Value.slice A n cc).ownBlock) :
    GR w4 w.heap.size A' c' (k ++ k2) ∧ (k ++ k2).length = n + n2 ∧ Below w.heap.size w w4 := by
  have hl : (k ++ k2).length = n + n2 := by simp [hk, hk2]
  refine ⟨?_, hl, hB.grown hg hB.size (fun b e => (World.ownsRow.lt h3 b e).1)⟩
  unfold GR
  rw [hl, gl_app]
  exact ho
/-! ### What is between two rounds -/
def Rq (col : Nat → Nat) (c p : Nat) (L : Lg) (t : Int) (w : World) (j : Nat) (wr : World) : Prop :=
  j ≤ cnt L t ∧ ∃ col', Cn c col w col' wr ∧ ∃ A1 c1 A2 c2 ms mw, LogIs T2 col' c wr p ⟨L.st ++ L.wt.take j, mw.map MR.r, mx L.bd t⟩ A1 c1 A2 c2 ms mw ∧ (mw.map MR.r).Perm (L.wt.drop j)
/-- the document's log by the program's -/
def DocAt (col : Nat → Nat) (c : Nat) (w : World) (p : Nat) (L : Lg) : Prop := ∃ D : Lg, D.st = L.st ∧ D.bd = L.bd ∧ D.wt.Perm L.wt ∧ LogAt T2 col c w p D
def DLv (col : Nat → Nat) (c : Nat) (p : Nat) (L : Lg) (w w' : World) : Prop := ∃ col', Cn c col w col' w' ∧ DocAt col' c w' p L
theorem rq_below {col : Nat → Nat} {c p : Nat} {L : Lg} {t : Int} {w wr w1 : World} {j : Nat} (h : Rq col c p L t w j wr) (hB : Below wr.heap.size wr w1) : Rq col c p L t w j w1 := by
  obtain ⟨hj, col', hC, A1, c1, A2, c2, ms, mw, h, hp⟩ := h
  exact ⟨hj, col', hC.trans (Cn.below hC.2.1 hB), A1, c1, A2, c2, ms, mw, h.below hB, hp⟩
theorem rq_end {col : Nat → Nat} {c p : Nat} {L : Lg} {t : Int} {w wr : World} {j : Nat} (h : Rq col c p L t w j wr) (hj : j = cnt L t) : DLv col c p (rS L t) w wr := by
  obtain ⟨_, col', hC, A1, c1, A2, c2, ms, mw, h, hp⟩ := h
  subst hj
  exact ⟨col', hC, ⟨L.st ++ L.wt.take (cnt L t), mw.map MR.r, mx L.bd t⟩, rfl, rfl, hp, _, _, _, _, _, _, h⟩
theorem doc_decide {col : Nat → Nat} {c p : Nat} {L : Lg} (w : World) (h : DocAt col c w p L) (hc : c ≠ 0) (hf : Fresh col w) (m : MR) (hm : HV w m.A m.c m.vs) (hs : Sm m.vs) (hl : L.st.length + L.wt.length ≤ 90) :
    Calls Try.prog 11 #[.pointer (some ⟨p, 0, none⟩), rv m] w fun e w' => e = .returned (.int .i64 (dE L m.r)) ∧ DLv col c p (dS L m.r) w w' := by
  obtain ⟨D, d1, d2, d3, A1, c1, A2, c2, ms, mw, h⟩ := h
  have hq := at_len h
  have hpl := d3.length_eq
  have hth := there_perm (r := m.r) d3
  refine (rdecide_any w h hc hf m hm hs (by rw [hq.1, hq.2, d1, hpl]; omega)).mono ?_
  rintro e w' ⟨rfl, col', hC, hL⟩
  refine ⟨by unfold dE; rw [d2, hth], col', hC, rdS D m.r, ?_, ?_, ?_, hL⟩
  · unfold rdS dS; rw [d2, hth]; split
    · exact d1
    · split <;> exact d1
  · unfold rdS dS; rw [d2, hth]; split
    · exact d2
    · split <;> first | exact d2 | rfl | simpa using d2
  · unfold rdS dS; rw [d2, hth]; split
    · exact d3
    · split
      · exact d3
      · have h1 := ins_perm L.wt (pos L.wt m.r) m.r
        exact (List.perm_append_singleton m.r D.wt).trans ((d3.cons m.r).trans h1.symm)
end Go.Proofs.Ytipnmgihbpbonaa.ordP
