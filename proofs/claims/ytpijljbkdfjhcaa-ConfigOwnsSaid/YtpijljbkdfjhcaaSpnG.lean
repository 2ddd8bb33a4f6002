/- The document's Copy. -/
import Derived.Test.YtpijljbkdfjhcaaSpnD
import Derived.Test.YtpijljbkdfjhcaaGen
set_option linter.unusedVariables false
namespace Go.Proofs.Ytpijljbkdfjhcaa.spnG
open Go.ChangeShapes Go.WideShapes Go.ChangeAt Go.RowKit Go.Deep
open spnM spnA spnB spnN spnP spnD gen
attribute [local go_sem high] bin_slt bin_sle bin_sge bin_seq bin_sne

theorem infoS : (Try.prog.info? 9).map (fun i => (i.zero, i.size, i.bytes)) = some (some (.string { data := #[] }), 1, 16) := by kernel_rfl
theorem infoI : (Try.prog.info? 3).map (fun i => (i.zero, i.size, i.bytes)) = some (some (.int .i64 0), 1, 8) := by kernel_rfl
/-- an empty row, made here -/
def Emp (T : TypeId) (g : Nat) (w : World) : Prop := w.heap[g]? = some (.cells #[] T (0, 0))
theorem Emp.own {T : TypeId} {g base : Nat} {w : World} (h : Emp T g w) (hb : base ≤ g) : w.ownsRow base T 1 (.slice (some ⟨g, 0, none⟩) 0 0) 0 [] :=
  ⟨rfl, .inr ⟨g, 0, #[], rfl, hb, h, by omega, by unfold maxLen; omega, rfl, rfl⟩⟩
theorem stand_rl {α : Type} [Inhabited α] {f : α → Value} {w : World} {A : Option Addr} {n : Nat} {l : List α} (h : RL f w A n l) : Stand w A n (l.map f) := by
  rcases h.2 with h0 | ⟨b, off, e, _, hc⟩
  · exact .inl h0
  · refine .inr ⟨_, e, fun j u hu => ?_⟩
    have hj : j < l.length := by have := (List.getElem?_eq_some_iff.1 hu).1; simpa using this
    rw [add_plain, hc j (by have := h.1; omega), nt_at hj]
    rw [List.getElem?_map, List.getElem?_eq_getElem hj] at hu
    exact hu
theorem Emp.new (T : TypeId) (w : World) : Emp T w.heap.size (w.alloc (.cells #[] T)) := heap_alloc_new w _
theorem Emp.new' {T : TypeId} {g : Nat} {w : World} (h : g = w.heap.size) : Emp T g (w.alloc (.cells #[] T)) := h ▸ Emp.new T w
theorem Emp.drew {T : TypeId} {g : Nat} {w : World} (h : Emp T g w) : Emp T g w.drew := h
theorem Emp.alloc {T : TypeId} {g : Nat} {w : World} (h : Emp T g w) (o : Obj) : Emp T g (w.alloc o) := (Below.heap_alloc w o g (Array.getElem?_eq_some_iff.1 h).1).trans h
theorem Emp.grown {T T' : TypeId} {g g' : Nat} {w w' : World} (h : Emp T g w) (h' : Emp T' g' w) (hne : T ≠ T') (hg : w.grownBy w' (Value.slice (some ⟨g', 0, none⟩) 0 0).ownBlock) : Emp T g w' :=
  (hg.block g (Array.getElem?_eq_some_iff.1 h).1 (fun e => by
    have e1 : g = g' := by simpa [Value.ownBlock] using e
    subst e1
    unfold Emp at h h'
    rw [h] at h'
    simp at h'
    exact hne h')).trans h
theorem bal {W X : World} (h : Below W.heap.size W X) (o : Obj) : Below W.heap.size W (X.alloc o) := h.alloc h.size o
theorem bdr {W X : World} (h : Below W.heap.size W X) : Below W.heap.size W X.drew := h.drew
/-- A row is made out of the empty one. -/
theorem made {W X Y : World} {T : TypeId} {g n c : Nat} {A : Option Addr} {xs : List Value} (hB : Below W.heap.size W X) (hE : Emp T g X) (hg0 : W.heap.size ≤ g) (hg : X.grownBy Y (Value.slice (some ⟨g, 0, none⟩) 0 0).ownBlock)
    (ho : Y.ownsRow W.heap.size T 1 (.slice A n c) n xs) : Mk W T n A c xs Y := ⟨ho, hB.grown hg hB.size (fun k e => ((hE.own hg0).lt k e).1)⟩
/-- .. beside another one. -/
theorem Mk.beside {W X Y : World} {T T' : TypeId} {g n c : Nat} {A : Option Addr} {xs : List Value} (h : Mk W T n A c xs X) (hE : Emp T' g X) (hne : T ≠ T') (hg0 : W.heap.size ≤ g) (hg : X.grownBy Y (Value.slice (some ⟨g, 0, none⟩) 0 0).ownBlock) : Mk W T n A c xs Y :=
  ⟨own_block h.own fun k e => hg.block k (h.own.lt k e).2 (fun e2 => own_apart h.own (hE.own hg0) hne e e2.symm), h.bel.grown hg h.bel.size (fun k e => ((hE.own hg0).lt k e).1)⟩
theorem Mk.alloc {W X : World} {T : TypeId} {n c : Nat} {A : Option Addr} {xs : List Value} (h : Mk W T n A c xs X) (o : Obj) : Mk W T n A c xs (X.alloc o) := h.below (al0 _ _)
set_option maxRecDepth 100000 in
set_option maxHeartbeats 4000000 in
theorem rcopy_any (A1 : Option Addr) (c1 : Nat) (A2 : Option Addr) (c2 : Nat) (m : M) (w : World) (h : HM w A1 c1 A2 c2 m) :
    Calls Try.prog 48 #[.agg #[.slice A1 m.cs.length c1, .slice A2 m.ns.length c2]] w (Gives m w) := by
  obtain ⟨W, hW⟩ : ∃ W, (w.alloc (.cells #[.slice A1 m.cs.length c1, .slice A2 m.ns.length c2] 26)).alloc (.cells #[.slice none 0 0, .slice none 0 0] 26) = W := ⟨_, rfl⟩
  have hal := trans0 (al0 w (.cells #[.slice A1 m.cs.length c1, .slice A2 m.ns.length c2] 26)) (al0 _ (.cells #[.slice none 0 0, .slice none 0 0] 26))
  have hb1 := (B2.new w (.slice A1 m.cs.length c1) (.slice A2 m.ns.length c2)).below (al0 _ (.cells #[.slice none 0 0, .slice none 0 0] 26))
  have hb2 := B2.new (w.alloc (.cells #[.slice A1 m.cs.length c1, .slice A2 m.ns.length c2] 26)) (.slice none 0 0) (.slice none 0 0)
  have hsz : W.heap.size = w.heap.size + 1 + 1 := by rw [← hW]; simp
  rw [hW] at hal hb1 hb2
  rw [World.size_alloc] at hb2
  have hm := h.below hal
  obtain ⟨iS, hiS, hzS0, hzS1, hzS2⟩ := info_parts infoS
  obtain ⟨iI, hiI, hzI0, hzI1, hzI2⟩ := info_parts infoI
  have h0 : Below W.heap.size W W := Below.refl _ _
  have stS := Lib.hid (fun X (hB : Below W.heap.size W X) => stand_rl (hm.cs.below hB))
  have stI := Lib.hid (fun X (hB : Below W.heap.size W X) => stand_rl (hm.ns.below hB))
  have lenS : Hid ((m.cs.map Value.string).length = m.cs.length * 1) := Lib.hid (by simp)
  have lenI : Hid ((m.ns.map (Value.int .i64)).length = m.ns.length * 1) := Lib.hid (by simp)
  have oneS : ∀ u ∈ m.cs.map Value.string, u.oneCell' = true := fun u hu => by obtain ⟨x, _, rfl⟩ := List.mem_map.1 hu; rfl
  have oneI : ∀ u ∈ m.ns.map (Value.int .i64), u.oneCell' = true := fun u hu => by obtain ⟨x, _, rfl⟩ := List.mem_map.1 hu; rfl
  have bndS : Hid (0 + m.cs.length ≤ maxLen ∧ (0 + m.cs.length) * 16 ≤ 140737488355328) := Lib.hid (by have := h.s1; unfold maxLen; omega)
  have bndI : Hid (0 + m.ns.length ≤ maxLen ∧ (0 + m.ns.length) * 8 ≤ 140737488355328) := Lib.hid (by have := h.s2; unfold maxLen; omega)
  replace oneS := Lib.hid oneS
  replace oneI := Lib.hid oneI
  have hfin := Lib.hid (show ∀ (A A' : Option Addr) (c c' : Nat) (w' : World), Mk W 9 m.cs.length A c (m.cs.map Value.string) w' → Mk W 3 m.ns.length A' c' (m.ns.map (Value.int .i64)) w' →
      (w'.cell? ⟨w.heap.size + 1, 0, none⟩ = some (.slice none 0 0) ∧ w'.cell? ⟨w.heap.size + 1, 1, none⟩ = some (.slice none 0 0) ∧ w'.frozen? ⟨w.heap.size + 1, 0, none⟩ = false ∧ w'.frozen? ⟨w.heap.size + 1, 1, none⟩ = false) ∧
      Gives m w (.returned (.agg #[.slice A m.cs.length c, .slice A' m.ns.length c'])) ((w'.setCell ⟨w.heap.size + 1, 0, none⟩ (.slice A m.cs.length c)).setCell ⟨w.heap.size + 1, 1, none⟩ (.slice A' m.ns.length c')) from fun A A' c c' w' g1 g2 => by
    refine ⟨B2.cells (B2.below hb2 g1.bel), A, c, A', c', rfl, ?_, below2 (trans0 hal g1.bel) (by omega) _ _⟩
    have hG : GM w' W.heap.size A c A' c' m := ⟨g1.own, g2.own⟩
    exact (hG.set2 (by rw [hsz]; omega) _ _).more (by rw [hsz]; omega))
  obtain ⟨p0, p1, p2, p3⟩ := hb1.cells
  have hlt := hb1.lt
  have hBc := Lib.hid (fun X (hB : Below W.heap.size W X) => (⟨keep_cell hB p0, keep_cell hB p1⟩ : X.cell? ⟨w.heap.size, 0, none⟩ = some (.slice A1 m.cs.length c1) ∧ X.cell? ⟨w.heap.size, 1, none⟩ = some (.slice A2 m.ns.length c2)))
  replace hW := Lib.hid hW
  replace h0 := Lib.hid h0
  clear hm h hb1 hb2 hal hsz p2 p3
  generalize m.cs.map Value.string = xs at *
  generalize m.ns.map (Value.int .i64) = ys at *
  go_enter Try.func48, Try.ntmps48
  go_wp2
  rw [hW.out]
  go_region_law (first
    | (refine step_gen rfl (.tmp 3) (.tmp 5) 23 rfl W.heap.size 9 iS _ 1 16 Try.underlying23 hiS hzS0 hzS1 hzS2 rfl (by decide) _ 0 [] (by rfl) (Emp.own (by first | exact Emp.drew (Emp.new' (by simp)) | exact Emp.drew (Emp.alloc (Emp.new' (by simp)) _)) (by first | exact Nat.le_refl _ | exact Nat.le_succ _)) A1 m.cs.length c1 xs (by rfl) lenS.out (stS.out _ (by first | exact bdr (bal h0.out _) | exact bdr (bal (bal h0.out _) _))) oneS.out bndS.out.1 bndS.out.2 (Below.size (by first | exact bdr (bal h0.out _) | exact bdr (bal (bal h0.out _) _))) ?_; intro A9 c9 w9 ho9 hg9 hat9; simp only [Nat.zero_add, List.nil_append] at ho9 ⊢; have hS9 := made (by first | exact bdr (bal h0.out _) | exact bdr (bal (bal h0.out _) _)) (by first | exact Emp.drew (Emp.new' (by simp)) | exact Emp.drew (Emp.alloc (Emp.new' (by simp)) _)) (by first | exact Nat.le_refl _ | exact Nat.le_succ _) hg9 ho9; (try (have hE9 : Emp 3 _ w9 := Emp.grown (Emp.drew (Emp.new' (w := W.alloc (.cells #[] 9)) rfl)) (Emp.drew (Emp.alloc (Emp.new 9 W) _)) (by decide) hg9; rw [World.size_alloc] at hE9; have hE9g := Nat.le_succ W.heap.size)); (try (have hE9 : Emp 3 _ w9 := Emp.grown (Emp.drew (Emp.alloc (Emp.new _ W) _)) (Emp.drew (Emp.new' (w := W.alloc (.cells #[] 3)) (T := 9) (by simp))) (by decide) hg9; have hE9g := Nat.le_refl W.heap.size)); have hl9 := Nat.lt_of_lt_of_le hlt hS9.bel.size; obtain ⟨q0, q1⟩ := hBc.out _ hS9.bel; have q2 := keep_cell (al0 w9 (.cells #[] 3)) q1; clear ho9 hg9 hat9)
    | (refine step_gen rfl (.tmp 7) (.tmp 9) 24 rfl W.heap.size 3 iI _ 1 8 Try.underlying24 hiI hzI0 hzI1 hzI2 rfl (by decide) _ 0 [] (by rfl) (Emp.own (by first | exact hE9 | exact Emp.new' (by simp)) (by first | exact hE9g | exact hS9.bel.size)) A2 m.ns.length c2 ys (by rfl) lenI.out (stI.out _ (by first | exact hS9.bel | exact bal hS9.bel _)) oneI.out bndI.out.1 bndI.out.2 (Below.size (by first | exact hS9.bel | exact bal hS9.bel _)) ?_; intro A8 c8 w8 ho8 hg8 hat8; simp only [Nat.zero_add, List.nil_append] at ho8 ⊢; (first | (have hI8 := made hS9.bel hE9 hE9g hg8 ho8; have hS8 := Mk.beside hS9 hE9 (by decide) hE9g hg8) | (have hI8 := made (bal hS9.bel _) (Emp.new _ _) hS9.bel.size hg8 ho8; have hS8 := Mk.beside (Mk.alloc hS9 _) (Emp.new _ _) (by decide) hS9.bel.size hg8)); obtain ⟨⟨z0, z1, z2, z3⟩, hG⟩ := hfin.out _ _ _ _ _ hS8 hI8; clear ho8 hg8 hat8)
    | fail)
  all_goals
    clear z2 z3
    go_wp2
    refine bodyPost_ret (v := .agg #[.slice A9 m.cs.length c9, .slice A8 m.ns.length c8]) ?_ rfl hG
    simp [results, Try.results48, go_sem, z0, z1]
end Go.Proofs.Ytpijljbkdfjhcaa.spnG
