/- Both boxes side by side. -/
import Derived.Test.YtbfepdibblialaaInX
import Derived.Test.YtbfepdibblialaaInS
set_option linter.unusedVariables false
set_option linter.unusedSimpArgs false
set_option maxRecDepth 100000
namespace Go.Proofs.Ytbfepdibblialaa.inY
open Go.ChangeShapes Go.WideShapes Go.ChangeAt Go.RowKit Go.Deep
open opG opV opR chnM gen chnA chnR chnE ordA ordB ordC ordCr ordE2 inM inW inL inN inP inPt inG inD inA inK inS inQ inR inU inV inX

/-- the document's box, of a color of its own, and what else there is -/
def XZ (q : Nat) (Y : Bx) (Z : (Nat → Nat) → World → Prop) : (Nat → Nat) → World → Prop := fun col V => DocAt col 2 V q Y ∧ Z col V
/-- versions that nobody changes -/
def XV (m : MR) : (Nat → Nat) → World → Prop := fun col V => DV col V m
theorem st_XV (m : MR) {d : Nat} (hd : d ≠ 0) : St d (XV m) := fun col col' V V' hg he h => DV.go h hg hd he
theorem st_XZ {q : Nat} {Y : Bx} {Z : (Nat → Nat) → World → Prop} (hZ : St 1 Z) : St 1 (XZ q Y Z) := fun col col' V V' hg he h => ⟨h.1.other hg (by decide) (by decide) he, hZ _ _ _ _ hg he h.2⟩
section
variable {w V : World} {p q B : Nat} {S Y Y' : Bx} {o : Oq} {Z : (Nat → Nat) → World → Prop}
theorem p_dlv {F : FuncId} {args : Array Value} {E : Ending → World → Prop} (h : P w p S B o (XZ q Y Z) V) (hZ : St 2 Z)
    (hcall : ∀ col, Fresh col V → DocAt col 2 V q Y → Calls Try.prog F args V (fun e w' => E e w' ∧ DLv col 2 q Y' V w')) : Calls Try.prog F args V fun e w' => E e w' ∧ P w p S B o (XZ q Y' Z) w' := by
  obtain ⟨col, h1, ⟨h2, h5⟩, h3, h4⟩ := h
  refine (hcall col h1.fr h2).mono ?_
  rintro e w' ⟨hE, col', ⟨c1, c2, c3⟩, h'⟩
  have hlt := World.block_lt_of_cell? _ _ h3.1
  exact ⟨hE, col', h1.go c3 (by decide) c1 c2 (h1.box.other c3 (by decide) (by decide) c1), ⟨h', hZ _ _ _ _ c3 c1 h5⟩, b7_of h3 (c3.block B hlt (by rw [h4]; decide)), (c1 B hlt).trans h4⟩
theorem p_dput (h : P w p S B o (XZ q Y Z) V) (hZ : St 2 Z) (hok : Y.ok) (hl : Y.lim) (at0 : Int) (m : MR) (hm : HV V m.A m.c m.vs) (hs : Sm m.vs) :
    Calls Try.prog 12 #[.pointer (some ⟨q, 0, none⟩), .int .i64 at0, rv m] V fun e w' => e = .returned (.int .i64 (bxE Y at0)) ∧ P w p S B o (XZ q (bxS Y at0 m.r) Z) w' :=
  p_dlv (E := fun e _ => e = .returned (.int .i64 (bxE Y at0))) h hZ fun col hf hd => dput_at V hd hok hl (by decide) hf at0 m hm hs
theorem p_ddone (h : P w p S B o (XZ q Y Z) V) (hZ : St 2 Z) (hok : Y.ok) (hl : Y.lim) (at0 : Int) (ha : -9223372036854775808 ≤ at0) (hb : at0 ≤ 9223372036854775807) :
    Calls Try.prog 17 #[.pointer (some ⟨q, 0, none⟩), .int .i64 at0] V fun e w' => e = .returned (.int .i64 (doneE Y at0)) ∧ P w p S B o (XZ q (doneS Y at0) Z) w' :=
  p_dlv (E := fun e _ => e = .returned (.int .i64 (doneE Y at0))) h hZ fun col hf hd => ddone_at V hd hok hl (by decide) hf at0 ha hb
theorem p_dheart (h : P w p S B o (XZ q Y Z) V) (hZ : St 2 Z) (hok : Y.ok) (hl : Y.lim) (t k : Int) :
    Calls Try.prog 19 #[.pointer (some ⟨q, 0, none⟩), .int .u64 t, .int .i64 k] V fun e w' => e = .returned (.tuple #[]) ∧ P w p S B o (XZ q (heartS Y t k) Z) w' :=
  p_dlv (E := fun e _ => e = .returned (.tuple #[])) h hZ fun col hf hd => dheart_at V hd hok hl (by decide) hf t k
theorem p_dnext (h : P w p S B o (XZ q Y Z) V) (hZ : St 2 Z) (hok : Y.ok) (hl : Y.lim) :
    Calls Try.prog 14 #[.pointer (some ⟨q, 0, none⟩)] V fun e w' => (∃ m : MR, e = .returned (.tuple #[.int .i64 (nxP Y), rv m, .bool (isThere Y)]) ∧ m.r = nt Y.came Y.handed ∧ HV w' m.A m.c m.vs) ∧ P w p S B o (XZ q (nextS Y) Z) w' :=
  p_dlv (E := fun e w' => ∃ m : MR, e = .returned (.tuple #[.int .i64 (nxP Y), rv m, .bool (isThere Y)]) ∧ m.r = nt Y.came Y.handed ∧ HV w' m.A m.c m.vs) h hZ fun col hf hd => (dnext_at V hd hok hl (by decide) hf).mono fun e w' ⟨m, h1, h2, h3, h4⟩ => ⟨⟨m, h1, h2, h3⟩, h4⟩
theorem p_dpeek (h : P w p S B o (XZ q Y Z) V) (hZ : St 1 Z) (hok : Y.ok) :
    Calls Try.prog 21 #[.pointer (some ⟨q, 0, none⟩)] V fun e w' => (∃ m : MR, e = .returned (.tuple #[rv m, .bool (isThere Y)]) ∧ m.r = nt Y.came Y.handed ∧ HV w' m.A m.c m.vs) ∧ P w p S B o (XZ q Y Z) w' := by
  have hb := fun V' (hB : Below V.heap.size V V') => h.below (st_XZ hZ) hB
  obtain ⟨col, h1, ⟨h2, h5⟩, h3, h4⟩ := h
  refine (dpeek_at V h2 hok (by decide) h1.fr).mono ?_
  rintro e w' ⟨m, rfl, h6, h7, h8⟩
  exact ⟨⟨m, rfl, h6, h7⟩, hb _ h8⟩
theorem j_dapplied (h : J w p S (XZ q Y Z) V) (hok : Y.ok) (hl : Y.lim) : Calls Try.prog 23 #[.pointer (some ⟨q, 0, none⟩)] V fun e w' => e = .returned (.int .i64 Y.ap) ∧ V = w' := by
  obtain ⟨col, h1, h2, _⟩ := h
  exact dapplied_at V h2 hok hl
theorem j_dgot (h : J w p S (XZ q Y Z) V) : V.cell? ⟨q, 5, none⟩ = some (.int .u64 Y.g) := by
  obtain ⟨col, h1, ⟨Ac, cc, ms, Ad, cd, Ah, ch, h2, _⟩, _⟩ := h
  exact h2.cells.2.2.2.2.2
/-! ### A row of versions is nobody's -/
def nob (col : Nat → Nat) (k j : Nat) : Nat := if j = k then 0 else col j
theorem nob_keep {col : Nat → Nat} {k j c : Nat} (h : col j = c) (hj : j ≠ k) : nob col k j = c := (if_neg hj).trans h
theorem dv_nob {col : Nat → Nat} {V : World} {m : MR} {k : Nat} (h : DV col V m) : DV (nob col k) V m := ⟨h.hv, h.sm, h.co.imp id fun hy y e => by
  unfold nob
  split
  · rfl
  · exact hy y e⟩
theorem ls_nob {col : Nat → Nat} {k : Nat} (h : LS w p S col V) (hk : Ty V k 54) (hlt : k < V.heap.size) : LS w p S (nob col k) V := by
  obtain ⟨⟨Ao, co, Ai, ci, ms, mb, n, D, hb, hr⟩, h2, h3, h4⟩ := h
  refine ⟨⟨Ao, co, Ai, ci, ms, mb, n, D, ?_, hr⟩, fun j hj => (if_neg (by omega)).trans (h2 j hj), fun j hj => ?_, h4⟩
  · obtain ⟨t1, t2, t3⟩ := hb.tp
    exact { hb with
      dv := fun m hm => dv_nob (hb.dv m hm)
      cp := nob_keep hb.cp (t1.ne hk (by decide))
      ko := fun j e => nob_keep (hb.ko j e) ((t2 j e).ne hk (by decide))
      ki := fun j e => nob_keep (hb.ki j e) ((t3 j e).ne hk (by decide))
      km := nob_keep hb.km (hk.nmap hb.mp).symm }
  · unfold nob
    split
    · rfl
    · exact h3 j hj
theorem doc_nob {col : Nat → Nat} {k : Nat} (h : DocAt col 2 V q Y) (hk : Ty V k 54) : DocAt (nob col k) 2 V q Y := by
  obtain ⟨Ac, cc, ms, Ad, cd, Ah, ch, h, hr⟩ := h
  exact ⟨Ac, cc, ms, Ad, cd, Ah, ch, { h with
    dv := fun m hm => dv_nob (h.dv m hm)
    cq := nob_keep h.cq (h.tq.ne hk (by decide))
    kc := fun j e => nob_keep (h.kc j e) ((h.tc e).ne hk (by decide))
    kd := fun j e => nob_keep (h.kd j e) ((h.td e).ne hk (by decide))
    kh := fun j e => nob_keep (h.kh j e) ((h.th e).ne hk (by decide)) }, hr⟩
/-- what was handed out is nobody's from there on -/
theorem p_own {base : Nat} {r : Rc} {m : MR} (h : P w p S B o (XZ q Y XT) V) (hO : Own base r m V) : P w p S B o (XZ q Y (XV m)) V := by
  obtain ⟨col, h1, ⟨h2, _⟩, h3, h4⟩ := h
  rcases hO.gv.2 with ⟨e, h0⟩ | ⟨g, cap, cur, e, hb, hg, _⟩
  · exact ⟨col, h1, ⟨h2, hO.gv.hv hO.sz, hO.sm, .inl (List.eq_nil_of_length_eq_zero h0)⟩, h3, h4⟩
  · have hty : Ty V g 54 := ⟨cur, hg⟩
    have hlt : g < V.heap.size := (Array.getElem?_eq_some_iff.1 hg).1
    refine ⟨nob col g, ls_nob h1 hty hlt, ⟨doc_nob h2 hty, hO.gv.hv hO.sz, hO.sm, .inr fun y hy => ?_⟩, h3, ?_⟩
    · simp only [Value.slice.injEq] at e
      rw [hy] at e
      have e1 := e.1
      cases e1
      exact if_pos rfl
    · unfold nob
      split
      · rfl
      · exact h4
theorem p_hv {m : MR} (h : P w p S B o (XZ q Y (XV m)) V) : HV V m.A m.c m.vs := by
  obtain ⟨col, h1, ⟨h2, h5⟩, h3, h4⟩ := h
  exact DV.hv h5
/-- such a commit in a box of the law's -/
def XB (m : MR) (xb : Nat) : (Nat → Nat) → World → Prop := fun col V => DV col V m ∧ P4 xb m V ∧ col xb = 0
theorem st_XB (m : MR) (xb : Nat) {d : Nat} (hd : d ≠ 0) : St d (XB m xb) := fun col col' V V' hg he ⟨h1, h2, h3⟩ =>
  ⟨DV.go h1 hg hd he, World.rowIs.of_block h2 (hg.block xb (World.rowIs.lt h2) (by rw [h3]; exact fun e => hd e.symm)), (he xb (World.rowIs.lt h2)).trans h3⟩
theorem p_box {m : MR} (h : P w p S B o (XZ q Y (XV m)) V) : P w p S B o (XZ q Y (XB m V.heap.size)) (V.alloc (.cells #[.int .u64 m.ts, .int .i64 m.dc, .int .i64 m.tx, .slice m.A m.vs.length m.c] 30)) := by
  have hal := al0 V (.cells #[.int .u64 m.ts, .int .i64 m.dc, .int .i64 m.tx, .slice m.A m.vs.length m.c] 30)
  have hx := P4.new V m
  have h0 := h.below (st_XZ (st_XV m (by decide))) hal
  obtain ⟨col, h1, h2, h3, h4⟩ := h
  exact ⟨col, h1.below hal, ⟨h2.1.below hal, DV.below h2.2 hal, hx, h1.fr _ (Nat.le_refl _)⟩, b7_below h3 hal, h4⟩
theorem p_x {m : MR} {xb : Nat} (h : P w p S B o (XZ q Y (XB m xb)) V) : HV V m.A m.c m.vs ∧ P4 xb m V := by
  obtain ⟨col, h1, ⟨h2, h5, h6, _⟩, h3, h4⟩ := h
  exact ⟨DV.hv h5, h6⟩
theorem p_forget (h : P w p S B o (XZ q Y Z) V) : P w p S B o (XZ q Y XT) V := by
  obtain ⟨col, h1, ⟨h2, h5⟩, h3, h4⟩ := h
  exact ⟨col, h1, ⟨h2, trivial⟩, h3, h4⟩
end
/-- how it begins -/
theorem jd_new {w : World} {at0 : Int} : J w (w.heap.size + 1) (B0 at0) (XZ (newB w at0).heap.size (B0 at0) XT) (newD (newB w at0) ((B0 at0).first : Nat)) := by
  have h := j_new (w := w) (at0 := at0)
  obtain ⟨hA, hC⟩ := dat_new (c := 2) (newB w at0) at0 h.fr
  exact ⟨_, h.go hC.2.2 (by decide) hC.1 hC.2.1 (h.box.other hC.2.2 (by decide) (by decide) hC.1), hA, trivial⟩
end Go.Proofs.Ytbfepdibblialaa.inY
