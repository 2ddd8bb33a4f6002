/- How rows of bodies, of frames, of calls and of moves that come in are opened. -/
import Derived.Test.YthiadkpndemeeaaLnkO
import Derived.Deep.Slices
namespace Go.Proofs.Ythiadkpndemeeaa.lnkP
open Go.ChangeShapes Go.WideShapes Go.ChangeAt Go.RowKit Go.Deep Go.Joins
open numM rowA byt numA numB numC lnkA lnkO

def Kept (l : List Nat) : Prop := ∀ z ∈ l, z ≤ 140737488351232
theorem kept_all {l : List Nat} (h : Kept l) : l.all (· ≤ reachBytes) = true := by
  rw [List.all_eq_true]
  intro z hz
  have := h z hz
  exact decide_eq_true (p := z ≤ reachBytes) this
section
variable {H : Type} {enc : TypeId × Value → H} {W : World} {base : Nat}
theorem weightsAll_mem' {P : Program} {e : TypeId} {ds : List (DataW H)} {d : DataW H} (hd : d ∈ ds) {z : Nat} (hz : z ∈ d.weights P e) : z ∈ DataW.weightsAll P e ds := by
  induction ds with
  | nil => simp at hd
  | cons a r ih =>
    unfold DataW.weightsAll
    rcases List.mem_cons.1 hd with rfl | hd
    · exact List.mem_append.2 (.inl hz)
    · exact List.mem_append.2 (.inr (ih hd))
/-- A slice of elements of k cells each. -/
theorem open_rows {t e : TypeId} {k : Nat} (ht : Try.prog.underlying t = some (.slice e)) (hk : Try.prog.cellsOf e = k) (hk0 : 0 < k) {α : Type} [Inhabited α] (Q : Nat → Nat → α → Prop)
    (elem : ∀ b o cs n y, (∀ j, j < k → W.cell? ⟨b, o + j, none⟩ = cs[j]?) → cs.length = k → DataW.trod enc Try.prog W base (fun _ => true) true n e cs = some y → Kept (y.1.weights Try.prog e) → ∃ v : α, Q b o v)
    {n : Nat} {c : Value} {y : DataW H × List MemPlace} (h : DataW.trod enc Try.prog W base (fun _ => true) true n t [c] = some y) (hw : Kept (y.1.weights Try.prog t)) :
    ∃ (a : Option Addr) (len cap : Nat) (l : List α), c = .slice a len cap ∧ l.length = len ∧ len ≤ 9223372036854775807 ∧ (len = 0 ∨ ∃ b off, a = some ⟨b, off, none⟩ ∧ b < W.heap.size ∧ ∀ i, i < len → Q b (off + i * k) (l.getD i default)) := by
  rcases open_slice ht h with ⟨hcs, _⟩ | ⟨x, len, cap, m, n, D, Pl, hcs, _, hl, hm, hmm, hx, hi⟩
  · simp only [List.cons.injEq, and_true] at hcs
    exact ⟨none, 0, 0, [], hcs, rfl, by omega, .inl rfl⟩
  · simp only [List.cons.injEq, and_true] at hcs
    unfold maxLen at hm
    rw [hk] at hi
    have hlm : len ≤ m := by rw [hmm]; split <;> omega
    have hkd : ∀ i, i < len → Kept ((D i).weights Try.prog e) := fun i hil z hz => hw z (by
      rw [hx]
      simp only [DataW.weights, ht, List.mem_cons, List.mem_append]
      right; left
      exact weightsAll_mem' (List.mem_map.2 ⟨i, List.mem_range.2 hil, rfl⟩) hz)
    have each : ∀ i, i < len → x.spot = none ∧ x.block < W.heap.size ∧ ∃ v : α, Q x.block (x.off + i * k) v := by
      intro i hil
      obtain ⟨cs, hc, htr⟩ := hi i (by omega)
      obtain ⟨_, hcl, hat⟩ := World.cells?_some hc
      have hs : x.spot = none := by
        obtain ⟨cs0, hc0, -⟩ := hi 0 (by omega)
        obtain ⟨_, hcl0, hat0⟩ := World.cells?_some hc0
        have h0 := hat0 0 (by omega)
        obtain ⟨b, off, spot⟩ := x
        rw [List.getElem?_eq_getElem (by omega)] at h0
        simpa [Addr.add] using World.cell?_spot h0
      obtain ⟨b, off, spot⟩ := x
      simp only at hs
      subst hs
      have hat' : ∀ j, j < k → W.cell? ⟨b, off + i * k + j, none⟩ = cs[j]? := fun j hj => by
        have := hat j (by omega)
        rw [Go.Deep.add_add, Go.WideShapes.add_plain] at this
        rw [← this]
        congr 2
        omega
      refine ⟨rfl, ?_, elem b (off + i * k) cs _ _ hat' hcl htr (hkd i hil)⟩
      have := hat' 0 hk0
      rw [List.getElem?_eq_getElem (by omega)] at this
      exact World.block_lt_of_cell? _ (⟨b, off + i * k + 0, none⟩ : Addr) this
    have each' : ∀ i : Nat, ∃ v : α, i < len → Q x.block (x.off + i * k) v := by
      intro i
      by_cases hil : i < len
      · obtain ⟨_, _, v, hv⟩ := each i hil
        exact ⟨v, fun _ => hv⟩
      · exact ⟨default, fun h => absurd h hil⟩
    refine ⟨some x, len, cap, (List.range len).map fun i => (each' i).choose, hcs, by simp, by omega, ?_⟩
    by_cases h0 : len = 0
    · exact .inl h0
    · obtain ⟨hs, hlt, -⟩ := each 0 (by omega)
      refine .inr ⟨x.block, x.off, ?_, hlt, fun i hil => ?_⟩
      · obtain ⟨b, off, spot⟩ := x
        simp only at hs
        subst hs
        rfl
      · have e : ((List.range len).map fun i => (each' i).choose).getD i default = (each' i).choose := by
          rw [List.getD_eq_getElem?_getD, List.getElem?_map, List.getElem?_range hil]
          rfl
        rw [e]
        exact (each' i).choose_spec hil
/-! ### The elements -/
/-- bytes in one cell -/
def QB (W : World) (b o : Nat) (l : List Nat) : Prop := ∃ A c, W.cell? ⟨b, o, none⟩ = some (.slice A l.length c) ∧ BL W A l.length l ∧ l.length ≤ c ∧ c ≤ 140737488351232
theorem fld_body {n : Nat} {c : Value} {y : DataW H × List MemPlace} (h : DataW.trod enc Try.prog W base (fun _ => true) true n 29 [c] = some y) (hw : Kept (y.1.weights Try.prog 29)) :
    ∃ A l cap, c = .slice A (List.length l) cap ∧ BL W A l.length l ∧ l.length ≤ cap ∧ cap ≤ 140737488351232 := by
  obtain ⟨a, len, cap, zs, hc, hr, hq⟩ := fld_row h
  have hb := row_bl hr
  have hn := hb.1
  refine ⟨a, (zs.take len).map Int.toNat, cap, by rw [hn]; exact hc, by rw [hn]; exact hb, by rw [hn]; exact (row_len hr).1, hq (kept_all hw)⟩
theorem elem_body (b o : Nat) (cs : List Value) (n : Nat) (y : DataW H × List MemPlace) (hc : ∀ j, j < 1 → W.cell? ⟨b, o + j, none⟩ = cs[j]?) (hl : cs.length = 1) (h : DataW.trod enc Try.prog W base (fun _ => true) true n 29 cs = some y) (hw : Kept (y.1.weights Try.prog 29)) :
    ∃ l, QB W b o l := by
  match cs, hl with
  | [c], _ =>
    obtain ⟨A, l, cap, rfl, h1, h2, h3⟩ := fld_body h hw
    exact ⟨l, A, cap, hc 0 (by omega), h1, h2, h3⟩
/-- a frame in five cells -/
def QF (W : World) (b o : Nat) (f : Fm) : Prop := ∃ A c, (W.cell? ⟨b, o, none⟩ = some (.int .i64 f.v) ∧ W.cell? ⟨b, o + 1, none⟩ = some (.int .i64 f.e) ∧ W.cell? ⟨b, o + 2, none⟩ = some (.int .i64 f.s) ∧ W.cell? ⟨b, o + 3, none⟩ = some (.int .i64 f.a) ∧ W.cell? ⟨b, o + 4, none⟩ = some (.slice A f.body.length c)) ∧
  BL W A f.body.length f.body ∧ f.body.length ≤ c ∧ c ≤ 140737488351232 ∧ f.s ≤ 9223372036854775807
theorem five {b o : Nat} {cs : List Value} (hc : ∀ j, j < 5 → W.cell? ⟨b, o + j, none⟩ = cs[j]?) {x0 x1 x2 x3 x4 : Value} (he : cs = [x0, x1, x2, x3, x4]) :
    W.cell? ⟨b, o, none⟩ = some x0 ∧ W.cell? ⟨b, o + 1, none⟩ = some x1 ∧ W.cell? ⟨b, o + 2, none⟩ = some x2 ∧ W.cell? ⟨b, o + 3, none⟩ = some x3 ∧ W.cell? ⟨b, o + 4, none⟩ = some x4 := by
  subst he
  exact ⟨hc 0 (by omega), hc 1 (by omega), hc 2 (by omega), hc 3 (by omega), hc 4 (by omega)⟩
theorem int_le {n : Int} (h : (Lit.int .i64 n).wf = true) : -9223372036854775808 ≤ n ∧ n ≤ 9223372036854775807 := bounds_i64 h
/-- five cells that read as a frame -/
theorem cells_frame {n : Nat} {cs : List Value} {x : DataW H × List MemPlace} (h : DataW.trod enc Try.prog W base (fun _ => true) true n 31 cs = some x) (hw : Kept (x.1.weights Try.prog 31)) :
    ∃ (f : Fm) (A : Option Addr) (c : Nat), cs = [.int .i64 f.v, .int .i64 f.e, .int .i64 f.s, .int .i64 f.a, .slice A f.body.length c] ∧ BL W A f.body.length f.body ∧ f.body.length ≤ c ∧ c ≤ 140737488351232 ∧ f.s ≤ 9223372036854775807 := by
  obtain ⟨xs, m, _, hx, hcl, hlen, hg⟩ := DataW.trod_struct Try.underlying31 h
  have hone := hone_of frame_one
  simp only [Try.underlying31] at hone
  rw [frame_cells] at hcl
  match cs, hcl with
  | [c0, c1, c2, c3, c4], _ =>
    match xs, hlen with
    | [y0, y1, y2, y3, y4], _ =>
      obtain ⟨o0, k0⟩ := hone 0 _ rfl
      obtain ⟨o1, k1⟩ := hone 1 _ rfl
      obtain ⟨o2, k2⟩ := hone 2 _ rfl
      obtain ⟨o3, k3⟩ := hone 3 _ rfl
      obtain ⟨o4, k4⟩ := hone 4 _ rfl
      have g0 := hg 0 _ rfl
      have g1 := hg 1 _ rfl
      have g2 := hg 2 _ rfl
      have g3 := hg 3 _ rfl
      have g4 := hg 4 _ rfl
      rw [o0, k0] at g0
      rw [o1, k1] at g1
      rw [o2, k2] at g2
      rw [o3, k3] at g3
      rw [o4, k4] at g4
      change DataW.trod enc Try.prog W base _ _ m 3 [c0] = some y0 at g0
      change DataW.trod enc Try.prog W base _ _ m 3 [c1] = some y1 at g1
      change DataW.trod enc Try.prog W base _ _ m 3 [c2] = some y2 at g2
      change DataW.trod enc Try.prog W base _ _ m 3 [c3] = some y3 at g3
      change DataW.trod enc Try.prog W base _ _ m 29 [c4] = some y4 at g4
      obtain ⟨x0, e0, _, _⟩ := DataW.trod_int Try.underlying3 g0
      obtain ⟨x1, e1, _, _⟩ := DataW.trod_int Try.underlying3 g1
      obtain ⟨x2, e2, _, hx2⟩ := DataW.trod_int Try.underlying3 g2
      obtain ⟨x3, e3, _, _⟩ := DataW.trod_int Try.underlying3 g3
      obtain ⟨A, l, cap, e4, hb, hl, hm⟩ := fld_body g4 (fun z hz => hw z (by
        rw [hx]
        simp only [DataW.weights, Try.underlying31]
        exact DataW.weights_mem_each (j := 4) (t := 29) (d := y4.1) rfl rfl z hz))
      simp only [List.cons.injEq, and_true] at e0 e1 e2 e3
      subst e0 e1 e2 e3 e4
      exact ⟨⟨x0, x1, x2, x3, l⟩, A, cap, rfl, hb, hl, hm, (int_le hx2).2⟩
theorem elem_frame (b o : Nat) (cs : List Value) (n : Nat) (y : DataW H × List MemPlace) (hc : ∀ j, j < 5 → W.cell? ⟨b, o + j, none⟩ = cs[j]?) (_ : cs.length = 5) (h : DataW.trod enc Try.prog W base (fun _ => true) true n 31 cs = some y) (hw : Kept (y.1.weights Try.prog 31)) :
    ∃ f, QF W b o f := by
  obtain ⟨f, A, c, he, h1, h2, h3, h4⟩ := cells_frame h hw
  exact ⟨f, A, c, five hc he, h1, h2, h3, h4⟩

/-! ### Arguments -/
/-- the n rows of k cells each at a are l -/
def Rs {α : Type} [Inhabited α] (W : World) (Q : World → Nat → Nat → α → Prop) (k : Nat) (a : Option Addr) (n : Nat) (l : List α) : Prop :=
  l.length = n ∧ n ≤ 9223372036854775807 ∧ (n = 0 ∨ ∃ b off, a = some ⟨b, off, none⟩ ∧ b < W.heap.size ∧ ∀ i, i < n → Q W b (off + i * k) (l.getD i default))
theorem kept_of {ts : List TypeId} {ds : List (DataW H)} (hsz : (DataW.weightsEach Try.prog ts ds).all (· ≤ reachBytes) = true) {j : Nat} {t : TypeId} {d : DataW H} (hj : ts[j]? = some t) (hd : ds[j]? = some d) : Kept (d.weights Try.prog t) := by
  intro z hz
  have := List.all_eq_true.1 hsz z (DataW.weights_mem_each hj hd z hz)
  exact of_decide_eq_true (p := z ≤ reachBytes) this
theorem open_bodies {r : Reach} {b0 : Nat} {v : Value} {d : DataW H} {p : List MemPlace} {ts : List TypeId} {ds : List (DataW H)} (j : Nat)
    (hv : Value.okWide Try.prog W r b0 25 v) (h : DataW.Trod enc Try.prog W base (fun _ => true) true 25 v d p)
    (hsz : (DataW.weightsEach Try.prog ts ds).all (· ≤ reachBytes) = true) (hj : ts[j]? = some 25) (hd : ds[j]? = some d) :
    ∃ a len cap l, v = .slice a len cap ∧ Rs W QB 1 a len l := by
  obtain ⟨a, len, cap, rfl⟩ := okWide_slice Try.underlying25 hv
  obtain ⟨fuel, hf⟩ := h
  obtain ⟨a', len', cap', l, e, h1, h2, h3⟩ := open_rows Try.underlying25 (by kernel_rfl) (by omega) (QB W) elem_body (by simpa [Value.cells] using hf) (kept_of hsz hj hd)
  cases e
  exact ⟨a, len, cap, l, rfl, h1, h2, h3⟩
instance : Inhabited Fm := ⟨⟨0, 0, 0, 0, []⟩⟩
theorem open_frames {r : Reach} {b0 : Nat} {v : Value} {d : DataW H} {p : List MemPlace} {ts : List TypeId} {ds : List (DataW H)} (j : Nat)
    (hv : Value.okWide Try.prog W r b0 43 v) (h : DataW.Trod enc Try.prog W base (fun _ => true) true 43 v d p)
    (hsz : (DataW.weightsEach Try.prog ts ds).all (· ≤ reachBytes) = true) (hj : ts[j]? = some 43) (hd : ds[j]? = some d) :
    ∃ a len cap l, v = .slice a len cap ∧ Rs W QF 5 a len l := by
  obtain ⟨a, len, cap, rfl⟩ := okWide_slice Try.underlying43 hv
  obtain ⟨fuel, hf⟩ := h
  obtain ⟨a', len', cap', l, e, h1, h2, h3⟩ := open_rows Try.underlying43 (by kernel_rfl) (by omega) (QF W) elem_frame (by simpa [Value.cells] using hf) (kept_of hsz hj hd)
  cases e
  exact ⟨a, len, cap, l, rfl, h1, h2, h3⟩
end
end Go.Proofs.Ythiadkpndemeeaa.lnkP
