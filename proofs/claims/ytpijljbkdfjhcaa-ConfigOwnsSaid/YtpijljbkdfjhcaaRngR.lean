/- A range over a function whose iterator hands out values that bear memory: what is told of a value in the world of its yield (R) reaches the body. A law of this repo's own over the base law of ranges. -/
import Derived.RangeFuncFrom
import Derived.Lib.Hide
namespace Go.Proofs.Ytpijljbkdfjhcaa.rngR
open Go.RowKit

variable {F : Fence} {n : Nat} {P : Program} {α : Type}

/-- The iterator's word: every value that it hands out is R in the world in which it hands it out. -/
def Reads (F : Fence) (n : Nat) (P : Program) (g : Nat) (lb : Array Value) (encs : α → Array Value) (Kp : World → World → Prop) (R : List α → α → World → Prop) (S Sp : List α → Prop) (w : World) : Prop :=
  ∀ (l : Nat) (J Jx : List α → World → Prop) (W : World), Below w.heap.size w W → AbidesFrom W.heap.size J → AbidesFrom W.heap.size Jx →
    (∀ pre x V, J pre V → R pre x V → YieldAt F (n - 1) P l (encs x) V fun e V' => (e = .returned (.bool true) ∧ J (pre ++ [x]) V' ∧ Kp V V') ∨ (e = .returned (.bool false) ∧ Jx (pre ++ [x]) V')) →
    J [] W → CallsIn F n P g (#[.func (.yield l) #[] #[]] ++ lb) W fun e V => (∃ v, e = .returned v) ∧ ((∃ xs, S xs ∧ J xs V) ∨ (∃ pre, Sp pre ∧ Jx pre V))
/-- The loop's own two blocks. -/
structure Book (D : Nat) (r : Loop) (W : World) : Prop where
  loop : W.heap[D + 1]? = some (.loop r)
  defs : W.heap[D]? = some (.deferred (some []))
theorem Book.lt {D : Nat} {r : Loop} {W : World} (h : Book D r W) : D + 1 < W.heap.size := (Array.getElem?_eq_some_iff.1 h.loop).1
theorem Book.turn {D : Nat} {r : Loop} {W : World} (h : Book D r W) (r' : Loop) : Book D r' (W.putObj (D + 1) (.loop r')) :=
  ⟨World.putObj_heap_same h.lt, (World.putObj_heap_other (by omega)).trans h.defs⟩
theorem Book.keeps {D : Nat} {r : Loop} {W W' : World} (h : Book D r W) (hk : KeepsOthers W W') : Book D r W' := ⟨hk.same _ _ h.loop rfl, hk.same _ _ h.defs rfl⟩
theorem Book.grown {D : Nat} {r : Loop} {W W' : World} {row : Option Nat} (h : Book D r W) (hg : W.grownBy W' row) (hr : ∀ k, row = some k → D + 2 ≤ k) : Book D r W' :=
  ⟨(hg.block _ h.lt (fun e => by have := hr _ e.symm; omega)).trans h.loop, (hg.block _ (by have := h.lt; omega) (fun e => by have := hr _ e.symm; omega)).trans h.defs⟩
theorem own_turn {β : Type} {D : Nat} {I : β → World → Prop} (hI : OwnFrom D I) {s : β} {r : Loop} {W : World} (h : Book D r W) (hs : I s W) (r' : Loop) : I s (W.putObj (D + 1) (.loop r')) :=
  hI.putObj _ hs (by omega) h.loop rfl
theorem range_reads {g : Operand} {ps : Array Tmp} {assign body : Code} {Q : Exit → Act → World → Prop} {a : Act} {w : World}
    (hro : F.round = none) (h1 : 1 ≤ n) {gf : Nat} {lb : Array Value} (hg : a.eval g = .func (.func gf) #[] lb) (hFg : F.fn gf) (eg : ∀ args w, (callFunc gf args).run P w = .ok (.enter gf args) w)
    {encs : α → Array Value} {Kp : World → World → Prop} {R : List α → α → World → Prop} {S Sp : List α → Prop} (hseq : Reads F (n - 1) P gf lb encs Kp R S Sp w)
    (hKt : ∀ {A B C : World}, Kp A B → Kp B C → Kp A C) (hKb : ∀ (W : World) (l : Nat) (o o' : Obj), w.heap.size ≤ l → W.heap[l]? = some o → o.isCells = false → o.isWalk = false → Kp W (W.putObj l o'))
    (hps : ∀ x, (encs x).size = ps.size) (I : List α → World → Prop) (Ix : Code → List α → World → Prop) (hI : OwnFrom w.heap.size I) (hIx : ∀ c, OwnFrom w.heap.size (Ix c)) (hR : ∀ pre, OwnFrom w.heap.size (R pre)) (h0 : I [] w) (ob : α → Obj) (hKa : ∀ (W : World) (o : Obj), Kp W (W.alloc o)) (a₁ : α → Nat → Act)
    (hassign : ∀ (l : Nat) (x : α) (W : World) (b : Nat) (K : Act → World → Prop), b = W.heap.size → K (a₁ x b) (W.alloc (ob x)) →
      assign.wpIn (F.inRound l) (n - 1 - 1) P (Exit.then K (fun _ _ _ => False)) { tmps := (ps.zip (encs x)).foldl (fun t (p, v) => t.setIfInBounds p v) a.tmps, defers := [] } W)
    (hbody : ∀ (l : Nat) (pre : List α) (x : α) (b : Nat) (W : World), w.heap.size ≤ b → W.heap[b]? = some (ob x) → I pre W → R pre x W → body.wpIn (F.inRound l) (n - 1 - 1) P (ownPostK Kp I Ix (pre ++ [x]) W) (a₁ x b) W)
    (hdone : ∀ (D : Nat) (xs : List α) (W : World), w.heap.size ≤ D → S xs → I xs W → W.heap[D]? = some (.deferred (some [])) → Q .normal { a with defers := { target := .collected D, args := #[] } :: a.defers } W)
    (hstop : ∀ (D : Nat) (c : Code) (pre : List α) (W : World), w.heap.size ≤ D → Sp pre → Ix c pre W → W.heap[D]? = some (.deferred (some [])) → c.wpIn F n P Q { a with defers := { target := .collected D, args := #[] } :: a.defers } W) :
    (Code.rangeFunc g ps assign body).wpIn F n P Q a w := by
  refine wpIn_rangeFunc fun fn hfn => ?_
  rw [hro]
  have hwh := World.alloc_heap_new w (.deferred (some []))
  generalize hr : ({ state := .ready, pending := none, fn, tmps := a.tmps, params := ps, assign, body, defers := w.heap.size } : Loop) = r0
  have hst : r0.state = .ready := by rw [← hr]
  have hfields : r0.fn = fn ∧ r0.tmps = a.tmps ∧ r0.params = ps ∧ r0.assign = assign ∧ r0.body = body := by rw [← hr]; exact ⟨rfl, rfl, rfl, rfl, rfl⟩
  obtain ⟨e1, e2, e3, e4, e5⟩ := hfields
  have hbk : Book w.heap.size r0 ((w.alloc (.deferred (some []))).alloc (.loop r0)) :=
    ⟨by have := World.alloc_heap_new (w.alloc (.deferred (some []))) (.loop r0); rwa [World.size_alloc] at this, (Below.heap_alloc _ _ _ (by simp)).trans hwh⟩
  have hsz : ((w.alloc (.deferred (some []))).alloc (.loop r0)).heap.size = w.heap.size + 2 := by simp
  have hI1 := hI.alloc (.loop r0) (hI.alloc (.deferred (some [])) h0)
  have hB1 : Below w.heap.size w ((w.alloc (.deferred (some []))).alloc (.loop r0)) := ((Below.refl _ w).alloc (Nat.le_refl _) _).alloc (by simp) _
  have hen := run_enterLoop_outer (P := P) (w := w) fn a.tmps ps assign body
  rw [hr] at hen
  generalize (w.alloc (.deferred (some []))).alloc (.loop r0) = W1 at *
  refine ⟨w.heap.size + 1, [{ target := .collected w.heap.size, args := #[] }], W1, { target := .fn (.func gf) lb, args := #[.func (.yield (w.heap.size + 1)) #[] #[]] }, W1, gf, #[.func (.yield (w.heap.size + 1)) #[] #[]] ++ lb, W1, hen, ?_, ?_, ?_, fun _ => h1, ?_⟩
  · simp only [resolve, hg]
    simp [go_sem]
  · intro f' hf'
    simp [Target.leads] at hf'
    subst hf'
    exact hFg
  · simp [invoke, go_sem, eg]
  have hfar : ∀ {A : World} {row : Option Nat}, (∀ k, row = some k → W1.heap.size ≤ k ∧ ∃ o : Obj, A.heap[k]? = some o ∧ o.isWalk = true) → (∀ k, row = some k → w.heap.size ≤ k ∧ ∃ o : Obj, A.heap[k]? = some o ∧ o.isCells = false) ∧ (∀ k, row = some k → w.heap.size + 2 ≤ k) := fun h =>
    ⟨fun k e => by obtain ⟨q1, o, q2, q3⟩ := h k e; exact ⟨by omega, o, q2, Obj.not_cells_of_walk q3⟩, fun k e => by have := (h k e).1; omega⟩
  refine (hseq (w.heap.size + 1) (fun pre W => I pre W ∧ Book w.heap.size r0 W) (fun pre W => ∃ c, Ix c pre W ∧ Book w.heap.size { r0 with state := .done, pending := some c } W) W1 hB1
    (fun s A B row h hgr hrow => ⟨hI s A B row h.1 hgr (hfar hrow).1, h.2.grown hgr (hfar hrow).2⟩)
    (fun s A B row ⟨c, h, hb⟩ hgr hrow => ⟨c, hIx c s A B row h hgr (hfar hrow).1, hb.grown hgr (hfar hrow).2⟩) ?_ ⟨hI1, hbk⟩).mono ?_
  · -- a round
    rintro pre x V ⟨hi, hb⟩ hx
    have hy := run_yield (P := P) (args := encs x) hb.loop (by rw [e3]; exact hps x)
    rw [e1, e2, e3, e4, e5] at hy
    have hbA := hb.keeps (KeepsOthers.alloc V (ob x))
    have hiA := hI.alloc (ob x) hi
    have hxA := (hR pre).alloc (ob x) hx
    have hnew := World.alloc_heap_new V (ob x)
    have hkA := hKa V (ob x)
    have hVl := hb.lt
    refine ⟨fn, _, assign, body, hy, roundIn_of_wpIn hfn (hassign _ x V _ _ rfl ⟨_, run_beginRound hbA.loop hst, ?_⟩)⟩
    generalize hbn : V.heap.size = b at *
    generalize V.alloc (ob x) = V0 at *
    have hb2 := hbA.turn { r0 with state := .busy }
    have hk1 : Kp V (V0.putObj (w.heap.size + 1) (.loop { r0 with state := .busy })) := hKt hkA (hKb _ _ _ _ (by omega) hbA.loop rfl rfl)
    refine wpIn_mono (hbody _ pre x b _ (by omega) ((World.putObj_heap_other (by omega)).trans hnew) (own_turn hI hbA hiA _) (own_turn (hR pre) hbA hxA _)) ?_
    have out : ∀ (c : Code) (V' : World), KeepsOthers (V0.putObj (w.heap.size + 1) (.loop { r0 with state := .busy })) V' → Ix c (pre ++ [x]) V' →
        ∃ v V'', (Instr.endRound (w.heap.size + 1) (some c)).run P V' = .ok v V'' ∧ ((Ending.returned v = .returned (.bool true) ∧ (I (pre ++ [x]) V'' ∧ Book w.heap.size r0 V'') ∧ Kp V V'') ∨ (Ending.returned v = .returned (.bool false) ∧ ∃ c, Ix c (pre ++ [x]) V'' ∧ Book w.heap.size { r0 with state := .done, pending := some c } V'')) := fun c V' hk hix => by
      have hb3 := hb2.keeps hk
      exact ⟨_, _, run_endRound (some c) hb3.loop, .inr ⟨rfl, c, own_turn (hIx c) hb3 hix _, hb3.turn _⟩⟩
    rintro e a3 V' hp
    cases e with
    | normal =>
      obtain ⟨hk, hkp, hi3⟩ := hp
      have hb3 := hb2.keeps hk
      refine ⟨_, _, run_endRound none hb3.loop, .inl ⟨rfl, ⟨own_turn hI hb3 hi3 _, ?_⟩, hKt (hKt hk1 hkp) (hKb _ _ _ _ (by omega) hb3.loop rfl rfl)⟩⟩
      have h9 := hb3.turn { r0 with state := .ready, pending := none }
      have e9 : ({ r0 with state := .ready, pending := none } : Loop) = r0 := by rw [← hr]
      conv at h9 => arg 2; rw [e9]
      exact h9
    | ret => exact out .ret V' hp.1 hp.2
    | exit id => exact out (.exit id) V' hp.1 hp.2
    | goto t => exact out (.goto t) V' hp.1 hp.2
    | panic ch => exact hp.elim
    | outgrown => exact hp.elim
  · -- behind the iterator
    rintro e V ⟨⟨v, rfl⟩, ⟨xs, hS, hi, hb⟩ | ⟨pre, hSp, c, hi, hb⟩⟩
    · refine ⟨_, _, run_endLoop hb.loop (by rw [hst]; decide), ?_⟩
      have hpn : r0.pending = none := by rw [← hr]
      rw [hpn]
      exact hdone _ xs _ (Nat.le_refl _) hS (own_turn hI hb hi _) (hb.turn _).defs
    · exact ⟨_, _, run_endLoop hb.loop (by simp), hstop _ c pre _ (Nat.le_refl _) hSp (own_turn (hIx c) hb hi _) (hb.turn _).defs⟩
end Go.Proofs.Ytpijljbkdfjhcaa.rngR
