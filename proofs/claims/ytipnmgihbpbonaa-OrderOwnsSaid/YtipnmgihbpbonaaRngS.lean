/- As RngR's law, where the assignment makes no box: a range over a function whose iterator hands out values that bear memory: what is told of a value in the world of its yield (R) reaches the body. A law of this repo's own over the base law of ranges. -/
import Derived.RangeFuncFrom
import Derived.Lib.Hide
import Derived.Test.YtipnmgihbpbonaaRngR
namespace Go.Proofs.Ytipnmgihbpbonaa.rngS
open Go.RowKit rngR

variable {F : Fence} {n : Nat} {P : Program} {α : Type}

theorem range_reads0 {g : Operand} {ps : Array Tmp} {assign body : Code} {Q : Exit → Act → World → Prop} {a : Act} {w : World}
    (hro : F.round = none) (h1 : 1 ≤ n) {gf : Nat} {lb : Array Value} (hg : a.eval g = .func (.func gf) #[] lb) (hFg : F.fn gf) (eg : ∀ args w, (callFunc gf args).run P w = .ok (.enter gf args) w)
    {encs : α → Array Value} {Kp : World → World → Prop} {R : List α → α → World → Prop} {S Sp : List α → Prop} (hseq : Reads F (n - 1) P gf lb encs Kp R S Sp w)
    (hKt : ∀ {A B C : World}, Kp A B → Kp B C → Kp A C) (hKb : ∀ (W : World) (l : Nat) (o o' : Obj), w.heap.size ≤ l → W.heap[l]? = some o → o.isCells = false → o.isWalk = false → Kp W (W.putObj l o'))
    (hps : ∀ x, (encs x).size = ps.size) (I : List α → World → Prop) (Ix : Code → List α → World → Prop) (hI : OwnFrom w.heap.size I) (hIx : ∀ c, OwnFrom w.heap.size (Ix c)) (hR : ∀ pre, OwnFrom w.heap.size (R pre)) (h0 : I [] w) (a₁ : α → Act)
    (hassign : ∀ (l : Nat) (x : α) (W : World) (K : Act → World → Prop), K (a₁ x) W →
      assign.wpIn (F.inRound l) (n - 1 - 1) P (Exit.then K (fun _ _ _ => False)) { tmps := (ps.zip (encs x)).foldl (fun t (p, v) => t.setIfInBounds p v) a.tmps, defers := [] } W)
    (hbody : ∀ (l : Nat) (pre : List α) (x : α) (W : World), w.heap.size + 2 ≤ W.heap.size → I pre W → R pre x W → body.wpIn (F.inRound l) (n - 1 - 1) P (ownPostK Kp I Ix (pre ++ [x]) W) (a₁ x) W)
    (hdone : ∀ (D : Nat) (xs : List α) (W : World), w.heap.size ≤ D → S xs → I xs W → W.heap[D]? = some (.deferred (some [])) → Q .normal { a with defers := { target := .collected D, args := #[] } :: a.defers } W)
    (hstop : ∀ (D : Nat) (c : Code) (pre : List α) (W : World), w.heap.size ≤ D → Sp pre → Ix c pre W → W.heap[D]? = some (.deferred (some [])) → c.wpIn F n P Q { a with defers := { target := .collected D, args := #[] } :: a.defers } W) :
    (Code.rangeFunc g ps assign body).wpIn F n P Q a w := by
  refine wpIn_rangeFunc fun fn hfn => ?_
  rw [hro]
  have hwh := World.alloc_heap_new w (.deferred (some []))
  generalize hr : ({ state := .ready, pending := none, fn, tmps := a.tmps, params := ps, assign, body, defers := w.heap.size } : Loop) = r0
  have hst : r0.state = .ready := by rw [← hr]
  have hfields : r0.fn = fn ∧ r0.tmps = a.tmps ∧ r0.params = ps ∧ r0.assign = assign ∧ r0.body = body := by rw [← hr]; exact ⟨rfl, rfl, rfl, rfl, rfl⟩
  obtain ⟨e1, e2, e3, e4, e5⟩ := hfields
  have hbk : Book w.heap.size r0 ((w.alloc (.deferred (some []))).alloc (.loop r0)) :=
    ⟨by have := World.alloc_heap_new (w.alloc (.deferred (some []))) (.loop r0); rwa [World.size_alloc] at this, (Below.heap_alloc _ _ _ (by simp)).trans hwh⟩
  have hsz : ((w.alloc (.deferred (some []))).alloc (.loop r0)).heap.size = w.heap.size + 2 := by simp
  have hI1 := hI.alloc (.loop r0) (hI.alloc (.deferred (some [])) h0)
  have hB1 : Below w.heap.size w ((w.alloc (.deferred (some []))).alloc (.loop r0)) := ((Below.refl _ w).alloc (Nat.le_refl _) _).alloc (by simp) _
  have hen := run_enterLoop_outer (P := P) (w := w) fn a.tmps ps assign body
  rw [hr] at hen
  generalize (w.alloc (.deferred (some []))).alloc (.loop r0) = W1 at *
  refine ⟨w.heap.size + 1, [{ target := .collected w.heap.size, args := #[] }], W1, { target := .fn (.func gf) lb, args := #[.func (.yield (w.heap.size + 1)) #[] #[]] }, W1, gf, #[.func (.yield (w.heap.size + 1)) #[] #[]] ++ lb, W1, hen, ?_, ?_, ?_, fun _ => h1, ?_⟩
  · simp only [resolve, hg]
    simp [go_sem]
  · intro f' hf'
    simp [Target.leads] at hf'
    subst hf'
    exact hFg
  · simp [invoke, go_sem, eg]
  have hfar : ∀ {A : World} {row : Option Nat}, (∀ k, row = some k → W1.heap.size ≤ k ∧ ∃ o : Obj, A.heap[k]? = some o ∧ o.isWalk = true) → (∀ k, row = some k → w.heap.size ≤ k ∧ ∃ o : Obj, A.heap[k]? = some o ∧ o.isCells = false) ∧ (∀ k, row = some k → w.heap.size + 2 ≤ k) := fun h =>
    ⟨fun k e => by obtain ⟨q1, o, q2, q3⟩ := h k e; exact ⟨by omega, o, q2, Obj.not_cells_of_walk q3⟩, fun k e => by have := (h k e).1; omega⟩
  refine (hseq (w.heap.size + 1) (fun pre W => I pre W ∧ Book w.heap.size r0 W) (fun pre W => ∃ c, Ix c pre W ∧ Book w.heap.size { r0 with state := .done, pending := some c } W) W1 hB1
    (fun s A B row h hgr hrow => ⟨hI s A B row h.1 hgr (hfar hrow).1, h.2.grown hgr (hfar hrow).2⟩)
    (fun s A B row ⟨c, h, hb⟩ hgr hrow => ⟨c, hIx c s A B row h hgr (hfar hrow).1, hb.grown hgr (hfar hrow).2⟩) ?_ ⟨hI1, hbk⟩).mono ?_
  · -- a round
    rintro pre x V ⟨hi, hb⟩ hx
    have hy := run_yield (P := P) (args := encs x) hb.loop (by rw [e3]; exact hps x)
    rw [e1, e2, e3, e4, e5] at hy
    have hVl := hb.lt
    refine ⟨fn, _, assign, body, hy, roundIn_of_wpIn hfn (hassign _ x V _ ⟨_, run_beginRound hb.loop hst, ?_⟩)⟩
    have hb2 := hb.turn { r0 with state := .busy }
    have hk1 : Kp V (V.putObj (w.heap.size + 1) (.loop { r0 with state := .busy })) := hKb _ _ _ _ (by omega) hb.loop rfl rfl
    refine wpIn_mono (hbody _ pre x _ (by simp; omega) (own_turn hI hb hi _) (own_turn (hR pre) hb hx _)) ?_
    have out : ∀ (c : Code) (V' : World), KeepsOthers (V.putObj (w.heap.size + 1) (.loop { r0 with state := .busy })) V' → Ix c (pre ++ [x]) V' →
        ∃ v V'', (Instr.endRound (w.heap.size + 1) (some c)).run P V' = .ok v V'' ∧ ((Ending.returned v = .returned (.bool true) ∧ (I (pre ++ [x]) V'' ∧ Book w.heap.size r0 V'') ∧ Kp V V'') ∨ (Ending.returned v = .returned (.bool false) ∧ ∃ c, Ix c (pre ++ [x]) V'' ∧ Book w.heap.size { r0 with state := .done, pending := some c } V'')) := fun c V' hk hix => by
      have hb3 := hb2.keeps hk
      exact ⟨_, _, run_endRound (some c) hb3.loop, .inr ⟨rfl, c, own_turn (hIx c) hb3 hix _, hb3.turn _⟩⟩
    rintro e a3 V' hp
    cases e with
    | normal =>
      obtain ⟨hk, hkp, hi3⟩ := hp
      have hb3 := hb2.keeps hk
      refine ⟨_, _, run_endRound none hb3.loop, .inl ⟨rfl, ⟨own_turn hI hb3 hi3 _, ?_⟩, hKt (hKt hk1 hkp) (hKb _ _ _ _ (by omega) hb3.loop rfl rfl)⟩⟩
      have h9 := hb3.turn { r0 with state := .ready, pending := none }
      have e9 : ({ r0 with state := .ready, pending := none } : Loop) = r0 := by rw [← hr]
      conv at h9 => arg 2; rw [e9]
      exact h9
    | ret => exact out .ret V' hp.1 hp.2
    | exit id => exact out (.exit id) V' hp.1 hp.2
    | goto t => exact out (.goto t) V' hp.1 hp.2
    | panic ch => exact hp.elim
    | outgrown => exact hp.elim
  · -- behind the iterator
    rintro e V ⟨⟨v, rfl⟩, ⟨xs, hS, hi, hb⟩ | ⟨pre, hSp, c, hi, hb⟩⟩
    · refine ⟨_, _, run_endLoop hb.loop (by rw [hst]; decide), ?_⟩
      have hpn : r0.pending = none := by rw [← hr]
      rw [hpn]
      exact hdone _ xs _ (Nat.le_refl _) hS (own_turn hI hb hi _) (hb.turn _).defs
    · exact ⟨_, _, run_endLoop hb.loop (by simp), hstop _ c pre _ (Nat.le_refl _) hSp (own_turn (hIx c) hb hi _) (hb.turn _).defs⟩
end Go.Proofs.Ytipnmgihbpbonaa.rngS
