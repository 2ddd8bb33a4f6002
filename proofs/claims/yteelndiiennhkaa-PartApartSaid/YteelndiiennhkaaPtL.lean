/- A side in memory, the program's and the document's: worlds that change at blocks of one color alone; a map of numbers; rows of pairs of the call's own; what becomes of a side where one of its pieces is put anew. -/
import Derived.Test.YteelndiiennhkaaPtM
import Derived.Test.YteelndiiennhkaaGen
import Derived.Lib.Hide
import Derived.LoopTactic
import Derived.Below
import Derived.WalkLawsBesides
import Derived.Deep.RegionHeld3
import Derived.Deep.DrawnRows
import Derived.Deep.QuietTactic
import Derived.BigQuiet
import Derived.WalkSpells
import Derived.IntWalk
import Derived.Deep.OwnRows
import Derived.Maps.OwnOps
import Derived.Maps.OwnSet
import Derived.Maps.Views
set_option linter.unusedVariables false
set_option linter.unusedSimpArgs false
set_option maxRecDepth 100000
namespace Go.Proofs.Yteelndiiennhkaa.ptL
open Go.ChangeShapes Go.WideShapes Go.ChangeAt Go.RowKit Go.Deep
open opG opO hlcA gen ptM

theorem wrap_in (n : Int) (h1 : -9223372036854775808 ≤ n) (h2 : n ≤ 9223372036854775807) : IntKind.i64.wrap n = n := IntWalk.i64_in _ ⟨h1, h2⟩
theorem al0 (w : World) (o : Obj) : Below w.heap.size w (w.alloc o) := (Below.refl _ _).alloc (Nat.le_refl _) o
theorem trans0 {w w1 w2 : World} (h1 : Below w.heap.size w w1) (h2 : Below w1.heap.size w1 w2) : Below w.heap.size w w2 := h1.trans (h2.mono h1.size)
theorem bal {W X : World} (h : Below W.heap.size W X) (o : Obj) : Below W.heap.size W (X.alloc o) := h.alloc h.size o
theorem bdr {W X : World} (h : Below W.heap.size W X) : Below W.heap.size W X.drew := h.drew
theorem below_drew (w : World) : Below w.heap.size w w.drew := (Below.refl _ _).drew
theorem bdrN {B : Nat} {w w1 : World} (n : Nat) (h : Below B w w1) : Below B w (w1.drewN n) := ⟨h.os, h.tape, h.output, h.size, h.block⟩
theorem undrew {w w' : World} (h : Below w.drew.heap.size w.drew w') : Below w.heap.size w w' := ⟨h.os, h.tape, h.output, h.size, h.block⟩
theorem keep_cell {W W' : World} (hB : Below W.heap.size W W') {b o : Nat} {v : Value} (h : W.cell? ⟨b, o, none⟩ = some v) : W'.cell? ⟨b, o, none⟩ = some v :=
  (hB.cell (p := ⟨b, o, none⟩) (World.block_lt_of_cell? _ _ h)).trans h
theorem keep_frozen {W W' : World} (hB : Below W.heap.size W W') {b o : Nat} {v : Value} (h : W.cell? ⟨b, o, none⟩ = some v) (hf : W.frozen? ⟨b, o, none⟩ = false) : W'.frozen? ⟨b, o, none⟩ = false :=
  (hB.frozen (p := ⟨b, o, none⟩) (World.block_lt_of_cell? _ _ h)).trans hf
/-! ### Worlds that change at blocks of one color -/
structure Chg (col : Nat → Nat) (c : Nat) (w w' : World) : Prop where
  os : w'.os = w.os
  tape : w'.tape = w.tape
  output : w'.output = w.output
  size : w.heap.size ≤ w'.heap.size
  block : ∀ k, k < w.heap.size → col k ≠ c → w'.heap[k]? = w.heap[k]?
/-- the colors of what was there stay -/
def Ext (w : World) (col col' : Nat → Nat) : Prop := ∀ k, k < w.heap.size → col' k = col k
theorem Ext.refl (w : World) (col : Nat → Nat) : Ext w col col := fun _ _ => rfl
theorem Ext.trans {w w1 : World} {c0 c1 c2 : Nat → Nat} (h1 : Ext w c0 c1) (hs : w.heap.size ≤ w1.heap.size) (h2 : Ext w1 c1 c2) : Ext w c0 c2 := fun k hk => (h2 k (by omega)).trans (h1 k hk)
theorem Chg.refl (col : Nat → Nat) (c : Nat) (w : World) : Chg col c w w := ⟨rfl, rfl, rfl, Nat.le_refl _, fun _ _ _ => rfl⟩
theorem Chg.of_below {w w' : World} (col : Nat → Nat) (c : Nat) (h : Below w.heap.size w w') : Chg col c w w' := ⟨h.os, h.tape, h.output, h.size, fun k hk _ => h.block k hk⟩
theorem Chg.trans {col col' : Nat → Nat} {c : Nat} {w w1 w2 : World} (h : Chg col c w w1) (he : Ext w col col') (h2 : Chg col' c w1 w2) : Chg col c w w2 :=
  ⟨h2.os.trans h.os, h2.tape.trans h.tape, h2.output.trans h.output, Nat.le_trans h.size h2.size, fun k hk hc => (h2.block k (Nat.lt_of_lt_of_le hk h.size) (by rw [he k hk]; exact hc)).trans (h.block k hk hc)⟩
theorem Chg.tran {col : Nat → Nat} {c : Nat} {w w1 w2 : World} (h : Chg col c w w1) (h2 : Chg col c w1 w2) : Chg col c w w2 := h.trans (Ext.refl _ _) h2
theorem Chg.then {col : Nat → Nat} {c : Nat} {w w1 w2 : World} (h : Chg col c w w1) (h2 : Below w1.heap.size w1 w2) : Chg col c w w2 := h.tran (Chg.of_below _ _ h2)
theorem Chg.below {col : Nat → Nat} {c B : Nat} {w w' : World} (h : Chg col c w w') (hB : B ≤ w.heap.size) (hc : ∀ k, k < B → col k ≠ c) : Below B w w' :=
  ⟨h.os, h.tape, h.output, h.size, fun k hk => h.block k (by omega) (hc k hk)⟩
theorem Chg.grown {col : Nat → Nat} {c : Nat} {w w' : World} {row : Option Nat} (hg : w.grownBy w' row) (hr : ∀ k, row = some k → col k = c) : Chg col c w w' :=
  ⟨hg.os, hg.tape, hg.output, hg.size, fun k hk hc => hg.block k hk (fun e => hc (hr k e.symm))⟩
theorem Chg.setCell {col : Nat → Nat} {c : Nat} {w0 w : World} (h : Chg col c w0 w) {p : Addr} (hp : col p.block = c) (u : Value) : Chg col c w0 (w.setCell p u) :=
  h.tran ⟨rfl, rfl, rfl, by rw [World.size_setCell]; exact Nat.le_refl _, fun k _ hc => Below.heap_setCell w p u k (fun e => hc (by rw [e]; exact hp))⟩
theorem Chg.alloc {col : Nat → Nat} {c : Nat} {w0 w : World} (h : Chg col c w0 w) (o : Obj) : Chg col c w0 (w.alloc o) := h.then ((Below.refl _ _).alloc (Nat.le_refl _) o)
theorem Chg.drew {col : Nat → Nat} {c : Nat} {w0 w : World} (h : Chg col c w0 w) : Chg col c w0 w.drew := ⟨h.os, h.tape, h.output, h.size, h.block⟩
def Fresh (col : Nat → Nat) (w : World) : Prop := ∀ k, w.heap.size ≤ k → col k = 0
theorem Fresh.up {col : Nat → Nat} {w w1 : World} (h : Fresh col w) (hs : w.heap.size ≤ w1.heap.size) : Fresh col w1 := fun k hk => h k (by omega)
def Cn (c : Nat) (col : Nat → Nat) (w : World) (col' : Nat → Nat) (w' : World) : Prop := Ext w col col' ∧ Fresh col' w' ∧ Chg col c w w'
theorem Cn.trans {c : Nat} {c0 c1 c2 : Nat → Nat} {w w1 w2 : World} (h : Cn c c0 w c1 w1) (k : Cn c c1 w1 c2 w2) : Cn c c0 w c2 w2 :=
  ⟨h.1.trans h.2.2.size k.1, k.2.1, h.2.2.trans h.1 k.2.2⟩
theorem Cn.below {c : Nat} {col : Nat → Nat} {w w1 : World} (hf : Fresh col w) (hB : Below w.heap.size w w1) : Cn c col w col w1 := ⟨Ext.refl _ _, hf.up hB.size, Chg.of_below _ _ hB⟩
theorem Cn.setCell {c : Nat} {c0 c1 : Nat → Nat} {w w1 : World} (h : Cn c c0 w c1 w1) {p : Addr} (hp : c1 p.block = c) (u : Value) : Cn c c0 w c1 (w1.setCell p u) :=
  h.trans ⟨Ext.refl _ _, h.2.1.up (by rw [World.size_setCell]; exact Nat.le_refl _), (Chg.refl _ _ _).setCell hp u⟩
def paintB (col : Nat → Nat) (v : Value) (c : Nat) (k : Nat) : Nat := if v.ownBlock = some k then c else col k
theorem app_col {col : Nat → Nat} {c : Nat} {w w' : World} {v v' : Value} (hf : Fresh col w) (hv : ∀ k, v.ownBlock = some k → col k = c) (hg : w.grownBy w' v.ownBlock)
    (hlt : ∀ k, v'.ownBlock = some k → k < w'.heap.size) (hat : v'.ownBlock = v.ownBlock ∨ v'.ownBlock = some w.heap.size) :
    Cn c col w (paintB col v' c) w' ∧ ∀ k, v'.ownBlock = some k → paintB col v' c k = c := by
  refine ⟨⟨fun k hk => ?_, fun k hk => ?_, Chg.grown hg hv⟩, fun k e => if_pos e⟩
  · unfold paintB
    by_cases e : v'.ownBlock = some k
    · rw [if_pos e]
      rcases hat with h1 | h1
      · rw [h1] at e; exact (hv k e).symm
      · rw [h1] at e; have := Option.some.inj e; omega
    · rw [if_neg e]
  · unfold paintB
    rw [if_neg (fun e => by have := hlt k e; omega)]
    exact hf k (by have := hg.size; omega)
/-! ### Blocks by their type -/
def Ty (w : World) (k : Nat) (t : TypeId) : Prop := ∃ cur, w.heap[k]? = some (.cells cur t (0, 0))
theorem Ty.ne {w : World} {k k2 : Nat} {t t2 : TypeId} (h : Ty w k t) (h2 : Ty w k2 t2) (hne : t ≠ t2) : k ≠ k2 := by
  rintro rfl
  obtain ⟨c1, e1⟩ := h
  obtain ⟨c2, e2⟩ := h2
  rw [e1] at e2
  simp at e2
  exact hne e2.2
theorem Ty.of_row {w : World} {p n : Nat} {t : TypeId} {f : Nat → Value} (h : w.rowIs p t n f) : Ty w p t := by obtain ⟨c, hc, _⟩ := h; exact ⟨c, hc⟩
section
variable {H : Type} {P : Program} {kT : TypeId} {R : Value → Option (DataW H × List MemPlace)} {w w1 : World} {b n : Nat} {D : DataW H}
theorem Ty.nmap {k : Nat} {t : TypeId} (h : Ty w k t) (h2 : w.ownsMap P kT R b n D) : k ≠ b := by
  rintro rfl
  obtain ⟨c1, e1⟩ := h
  obtain ⟨es, cl, e2, _⟩ := h2
  rw [e1] at e2
  cases e2
theorem map_block (h : w.ownsMap P kT R b n D) (e : w1.heap[b]? = w.heap[b]?) : w1.ownsMap P kT R b n D := by
  obtain ⟨es, cl, hb, hr⟩ := h
  exact ⟨es, cl, e.trans hb, hr⟩
end
theorem own_block {w w' : World} {base n sz : Nat} {t : TypeId} {v : Value} {xs : List Value} (h : w.ownsRow base t sz v n xs) (e : ∀ k, v.ownBlock = some k → w'.heap[k]? = w.heap[k]?) : w'.ownsRow base t sz v n xs := by
  refine ⟨h.1, ?_⟩
  rcases h.2 with h | ⟨g, cap, cur, rfl, h1, h2, h3⟩
  · exact .inl h
  · exact .inr ⟨g, cap, cur, rfl, h1, (e g rfl).trans h2, h3⟩
theorem own_more {w : World} {base base' n sz : Nat} {t : TypeId} {v : Value} {xs : List Value} (h : w.ownsRow base t sz v n xs) (hb : base' ≤ base) : w.ownsRow base' t sz v n xs := by
  refine ⟨h.1, ?_⟩
  rcases h.2 with h | ⟨g, cap, cur, rfl, h1, h2, h3⟩
  · exact .inl h
  · exact .inr ⟨g, cap, cur, rfl, by omega, h2, h3⟩

/-! ### The map of what is prepared -/
abbrev TP : TypeId := 45
abbrev TD : TypeId := 29
abbrev TM : TypeId := 43
abbrev DM := DataW Unit
def lk (k : Int) : Lit := .int .u64 k
theorem lk_ne {k k' : Int} (h : k' ≠ k) : lk k' ≠ lk k := fun e => h (by cases e; rfl)
theorem lk_key (k : Int) : WideAt.IsKeyLit (lk k) := trivial
theorem law3 : Maps.Keyed Try.prog 26 := Maps.int_keyed Try.underlying26
abbrev MapIs (w : World) (b n : Nat) (D : DM) : Prop := w.ownsMap Try.prog 26 (plainElem Try.prog 26) b n D
theorem key_wf {k : Int} (h1 : 0 ≤ k) (h2 : k < 18446744073709551616) : (Lit.int .u64 k).wf = true := by simp [Lit.wf, IntKind.min, IntKind.max, IntKind.bits, IntKind.signed]; omega
theorem hkey {k : Int} (h1 : 0 ≤ k) (h2 : k < 18446744073709551616) : keyOf Try.prog 26 (.int .u64 k) = some (lk k) := Maps.keyOf_int_mk Try.underlying26 (key_wf h1 h2)
/-- what the map says -/
structure CR (os : List OP) (D : DM) : Prop where
  at_ : ∀ k : Int, match fnd os k with
    | none => Maps.has D (lk k) = false
    | some t => ∀ z, D.atKey (lk k) z = .lit (.int .u64 t)
  sz : Maps.size D = os.length
theorem cr_nil : CR [] (.map []) := ⟨fun k => rfl, rfl⟩
theorem cr_has {os : List OP} {D : DM} (h : CR os D) (k : Int) : Maps.has D (lk k) = (fnd os k).isSome := by
  have h1 := h.at_ k
  cases hf : fnd os k with
  | none => rw [hf] at h1; simpa using h1
  | some t => rw [hf] at h1; simpa using Maps.has_true_of_atKey h1
theorem cr_put {os : List OP} {D : DM} (h : CR os D) (hD : Maps.Tidy D) (hM : Maps.IsMap D) {k : Int} (hk : fnd os k = none) (t : Int) : CR (os ++ [(k, t)]) (D.put (lk k) (.lit (.int .u64 t))) := by
  refine ⟨fun x => ?_, ?_⟩
  · rw [fnd_app hk]
    by_cases e : x = k
    · rw [if_pos e]
      subst e
      exact fun z => Maps.atKey_put_same hM (lk_key _) _ _
    · rw [if_neg e]
      have h1 := h.at_ x
      cases hf : fnd os x with
      | none =>
        rw [hf] at h1
        simp only at h1 ⊢
        rw [Maps.has_put_other (lk_ne e)]; exact h1
      | some u =>
        rw [hf] at h1
        simp only at h1 ⊢
        exact fun z => by rw [Maps.atKey_put_other (lk_ne e)]; exact h1 z
  · have := cr_has h k
    rw [hk] at this
    rw [Maps.size_put hD, this, h.sz]
    simp
theorem cr_del {os : List OP} {D : DM} (h : CR os D) (hD : Maps.Tidy D) (hd : Dif os) {k t : Int} (hk : fnd os k = some t) : CR (rm os k) (D.del (lk k)) := by
  refine ⟨fun x => ?_, ?_⟩
  · rw [fnd_rm hd]
    by_cases e : x = k
    · rw [if_pos e]
      subst e
      exact Maps.has_del_same
    · rw [if_neg e]
      have h1 := h.at_ x
      cases hf : fnd os x with
      | none =>
        rw [hf] at h1
        simp only at h1 ⊢
        rw [Maps.has_del_other (lk_ne e)]; exact h1
      | some u =>
        rw [hf] at h1
        simp only at h1 ⊢
        exact fun z => by rw [Maps.atKey_del_other (lk_ne e)]; exact h1 z
  · have h1 := cr_has h k
    rw [hk] at h1
    have h2 := Maps.size_del hD (k := lk k)
    rw [h1, h.sz] at h2
    have := rm_len hk
    simp at h2
    omega
/-- a look into the map -/
theorem cr_look {w : World} {b n : Nat} {D : DM} {os : List OP} (h : CR os D) (hm : MapIs w b n D) {k : Int} (h1 : 0 ≤ k) (h2 : k < 18446744073709551616) :
    (Instr.lookup TM (.map (some b)) (.int .u64 k) true).run Try.prog w = .ok (.tuple #[.int .u64 ((fnd os k).getD 0), .bool (fnd os k).isSome]) w := by
  obtain ⟨v, ps, hr, hv⟩ := World.ownsMap.look_ok hm law3 Try.underlying43 (Try.zeroValue26 _) (plainElem_int Try.underlying26 (by decide : (Lit.int .u64 0).wf = true)) (hkey h1 h2)
  obtain ⟨c, rfl, e, _⟩ := plainElem_int_inv Try.underlying26 hv
  have h1 := h.at_ k
  rw [hr, cr_has h k]
  cases hf : fnd os k with
  | none =>
    rw [hf] at h1
    simp only at h1
    rw [Maps.atKey_of_not_has h1] at e
    simp only [Prod.mk.injEq, DataW.lit.injEq, Lit.int.injEq, true_and] at e
    rw [← e.1]; rfl
  | some u =>
    rw [hf] at h1
    simp only at h1
    rw [h1] at e
    simp only [Prod.mk.injEq, DataW.lit.injEq, Lit.int.injEq, true_and] at e
    rw [e.1]; rfl
theorem map_tight {w : World} {b n : Nat} {D : DM} {os : List OP} (hm : MapIs w b n D) (h : CR os D) : MapIs w b os.length D := by
  obtain ⟨es, cl, hb, hr, hn, rfl⟩ := hm
  refine ⟨es, cl, hb, hr, ?_, rfl⟩
  have := h.sz
  simp [Maps.size, length_sorted] at this
  omega
/-- a store into it -/
theorem cr_store {w : World} {b n : Nat} {D : DM} {os : List OP} (h : CR os D) (hm : MapIs w b n D) (hn : n < maxLen) {k t : Int} (h1 : 0 ≤ k) (h2 : k < 18446744073709551616) (t1 : 0 ≤ t) (t2 : t < 18446744073709551616) (hk : fnd os k = none) :
    ∃ w' D', (Instr.mapUpdate TM (.map (some b)) (.int .u64 k) (.int .u64 t)).run Try.prog w = .ok () w' ∧ MapIs w' b (os ++ [(k, t)]).length D' ∧ CR (os ++ [(k, t)]) D' ∧ w.mapTurned w' b := by
  obtain ⟨w', h3, h4, h5⟩ := World.ownsMap.store hm law3 Try.underlying43 hn (hkey h1 h2) (plainElem_int Try.underlying26 (key_wf t1 t2))
  have hc := cr_put h (hm.tidy law3) hm.isMap hk t
  exact ⟨w', _, h3, map_tight h4 hc, hc, h5⟩
/-- a deletion -/
theorem cr_drop {w : World} {b n : Nat} {D : DM} {os : List OP} (h : CR os D) (hm : MapIs w b n D) (hd : Dif os) {k t : Int} (h1 : 0 ≤ k) (h2 : k < 18446744073709551616) (hk : fnd os k = some t) (ty : TypeId) :
    ∃ w' D', (Builtin.delete_ #[TM, 26] ty #[.map (some b), .int .u64 k]).run Try.prog w = .ok (.tuple #[]) w' ∧ MapIs w' b (rm os k).length D' ∧ CR (rm os k) D' ∧ w.mapTurned w' b := by
  obtain ⟨w', h3, h4, h5⟩ := World.ownsMap.drop hm law3 Try.underlying43 (hkey h1 h2) ty
  have hc := cr_del h (hm.tidy law3) hd hk
  exact ⟨w', _, h3, map_tight h4 hc, hc, h5⟩
theorem cr_len {w : World} {b n : Nat} {D : DM} {os : List OP} (h : CR os D) (hm : MapIs w b n D) (ty : TypeId) : (Builtin.len_ #[TM] ty #[.map (some b)]).run Try.prog w = .ok (.int .i64 (os.length : Int)) w := by
  rw [World.ownsMap.len hm Try.underlying43 ty, h.sz]
/-- between the steps of going through it -/
structure RL (os : List OP) (c : Int) (left : Lit → Bool) (s : Int) : Prop where
  lo : s ≤ c
  all : ∀ k t, fnd os k = some t → left (lk k) = false → s ≤ t - 1
  one : s = c ∨ ∃ x ∈ os, s = x.2 - 1
theorem rl_start {os : List OP} {D : DM} (h : CR os D) (c : Int) : RL os c (Maps.has D) c := ⟨Int.le_refl _, fun k t hk hl => (by rw [cr_has h k, hk] at hl; cases hl), .inl rfl⟩
theorem strike_ne {left : Lit → Bool} {x k : Int} (h : k ≠ x) : (left (lk k) && !(lk k).sameKey (lk x)) = left (lk k) := by
  rw [Maps.sameKey_ne (lk_ne h)]; simp
theorem cr_was {os : List OP} {D : DM} (h : CR os D) {x c : Int} (hc : ∀ z, D.atKey (lk x) z = .lit (.int .u64 c)) : fnd os x = some c := by
  have h1 := h.at_ x
  have ht := Maps.has_true_of_atKey hc
  cases hf : fnd os x with
  | none => rw [hf] at h1; simp only at h1; rw [ht] at h1; cases h1
  | some v =>
    rw [hf] at h1
    simp only at h1
    have := (h1 .nil).symm.trans (hc .nil)
    simp only [DataW.lit.injEq, Lit.int.injEq, true_and] at this
    rw [this]
theorem RL.step {os : List OP} {c s x t : Int} {left : Lit → Bool} (h : RL os c left s) (hx : fnd os x = some t) : RL os c (fun z => left z && !z.sameKey (lk x)) (min s (t - 1)) := by
  refine ⟨by have := h.lo; omega, fun k u hk hl => ?_, ?_⟩
  · by_cases e : k = x
    · subst e; rw [hx] at hk; cases hk; omega
    · simp only [strike_ne e] at hl
      have := h.all k u hk hl
      omega
  · rcases Int.le_total s (t - 1) with h1 | h1
    · rw [Int.min_eq_left h1]; exact h.one
    · rw [Int.min_eq_right h1]; exact .inr ⟨_, fnd_mem hx, rfl⟩
theorem RL.done {os : List OP} {c s : Int} {left : Lit → Bool} (h : RL os c left s) (hd : Dif os) (hl : ∀ z, left z = false) : s = stb os c :=
  stb_eq ⟨h.lo, fun x hx => h.all x.1 x.2 (fnd_of_mem hd hx) (hl _), h.one⟩
/-! ### The program's side -/
def cP (ck : Int) (m : Value) (k : Nat) : Value := if k = 0 then .int .u64 ck else m
theorem two {i : Nat} (hi : i < 2) : i = 0 ∨ i = 1 := by omega
structure SideM (col : Nat → Nat) (c : Nat) (w : World) (p : Nat) (ck : Int) (os : List OP) (mb : Nat) (D : DM) : Prop where
  row : w.rowIs p TP 2 (cP ck (.map (some mb)))
  mp : MapIs w mb os.length D
  cr : CR os D
  cp : col p = c
  km : col mb = c
section
variable {col col' : Nat → Nat} {c d : Nat} {w w1 : World} {p mb : Nat} {ck : Int} {os os' : List OP} {D D' : DM}
theorem SideM.other (h : SideM col c w p ck os mb D) (hg : Chg col d w w1) (hcd : c ≠ d) (he : Ext w col col') : SideM col' c w1 p ck os mb D where
  row := h.row.of_block (hg.block p h.row.lt (by rw [h.cp]; exact hcd))
  mp := map_block h.mp (hg.block mb h.mp.lt (by rw [h.km]; exact hcd))
  cr := h.cr
  cp := (he p h.row.lt).trans h.cp
  km := (he mb h.mp.lt).trans h.km
theorem SideM.cells (h : SideM col c w p ck os mb D) : w.cell? ⟨p, 0, none⟩ = some (.int .u64 ck) ∧ w.cell? ⟨p, 1, none⟩ = some (.map (some mb)) ∧ w.frozen? ⟨p, 0, none⟩ = false :=
  ⟨h.row.cell (i := 0) (by omega), h.row.cell (i := 1) (by omega), h.row.frozen 0⟩
theorem SideM.ne (h : SideM col c w p ck os mb D) : p ≠ mb := (Ty.of_row h.row).nmap h.mp
theorem SideM.setC (h : SideM col c w p ck os mb D) (a : Int) : Chg col c w (w.setCell ⟨p, 0, none⟩ (.int .u64 a)) ∧ SideM col c (w.setCell ⟨p, 0, none⟩ (.int .u64 a)) p a os mb D :=
  ⟨(Chg.refl _ _ _).setCell h.cp _, { h with row := (h.row.set 0 _).congr fun i hi => (by rcases two hi with rfl | rfl <;> rfl), mp := map_block h.mp (Below.heap_setCell _ _ _ _ h.ne.symm) }⟩
theorem SideM.turned (h : SideM col c w p ck os mb D) (ht : w.grownBy w1 (some mb)) (hm : MapIs w1 mb os'.length D') (hr : CR os' D') : Chg col c w w1 ∧ SideM col c w1 p ck os' mb D' :=
  ⟨Chg.grown ht fun k e => by cases e; exact h.km, { h with row := h.row.of_block (ht.block p h.row.lt (fun e => h.ne (Option.some.inj e))), mp := hm, cr := hr }⟩
end
/-! ### Rows of pairs -/
def pl (x : OP) : List Value := [.int .u64 x.1, .int .u64 x.2]
def fp (l : List OP) : List Value := (l.map pl).flatten
theorem fp_cons (x : OP) (l : List OP) : fp (x :: l) = pl x ++ fp l := rfl
theorem fp_app (a b : List OP) : fp (a ++ b) = fp a ++ fp b := by simp [fp]
theorem fp_one (x : OP) : fp [x] = pl x := by simp [fp]
theorem fp_len : ∀ l : List OP, (fp l).length = l.length * 2
  | [] => rfl
  | x :: l => by rw [fp_cons, List.length_append, fp_len l]; simp [pl]; omega
theorem fp_get : ∀ {l : List OP} {i j : Nat} {x : OP} {u : Value}, l[i]? = some x → (pl x)[j]? = some u → (fp l)[i * 2 + j]? = some u
  | [], i, j, x, u, h, _ => by simp at h
  | y :: l, 0, j, x, u, h, hu => by
    simp at h
    subst h
    have hj : j < 2 := (List.getElem?_eq_some_iff.1 hu).1
    rw [fp_cons, Nat.zero_mul, Nat.zero_add, List.getElem?_append_left (by exact hj)]
    exact hu
  | y :: l, i + 1, j, x, u, h, hu => by
    rw [fp_cons, List.getElem?_append_right (by simp [pl]; omega)]
    have e : (i + 1) * 2 + j - (pl y).length = i * 2 + j := by simp [pl]; omega
    rw [e]
    exact fp_get (l := l) (by simpa using h) hu
theorem fp_all (l : List OP) : ∀ u ∈ fp l, u.oneCell' = true := by
  intro u hu
  obtain ⟨m, hm, hu⟩ := List.mem_flatten.1 hu
  obtain ⟨x, _, rfl⟩ := List.mem_map.1 hm
  simp [pl] at hu
  rcases hu with rfl | rfl <;> rfl
theorem fp_take (l : List OP) (k : Nat) : fp (l.take k) = (fp l).take (k * 2) := by
  have h : fp l = fp (l.take k) ++ fp (l.drop k) := by rw [← fp_app, List.take_append_drop]
  rcases Nat.le_total k l.length with h1 | h1
  · rw [h, List.take_left' (by rw [fp_len, List.length_take]; omega)]
  · rw [List.take_of_length_le h1, List.take_of_length_le (by rw [fp_len]; omega)]
theorem fp_drop (l : List OP) (k : Nat) : fp (l.drop k) = (fp l).drop (k * 2) := by
  have h : fp l = fp (l.take k) ++ fp (l.drop k) := by rw [← fp_app, List.take_append_drop]
  rcases Nat.le_total k l.length with h1 | h1
  · rw [h, List.drop_left' (by rw [fp_len, List.length_take]; omega)]
  · rw [List.drop_of_length_le h1, List.drop_of_length_le (by rw [fp_len]; omega)]; rfl
abbrev TO : TypeId := 49
theorem infoO : (Try.prog.info? TO).map (fun i => (i.zero, i.size, i.bytes)) = some (some (.agg #[.int .u64 0, .int .u64 0]), 2, 16) := by kernel_rfl
def RO (w : World) (base : Nat) (A : Option Addr) (c : Nat) (l : List OP) : Prop := w.ownsRow base TO 2 (.slice A l.length c) l.length (fp l)
section
variable {base c : Nat} {A : Option Addr} {l : List OP} {w w1 : World}
theorem RO.block (h : RO w base A c l) (e : ∀ k, (Value.slice A l.length c).ownBlock = some k → w1.heap[k]? = w.heap[k]?) : RO w1 base A c l := own_block h e
theorem RO.lt (h : RO w base A c l) (k : Nat) (e : (Value.slice A l.length c).ownBlock = some k) : base ≤ k ∧ k < w.heap.size ∧ Ty w k TO := by
  rcases h.2 with ⟨e1, _⟩ | ⟨g, cap, cur, e1, hb, hg, _⟩
  · rw [e1] at e; cases e
  · rw [e1] at e
    simp only [Value.ownBlock] at e
    cases e
    exact ⟨hb, (Array.getElem?_eq_some_iff.1 hg).1, cur, hg⟩
theorem RO.cap (h : RO w base A c l) : l.length ≤ c ∧ c ≤ 9223372036854775807 := by
  rcases h.2 with ⟨e, _⟩ | ⟨g, cap, cur, e, _, hg, hnc, hcm, hcs, htk⟩
  · simp only [Value.slice.injEq] at e
    obtain ⟨rfl, e2, rfl⟩ := e
    exact ⟨by omega, by omega⟩
  · simp only [Value.slice.injEq] at e
    obtain ⟨rfl, e2, rfl⟩ := e
    exact ⟨hnc, by unfold maxLen at hcm; omega⟩
theorem RO.nil_ (w : World) (base : Nat) : RO w base none 0 [] := World.ownsRow_nil _ _ _ 2
/-- a pair of the row -/
theorem RO.at_ (h : RO w base A c l) {i : Nat} {x : OP} (hx : l[i]? = some x) : ∃ g, A = some ⟨g, 0, none⟩ ∧ w.cell? ⟨g, i * 2, none⟩ = some (.int .u64 x.1) ∧ w.cell? ⟨g, i * 2 + 1, none⟩ = some (.int .u64 x.2) := by
  have hi : i < l.length := (List.getElem?_eq_some_iff.1 hx).1
  have hl := fp_len l
  have h' := h
  rcases h.2 with ⟨e, h0⟩ | ⟨g, cap, cur, e, _⟩
  · omega
  · unfold RO at h'
    rw [e] at h'
    simp only [Value.slice.injEq] at e
    obtain ⟨rfl, e2, rfl⟩ := e
    refine ⟨g, rfl, ?_, ?_⟩
    · rw [h'.cellAt (i * 2) (by omega)]
      exact fp_get (j := 0) hx rfl
    · rw [h'.cellAt (i * 2 + 1) (by omega)]
      exact fp_get (j := 1) hx rfl
/-- a part of the row, from place i on -/
theorem RO.stand (h : RO w base A c l) (i m : Nat) (hm : i + m ≤ l.length) : Stand w (if c = i then A else A.map (·.add (i * 2))) m (fp ((l.drop i).take m)) := by
  by_cases h0 : m = 0
  · exact .inl h0
  · obtain ⟨x, hx⟩ : ∃ x, l[i]? = some x := ⟨_, List.getElem?_eq_getElem (by omega)⟩
    obtain ⟨g, rfl, _⟩ := h.at_ hx
    have hc := h.cap
    rw [if_neg (by omega)]
    refine .inr ⟨_, rfl, fun j u hu => ?_⟩
    have h' := h
    unfold RO at h'
    have hl := fp_len l
    have hj : j < m * 2 := by
      have := (List.getElem?_eq_some_iff.1 hu).1
      rw [fp_len, List.length_take, List.length_drop] at this
      omega
    rw [Go.Deep.add_add, Go.WideShapes.add_plain, Nat.zero_add, h'.cellAt (i * 2 + j) (by omega)]
    rw [fp_take, fp_drop, List.getElem?_take, if_pos hj, List.getElem?_drop] at hu
    exact hu
end
/-! ### The document's side -/
def cD (ck : Int) (s : Value) (k : Nat) : Value := if k = 0 then .int .u64 ck else s
structure DocM (col : Nat → Nat) (c : Nat) (w : World) (q : Nat) (ck : Int) (os : List OP) (A : Option Addr) (cA : Nat) : Prop where
  row : w.rowIs q TD 2 (cD ck (.slice A os.length cA))
  ro : RO w 0 A cA os
  cp : col q = c
  ko : ∀ k, (Value.slice A os.length cA).ownBlock = some k → col k = c
section
variable {col col' : Nat → Nat} {c d : Nat} {w w1 w3 : World} {q : Nat} {ck : Int} {os os' : List OP} {A A' : Option Addr} {cA c' : Nat}
theorem DocM.other (h : DocM col c w q ck os A cA) (hg : Chg col d w w1) (hcd : c ≠ d) (he : Ext w col col') : DocM col' c w1 q ck os A cA where
  row := h.row.of_block (hg.block q h.row.lt (by rw [h.cp]; exact hcd))
  ro := h.ro.block fun k e => hg.block k (h.ro.lt k e).2.1 (by rw [h.ko k e]; exact hcd)
  cp := (he q h.row.lt).trans h.cp
  ko := fun k e => (he k (h.ro.lt k e).2.1).trans (h.ko k e)
theorem DocM.below (h : DocM col c w q ck os A cA) (hB : Below w.heap.size w w1) : DocM col c w1 q ck os A cA := h.other (Chg.of_below col (c + 1) hB) (by omega) (Ext.refl _ _)
theorem DocM.cells (h : DocM col c w q ck os A cA) : w.cell? ⟨q, 0, none⟩ = some (.int .u64 ck) ∧ w.cell? ⟨q, 1, none⟩ = some (.slice A os.length cA) ∧ w.frozen? ⟨q, 0, none⟩ = false ∧ w.frozen? ⟨q, 1, none⟩ = false :=
  ⟨h.row.cell (i := 0) (by omega), h.row.cell (i := 1) (by omega), h.row.frozen 0, h.row.frozen 1⟩
theorem DocM.ne (h : DocM col c w q ck os A cA) {k : Nat} (e : (Value.slice A os.length cA).ownBlock = some k) : q ≠ k := (Ty.of_row h.row).ne (h.ro.lt k e).2.2 (by decide)
theorem DocM.setC (h : DocM col c w q ck os A cA) (a : Int) : Chg col c w (w.setCell ⟨q, 0, none⟩ (.int .u64 a)) ∧ DocM col c (w.setCell ⟨q, 0, none⟩ (.int .u64 a)) q a os A cA :=
  ⟨(Chg.refl _ _ _).setCell h.cp _, { h with row := (h.row.set 0 _).congr fun i hi => (by rcases two hi with rfl | rfl <;> rfl), ro := h.ro.block fun k e => Below.heap_setCell _ _ _ _ (h.ne e).symm }⟩
/-- The row has grown, and is laid into its cell. -/
theorem DocM.gr (h : DocM col c w q ck os A cA) (hf : Fresh col w) (hg : w.grownBy w3 (Value.slice A os.length cA).ownBlock) (hw : RO w3 0 A' c' os')
    (hat : (Value.slice A' os'.length c').ownBlock = (Value.slice A os.length cA).ownBlock ∨ (Value.slice A' os'.length c').ownBlock = some w.heap.size) :
    w3.cell? ⟨q, 1, none⟩ = some (.slice A os.length cA) ∧ w3.frozen? ⟨q, 1, none⟩ = false ∧ ∃ col', Cn c col w col' (w3.setCell ⟨q, 1, none⟩ (.slice A' os'.length c')) ∧ DocM col' c (w3.setCell ⟨q, 1, none⟩ (.slice A' os'.length c')) q ck os' A' c' := by
  obtain ⟨hC, hk⟩ := app_col hf h.ko hg (fun k e => (hw.lt k e).2.1) hat
  have hq : w3.heap[q]? = w.heap[q]? := hg.block q h.row.lt (fun e => h.ne e.symm rfl)
  have hr3 := h.row.of_block hq
  have hx := hC.1
  have hg4 := hC.setCell (p := ⟨q, 1, none⟩) ((hx q h.row.lt).trans h.cp) (.slice A' os'.length c')
  refine ⟨(World.cell?_of_block (a := ⟨q, 1, none⟩) hq).trans h.cells.2.1, (World.frozen?_of_block (a := ⟨q, 1, none⟩) hq).trans h.cells.2.2.2, _, hg4, ?_⟩
  exact {
    row := (hr3.set 1 _).congr fun i hi => (by rcases two hi with rfl | rfl <;> rfl)
    ro := hw.block fun k e => Below.heap_setCell _ _ _ _ ((hw.lt k e).2.2.ne (Ty.of_row hr3) (by decide))
    cp := (hx q h.row.lt).trans h.cp
    ko := hk }
/-- Another row, in new memory, is laid into its cell. -/
theorem DocM.put (h : DocM col c w q ck os A cA) (hf : Fresh col w) (hB : Below w.heap.size w w3) (hw : RO w3 w.heap.size A' c' os') :
    w3.cell? ⟨q, 1, none⟩ = some (.slice A os.length cA) ∧ w3.frozen? ⟨q, 1, none⟩ = false ∧ ∃ col', Cn c col w col' (w3.setCell ⟨q, 1, none⟩ (.slice A' os'.length c')) ∧ DocM col' c (w3.setCell ⟨q, 1, none⟩ (.slice A' os'.length c')) q ck os' A' c' := by
  have hq : w3.heap[q]? = w.heap[q]? := hB.block q h.row.lt
  have hr3 := h.row.of_block hq
  have hx : Ext w col (paintB col (.slice A' os'.length c') c) := fun k hk => if_neg fun e => by have := (hw.lt k e).1; omega
  have hf3 : Fresh (paintB col (.slice A' os'.length c') c) w3 := fun k hk => by
    unfold paintB
    rw [if_neg (fun e => by have := (hw.lt k e).2.1; omega)]
    exact hf k (by have := hB.size; omega)
  have hC : Cn c col w (paintB col (.slice A' os'.length c') c) w3 := ⟨hx, hf3, Chg.of_below _ _ hB⟩
  have hg4 := hC.setCell (p := ⟨q, 1, none⟩) ((hx q h.row.lt).trans h.cp) (.slice A' os'.length c')
  refine ⟨(World.cell?_of_block (a := ⟨q, 1, none⟩) hq).trans h.cells.2.1, (World.frozen?_of_block (a := ⟨q, 1, none⟩) hq).trans h.cells.2.2.2, _, hg4, ?_⟩
  exact {
    row := (hr3.set 1 _).congr fun i hi => (by rcases two hi with rfl | rfl <;> rfl)
    ro := own_more (own_block hw fun k e => Below.heap_setCell _ _ _ _ ((hw.lt k e).2.2.ne (Ty.of_row hr3) (by decide))) (Nat.zero_le _)
    cp := (hx q h.row.lt).trans h.cp
    ko := fun k e => if_pos e }
end
end Go.Proofs.Yteelndiiennhkaa.ptL
