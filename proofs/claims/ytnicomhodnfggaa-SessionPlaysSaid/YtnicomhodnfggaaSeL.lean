/- A session in memory: worlds that change at blocks of one color alone; rows of versions that nobody changes; the map of versions; what becomes of a session where one of its pieces is put anew. -/
import Derived.Test.YtnicomhodnfggaaSeM
import Derived.Test.YtnicomhodnfggaaSeI
import Derived.Test.YtnicomhodnfggaaOrdC
import Derived.Deep.OwnRows
import Derived.Maps.OwnOps
import Derived.Maps.OwnSet
import Derived.Maps.Views
import Derived.Sort.KeysCollected
import Derived.StringKeys
set_option linter.unusedVariables false
set_option linter.unusedSimpArgs false
set_option maxRecDepth 100000
namespace Go.Proofs.Ytnicomhodnfggaa.seL
open Go.ChangeShapes Go.WideShapes Go.ChangeAt Go.RowKit Go.Deep
open opV chnM gen chnA chnR chnE seM seI ordC

/-! ### Worlds that change at blocks of one color -/
structure Chg (col : Nat → Nat) (c : Nat) (w w' : World) : Prop where
  os : w'.os = w.os
  tape : w'.tape = w.tape
  output : w'.output = w.output
  size : w.heap.size ≤ w'.heap.size
  block : ∀ k, k < w.heap.size → col k ≠ c → w'.heap[k]? = w.heap[k]?
/-- the colors of what was there stay -/
def Ext (w : World) (col col' : Nat → Nat) : Prop := ∀ k, k < w.heap.size → col' k = col k
theorem Ext.refl (w : World) (col : Nat → Nat) : Ext w col col := fun _ _ => rfl
theorem Ext.trans {w w1 : World} {c0 c1 c2 : Nat → Nat} (h1 : Ext w c0 c1) (hs : w.heap.size ≤ w1.heap.size) (h2 : Ext w1 c1 c2) : Ext w c0 c2 := fun k hk => (h2 k (by omega)).trans (h1 k hk)
theorem Chg.refl (col : Nat → Nat) (c : Nat) (w : World) : Chg col c w w := ⟨rfl, rfl, rfl, Nat.le_refl _, fun _ _ _ => rfl⟩
theorem Chg.of_below {w w' : World} (col : Nat → Nat) (c : Nat) (h : Below w.heap.size w w') : Chg col c w w' := ⟨h.os, h.tape, h.output, h.size, fun k hk _ => h.block k hk⟩
theorem Chg.trans {col col' : Nat → Nat} {c : Nat} {w w1 w2 : World} (h : Chg col c w w1) (he : Ext w col col') (h2 : Chg col' c w1 w2) : Chg col c w w2 :=
  ⟨h2.os.trans h.os, h2.tape.trans h.tape, h2.output.trans h.output, Nat.le_trans h.size h2.size, fun k hk hc => (h2.block k (Nat.lt_of_lt_of_le hk h.size) (by rw [he k hk]; exact hc)).trans (h.block k hk hc)⟩
theorem Chg.tran {col : Nat → Nat} {c : Nat} {w w1 w2 : World} (h : Chg col c w w1) (h2 : Chg col c w1 w2) : Chg col c w w2 := h.trans (Ext.refl _ _) h2
theorem Chg.then {col : Nat → Nat} {c : Nat} {w w1 w2 : World} (h : Chg col c w w1) (h2 : Below w1.heap.size w1 w2) : Chg col c w w2 := h.tran (Chg.of_below _ _ h2)
theorem Chg.below {col : Nat → Nat} {c B : Nat} {w w' : World} (h : Chg col c w w') (hB : B ≤ w.heap.size) (hc : ∀ k, k < B → col k ≠ c) : Below B w w' :=
  ⟨h.os, h.tape, h.output, h.size, fun k hk => h.block k (by omega) (hc k hk)⟩
theorem Chg.grown {col : Nat → Nat} {c : Nat} {w w' : World} {row : Option Nat} (hg : w.grownBy w' row) (hr : ∀ k, row = some k → col k = c) : Chg col c w w' :=
  ⟨hg.os, hg.tape, hg.output, hg.size, fun k hk hc => hg.block k hk (fun e => hc (hr k e.symm))⟩
theorem Chg.setCell {col : Nat → Nat} {c : Nat} {w0 w : World} (h : Chg col c w0 w) {p : Addr} (hp : col p.block = c) (u : Value) : Chg col c w0 (w.setCell p u) :=
  h.tran ⟨rfl, rfl, rfl, by rw [World.size_setCell]; exact Nat.le_refl _, fun k _ hc => Below.heap_setCell w p u k (fun e => hc (by rw [e]; exact hp))⟩
theorem Chg.alloc {col : Nat → Nat} {c : Nat} {w0 w : World} (h : Chg col c w0 w) (o : Obj) : Chg col c w0 (w.alloc o) := h.then ((Below.refl _ _).alloc (Nat.le_refl _) o)
theorem Chg.drew {col : Nat → Nat} {c : Nat} {w0 w : World} (h : Chg col c w0 w) : Chg col c w0 w.drew := ⟨h.os, h.tape, h.output, h.size, h.block⟩
def Fresh (col : Nat → Nat) (w : World) : Prop := ∀ k, w.heap.size ≤ k → col k = 0
theorem Fresh.up {col : Nat → Nat} {w w1 : World} (h : Fresh col w) (hs : w.heap.size ≤ w1.heap.size) : Fresh col w1 := fun k hk => h k (by omega)
/-! ### Rows of versions that nobody changes any more -/
structure DV (col : Nat → Nat) (w : World) (A : Option Addr) (cp : Nat) (l : List Ver) : Prop where
  hv : HV w A cp l
  co : l = [] ∨ ∀ y, A = some y → col y.block = 0
theorem hv_block {w w1 : World} {A : Option Addr} {c : Nat} {l : List Ver} (h : HV w A c l) (hs : w.heap.size ≤ w1.heap.size) (hb : l = [] ∨ ∀ y, A = some y → w1.heap[y.block]? = w.heap[y.block]?) : HV w1 A c l := by
  refine { h with row := ?_ }
  rcases h.row with h0 | ⟨b, off, e, hlt, hc⟩
  · exact .inl h0
  · rcases hb with h0 | hb
    · exact .inl (by rw [h0]; rfl)
    · exact .inr ⟨b, off, e, by omega, fun i hi => (hc i hi).of_block (hb _ e)⟩
theorem hv_lt {w : World} {A : Option Addr} {c : Nat} {l : List Ver} (h : HV w A c l) (h0 : l ≠ []) {y : Addr} (e : A = some y) : y.block < w.heap.size := by
  obtain ⟨b, off, e2, hlt, _⟩ := h.at (i := 0) (List.length_pos_iff.2 h0)
  rw [e] at e2; cases e2
  exact hlt
theorem DV.go {col col' : Nat → Nat} {c : Nat} {w w1 : World} {A : Option Addr} {cp : Nat} {l : List Ver} (h : DV col w A cp l) (hg : Chg col c w w1) (hc : c ≠ 0) (he : Ext w col col') : DV col' w1 A cp l := by
  by_cases h0 : l = []
  · exact ⟨hv_block h.hv hg.size (.inl h0), .inl h0⟩
  · have hco := h.co.resolve_left h0
    refine ⟨hv_block h.hv hg.size (.inr fun y e => hg.block _ (hv_lt h.hv h0 e) (by rw [hco y e]; exact fun e => hc e.symm)), .inr fun y e => ?_⟩
    rw [he _ (hv_lt h.hv h0 e)]
    exact hco y e
theorem DV.below {col : Nat → Nat} {w w1 : World} {A : Option Addr} {cp : Nat} {l : List Ver} (h : DV col w A cp l) (hB : Below w.heap.size w w1) : DV col w1 A cp l := h.go (Chg.of_below col 1 hB) (by omega) (Ext.refl _ _)
theorem DV.nil_ (col : Nat → Nat) (w : World) : DV col w none 0 [] := ⟨(GV.nil_ w 0).hv (by simp), .inl rfl⟩
/-- a row of versions of the call's own, given away -/
theorem DV.of_gv {col : Nat → Nat} {w w1 : World} {A : Option Addr} {cp : Nat} {l : List Ver} (h : GV w1 w.heap.size A cp l) (hs : l.length * 64 ≤ 140737488355328) (hf : Fresh col w) : DV col w1 A cp l := by
  refine ⟨h.hv hs, ?_⟩
  by_cases h0 : l = []
  · exact .inl h0
  · refine .inr fun y e => hf _ ?_
    rcases h.2 with ⟨e1, h2⟩ | ⟨g, cap, cur, e1, h2, _⟩
    · simp only [Value.slice.injEq] at e1; rw [e] at e1; cases e1.1
    · simp only [Value.slice.injEq] at e1; rw [e] at e1
      obtain ⟨e3, _, _⟩ := e1
      cases e3
      exact h2

def Cn (c : Nat) (col : Nat → Nat) (w : World) (col' : Nat → Nat) (w' : World) : Prop := Ext w col col' ∧ Fresh col' w' ∧ Chg col c w w'
theorem Cn.trans {c : Nat} {c0 c1 c2 : Nat → Nat} {w w1 w2 : World} (h : Cn c c0 w c1 w1) (k : Cn c c1 w1 c2 w2) : Cn c c0 w c2 w2 :=
  ⟨h.1.trans h.2.2.size k.1, k.2.1, h.2.2.trans h.1 k.2.2⟩
theorem Cn.below {c : Nat} {col : Nat → Nat} {w w1 : World} (hf : Fresh col w) (hB : Below w.heap.size w w1) : Cn c col w col w1 := ⟨Ext.refl _ _, hf.up hB.size, Chg.of_below _ _ hB⟩
theorem Cn.setCell {c : Nat} {c0 c1 : Nat → Nat} {w w1 : World} (h : Cn c c0 w c1 w1) {p : Addr} (hp : c1 p.block = c) (u : Value) : Cn c c0 w c1 (w1.setCell p u) :=
  h.trans ⟨Ext.refl _ _, h.2.1.up (by rw [World.size_setCell]; exact Nat.le_refl _), (Chg.refl _ _ _).setCell hp u⟩
def paintB (col : Nat → Nat) (v : Value) (c : Nat) (k : Nat) : Nat := if v.ownBlock = some k then c else col k
theorem app_col {col : Nat → Nat} {c : Nat} {w w' : World} {v v' : Value} (hf : Fresh col w) (hv : ∀ k, v.ownBlock = some k → col k = c) (hg : w.grownBy w' v.ownBlock)
    (hlt : ∀ k, v'.ownBlock = some k → k < w'.heap.size) (hat : v'.ownBlock = v.ownBlock ∨ v'.ownBlock = some w.heap.size) :
    Cn c col w (paintB col v' c) w' ∧ ∀ k, v'.ownBlock = some k → paintB col v' c k = c := by
  refine ⟨⟨fun k hk => ?_, fun k hk => ?_, Chg.grown hg hv⟩, fun k e => if_pos e⟩
  · unfold paintB
    by_cases e : v'.ownBlock = some k
    · rw [if_pos e]
      rcases hat with h1 | h1
      · rw [h1] at e; exact (hv k e).symm
      · rw [h1] at e; have := Option.some.inj e; omega
    · rw [if_neg e]
  · unfold paintB
    rw [if_neg (fun e => by have := hlt k e; omega)]
    exact hf k (by have := hg.size; omega)
/-! ### Blocks by their type -/
def Ty (w : World) (k : Nat) (t : TypeId) : Prop := ∃ cur, w.heap[k]? = some (.cells cur t (0, 0))
theorem Ty.ne {w : World} {k k2 : Nat} {t t2 : TypeId} (h : Ty w k t) (h2 : Ty w k2 t2) (hne : t ≠ t2) : k ≠ k2 := by
  rintro rfl
  obtain ⟨c1, e1⟩ := h
  obtain ⟨c2, e2⟩ := h2
  rw [e1] at e2
  simp at e2
  exact hne e2.2
theorem Ty.of_row {w : World} {p n : Nat} {t : TypeId} {f : Nat → Value} (h : w.rowIs p t n f) : Ty w p t := by obtain ⟨c, hc, _⟩ := h; exact ⟨c, hc⟩
theorem Ty.of_gv {w : World} {base cap : Nat} {A : Option Addr} {l : List Ver} (h : GV w base A cap l) {k : Nat} (hk : (Value.slice A l.length cap).ownBlock = some k) : Ty w k 41 := by
  rcases h.2 with ⟨e, _⟩ | ⟨g, cp, cur, e, _, hg, _⟩
  · rw [e] at hk; cases hk
  · rw [e] at hk; cases hk; exact ⟨cur, hg⟩
section
variable {H : Type} {P : Program} {kT : TypeId} {R : Value → Option (DataW H × List MemPlace)} {w w1 : World} {b n : Nat} {D : DataW H}
theorem Ty.nmap {k : Nat} {t : TypeId} (h : Ty w k t) (h2 : w.ownsMap P kT R b n D) : k ≠ b := by
  rintro rfl
  obtain ⟨c1, e1⟩ := h
  obtain ⟨es, cl, e2, _⟩ := h2
  rw [e1] at e2
  cases e2
theorem map_block (h : w.ownsMap P kT R b n D) (e : w1.heap[b]? = w.heap[b]?) : w1.ownsMap P kT R b n D := by
  obtain ⟨es, cl, hb, hr⟩ := h
  exact ⟨es, cl, e.trans hb, hr⟩
end
abbrev TS : TypeId := 56
abbrev TM : TypeId := 52
/-! ### The map of versions -/
abbrev DM := DataW Ver
/-- how an element reads -/
def vL : List Value → Option Ver
  | [.string k, .string x, .bool g, .int .u64 a, .int .i64 b, .int .i64 c] => some ⟨k, x, g, a, b, c⟩
  | _ => none
def vR : Value → Option (DM × List MemPlace)
  | .agg cs => (vL cs.toList).map fun v => (.held v, [])
  | _ => none
theorem vR_mk (v : Ver) : vR (vv v) = some (.held v, []) := rfl
theorem vL_inv {l : List Value} {c : Ver} (h : vL l = some c) : l = cL c := by
  unfold vL at h
  split at h
  · cases h; rfl
  · cases h
theorem vR_inv {v : Value} {y : DM × List MemPlace} (h : vR v = some y) : ∃ c, v = vv c ∧ y = (.held c, []) := by
  unfold vR at h
  split at h
  · rename_i cs
    cases hl : vL cs.toList with
    | none => rw [hl] at h; cases h
    | some c =>
      rw [hl] at h
      have h1 := vL_inv hl
      simp only [Option.map_some, Option.some.injEq] at h
      refine ⟨c, ?_, h.symm⟩
      congr 1
      exact Array.toList_inj.1 h1
  · cases h
def kS (k : ByteArray) : Lit := .string k.data.toList
theorem kS_ne {a b : ByteArray} (h : a ≠ b) : kS a ≠ kS b := by
  intro e
  unfold kS at e
  injection e with e1
  cases a; cases b
  exact h (congrArg ByteArray.mk (Array.toList_inj.1 e1))
theorem kS_key (k : ByteArray) : WideAt.IsKeyLit (kS k) := trivial
theorem lawS : Maps.Keyed Try.prog 9 := Maps.string_keyed Try.underlying9
theorem hkey (k : ByteArray) (h : k.size ≤ maxLen) : keyOf Try.prog 9 (.string k) = some (kS k) := Go.WideMaps.keyOf_string_mk Try.underlying9 h
theorem zeroV (w : World) : (zeroValue 41).run Try.prog w = .ok (vv default) w := by kernel_rfl
abbrev MapV (w : World) (b n : Nat) (D : DM) : Prop := w.ownsMap Try.prog 9 vR b n D
/-- what the map says -/
def CR (ca : List Ver) (D : DM) : Prop := ∀ k : ByteArray, match fnd ca k with
  | none => Maps.has D (kS k) = false
  | some v => ∀ z, D.atKey (kS k) z = .held v
theorem cr_nil : CR [] (.map []) := fun k => rfl
theorem cr_put {ca : List Ver} {D : DM} (h : CR ca D) (hD : Maps.IsMap D) (v : Ver) : CR (pK ca v) (D.put (kS v.key) (.held v)) := by
  intro k
  rw [fnd_pK]
  by_cases hk : k = v.key
  · rw [if_pos hk]
    subst hk
    exact fun z => Maps.atKey_put_same hD (kS_key _) _ _
  · rw [if_neg hk]
    have h1 := h k
    cases hf : fnd ca k with
    | none =>
      rw [hf] at h1
      simp only at h1 ⊢
      rw [Maps.has_put_other (kS_ne hk)]; exact h1
    | some u =>
      rw [hf] at h1
      simp only at h1 ⊢
      exact fun z => by rw [Maps.atKey_put_other (kS_ne hk)]; exact h1 z
/-- a look into the map -/
theorem cr_look {w : World} {b n : Nat} {D : DM} {ca : List Ver} (h : CR ca D) (hm : MapV w b n D) (k : ByteArray) (hk : k.size ≤ maxLen) :
    (Instr.lookup TM (.map (some b)) (.string k) true).run Try.prog w = .ok (.tuple #[vv ((fnd ca k).getD default), .bool (is ca k)]) w := by
  obtain ⟨v, ps, hr, hv⟩ := World.ownsMap.look_ok hm lawS Try.underlying52 (zeroV w) (vR_mk default) (hkey k hk)
  have h1 := h k
  obtain ⟨c, rfl, e⟩ := vR_inv hv
  rw [hr]
  unfold is
  cases hf : fnd ca k with
  | none =>
    rw [hf] at h1
    simp only at h1
    rw [Maps.atKey_of_not_has h1] at e
    simp only [Prod.mk.injEq, DataW.held.injEq] at e
    rw [h1, ← e.1]; rfl
  | some u =>
    rw [hf] at h1
    simp only at h1
    rw [h1] at e
    simp only [Prod.mk.injEq, DataW.held.injEq] at e
    rw [Maps.has_true_of_atKey h1, ← e.1]; rfl
theorem cr_look1 {w : World} {b n : Nat} {D : DM} {ca : List Ver} (h : CR ca D) (hm : MapV w b n D) (k : ByteArray) (hk : k.size ≤ maxLen) :
    (Instr.lookup TM (.map (some b)) (.string k) false).run Try.prog w = .ok (vv ((fnd ca k).getD default)) w := by
  obtain ⟨v, ps, hr, hv⟩ := World.ownsMap.lookup hm lawS Try.underlying52 (zeroV w) (vR_mk default) (hkey k hk)
  have h1 := h k
  obtain ⟨c, rfl, e⟩ := vR_inv hv
  rw [hr]
  cases hf : fnd ca k with
  | none =>
    rw [hf] at h1
    simp only at h1
    rw [Maps.atKey_of_not_has h1] at e
    simp only [Prod.mk.injEq, DataW.held.injEq] at e
    rw [← e.1]; rfl
  | some u =>
    rw [hf] at h1
    simp only at h1
    rw [h1] at e
    simp only [Prod.mk.injEq, DataW.held.injEq] at e
    rw [← e.1]; rfl
/-- a store into it -/
theorem cr_store {w : World} {b n : Nat} {D : DM} {ca : List Ver} (h : CR ca D) (hm : MapV w b n D) (v : Ver) (hk : v.key.size ≤ maxLen) (hn : n < maxLen) :
    ∃ w' D', (Instr.mapUpdate TM (.map (some b)) (.string v.key) (vv v)).run Try.prog w = .ok () w' ∧ MapV w' b (n + 1) D' ∧ CR (pK ca v) D' ∧ w.mapTurned w' b := by
  obtain ⟨w', h3, h4, h5⟩ := World.ownsMap.store hm lawS Try.underlying52 hn (hkey v.key hk) (vR_mk v)
  exact ⟨w', _, h3, h4, cr_put h hm.isMap v, h5⟩
/-- between the steps of going through it -/
structure RL (ca : List Ver) (t : Int) (D : DM) (left : Lit → Bool) : Prop where
  at_ : ∀ k : ByteArray, match fnd ca k with
    | none => Maps.has D (kS k) = false
    | some v => if left (kS k) = true ∨ newer t v = true then ∀ z, D.atKey (kS k) z = .held v else Maps.has D (kS k) = false
theorem rl_start {ca : List Ver} {D : DM} (h : CR ca D) (t : Int) : RL ca t D (Maps.has D) := ⟨fun k => by
  have h1 := h k
  cases hf : fnd ca k with
  | none => rw [hf] at h1; exact h1
  | some v =>
    rw [hf] at h1
    simp only at h1 ⊢
    rw [if_pos (.inl (Maps.has_true_of_atKey h1))]
    exact h1⟩
theorem strike_ne {left : Lit → Bool} {x k : ByteArray} (h : k ≠ x) : (left (kS k) && !(kS k).sameKey (kS x)) = left (kS k) := by
  rw [Maps.sameKey_ne (kS_ne h)]; simp
theorem strike_eq (left : Lit → Bool) (x : ByteArray) : (left (kS x) && !(kS x).sameKey (kS x)) = false := by
  rw [WideAt.sameKey_self (kS_key x)]; simp
section
variable {ca : List Ver} {t : Int} {D : DM} {left : Lit → Bool} {x : ByteArray} {c : Ver}
theorem RL.was (h : RL ca t D left) (hc : ∀ z, D.atKey (kS x) z = .held c) : fnd ca x = some c := by
  have h1 := h.at_ x
  have ht := Maps.has_true_of_atKey hc
  cases hf : fnd ca x with
  | none => rw [hf] at h1; simp only at h1; rw [ht] at h1; cases h1
  | some v =>
    rw [hf] at h1
    simp only at h1
    split at h1
    · have := (h1 .nil).symm.trans (hc .nil)
      simp only [DataW.held.injEq] at this
      rw [this]
    · rw [ht] at h1; cases h1
theorem RL.go_del (h : RL ca t D left) (hc : ∀ z, D.atKey (kS x) z = .held c) (hx : newer t c = false) : RL ca t (D.del (kS x)) (fun z => left z && !z.sameKey (kS x)) := ⟨fun k => by
  have h1 := h.at_ k
  by_cases hk : k = x
  · subst hk
    rw [h.was hc]
    simp only
    rw [if_neg (by rw [strike_eq, hx]; simp), Maps.has_del_same]
  · cases hf : fnd ca k with
    | none => rw [hf] at h1; simp only at h1 ⊢; rw [Maps.has_del_other (kS_ne hk)]; exact h1
    | some v =>
      rw [hf] at h1
      simp only [strike_ne hk] at h1 ⊢
      split at h1
      · rename_i h2
        rw [if_pos h2]
        exact fun z => by rw [Maps.atKey_del_other (kS_ne hk)]; exact h1 z
      · rename_i h2
        rw [if_neg h2, Maps.has_del_other (kS_ne hk)]; exact h1⟩
theorem RL.go_stay (h : RL ca t D left) (hc : ∀ z, D.atKey (kS x) z = .held c) (hx : newer t c = true) : RL ca t D (fun z => left z && !z.sameKey (kS x)) := ⟨fun k => by
  have h1 := h.at_ k
  by_cases hk : k = x
  · subst hk
    rw [h.was hc]
    simp only
    rw [if_pos (.inr hx)]
    exact hc
  · cases hf : fnd ca k with
    | none => rw [hf] at h1; exact h1
    | some v =>
      rw [hf] at h1
      simp only [strike_ne hk] at h1 ⊢
      exact h1⟩
theorem RL.done (h : RL ca t D left) (hl : ∀ z, left z = false) (hu : Up ca) : CR (ca.filter (newer t)) D := fun k => by
  have h1 := h.at_ k
  rw [hu.fnd_filter]
  cases hf : fnd ca k with
  | none => rw [hf] at h1; exact h1
  | some v =>
    rw [hf] at h1
    simp only [hl, Bool.false_eq_true, false_or] at h1
    rw [Option.filter_some]
    cases hn : newer t v with
    | true => rw [hn, if_pos rfl] at h1; exact h1
    | false => rw [hn, if_neg (by simp)] at h1; exact h1
end
/-! ### The program's session -/
def cS (sn la : Int) (op : Bool) (x m : Value) (k : Nat) : Value := if k = 0 then .int .u64 sn else if k = 1 then .int .u64 la else if k = 2 then .bool op else if k = 3 then x else m
theorem five {i : Nat} (hi : i < 5) : i = 0 ∨ i = 1 ∨ i = 2 ∨ i = 3 ∨ i = 4 := by omega
structure SesM (col : Nat → Nat) (c : Nat) (w : World) (p : Nat) (sn la : Int) (op : Bool) (A : Option Addr) (cw : Nat) (ws : List Ver) (mb n : Nat) (D : DM) : Prop where
  row : w.rowIs p TS 5 (cS sn la op (.slice A ws.length cw) (.map (some mb)))
  ro : GV w 0 A cw ws
  mp : MapV w mb n D
  cp : col p = c
  kw : ∀ k, (Value.slice A ws.length cw).ownBlock = some k → col k = c
  km : col mb = c
section
variable {col col' : Nat → Nat} {c d : Nat} {w w1 w3 : World} {p : Nat} {sn la : Int} {op : Bool} {A A' : Option Addr} {cw c' : Nat} {ws ws' : List Ver} {mb n n' : Nat} {D D' : DM}
theorem SesM.other (h : SesM col c w p sn la op A cw ws mb n D) (hg : Chg col d w w1) (hd : d ≠ 0) (hcd : c ≠ d) (he : Ext w col col') : SesM col' c w1 p sn la op A cw ws mb n D where
  row := h.row.of_block (hg.block p h.row.lt (by rw [h.cp]; exact hcd))
  ro := h.ro.block fun k e => hg.block k (h.ro.lt k e).2 (by rw [h.kw k e]; exact hcd)
  mp := map_block h.mp (hg.block mb h.mp.lt (by rw [h.km]; exact hcd))
  cp := (he p h.row.lt).trans h.cp
  kw := fun k e => (he k (h.ro.lt k e).2).trans (h.kw k e)
  km := (he mb h.mp.lt).trans h.km
theorem SesM.below (h : SesM col c w p sn la op A cw ws mb n D) (hB : Below w.heap.size w w1) : SesM col c w1 p sn la op A cw ws mb n D := h.other (Chg.of_below col (c + 1) hB) (by omega) (by omega) (Ext.refl _ _)
theorem SesM.cells (h : SesM col c w p sn la op A cw ws mb n D) : w.cell? ⟨p, 0, none⟩ = some (.int .u64 sn) ∧ w.cell? ⟨p, 1, none⟩ = some (.int .u64 la) ∧ w.cell? ⟨p, 2, none⟩ = some (.bool op) ∧ w.cell? ⟨p, 3, none⟩ = some (.slice A ws.length cw) ∧ w.cell? ⟨p, 4, none⟩ = some (.map (some mb)) :=
  ⟨h.row.cell (i := 0) (by omega), h.row.cell (i := 1) (by omega), h.row.cell (i := 2) (by omega), h.row.cell (i := 3) (by omega), h.row.cell (i := 4) (by omega)⟩
theorem SesM.fz (h : SesM col c w p sn la op A cw ws mb n D) (i : Nat) : w.frozen? ⟨p, i, none⟩ = false := h.row.frozen i
theorem SesM.tp (h : SesM col c w p sn la op A cw ws mb n D) : Ty w p TS ∧ (∀ k, (Value.slice A ws.length cw).ownBlock = some k → Ty w k 41) := ⟨Ty.of_row h.row, fun k e => Ty.of_gv h.ro e⟩
/-- One cell of the struct is another one; the row and the map stay. -/
theorem SesM.set_row (h : SesM col c w p sn la op A cw ws mb n D) (hc : c ≠ 0) (i : Nat) (v : Value) :
    Chg col c w (w.setCell ⟨p, i, none⟩ v) ∧ GV (w.setCell ⟨p, i, none⟩ v) 0 A cw ws ∧ MapV (w.setCell ⟨p, i, none⟩ v) mb n D := by
  obtain ⟨t1, t2⟩ := h.tp
  exact ⟨(Chg.refl _ _ _).setCell h.cp _, h.ro.block fun k e => Below.heap_setCell _ _ _ _ ((t2 k e).ne t1 (by decide)), map_block h.mp (Below.heap_setCell _ _ _ _ (t1.nmap h.mp).symm)⟩
theorem SesM.setSn (h : SesM col c w p sn la op A cw ws mb n D) (hc : c ≠ 0) (a : Int) : Chg col c w (w.setCell ⟨p, 0, none⟩ (.int .u64 a)) ∧ SesM col c (w.setCell ⟨p, 0, none⟩ (.int .u64 a)) p a la op A cw ws mb n D := by
  obtain ⟨hg, h1, h2⟩ := h.set_row hc 0 (.int .u64 a)
  exact ⟨hg, { h with row := (h.row.set 0 _).congr fun i hi => (by rcases five hi with rfl | rfl | rfl | rfl | rfl <;> rfl), ro := h1, mp := h2 }⟩
theorem SesM.setLa (h : SesM col c w p sn la op A cw ws mb n D) (hc : c ≠ 0) (a : Int) : Chg col c w (w.setCell ⟨p, 1, none⟩ (.int .u64 a)) ∧ SesM col c (w.setCell ⟨p, 1, none⟩ (.int .u64 a)) p sn a op A cw ws mb n D := by
  obtain ⟨hg, h1, h2⟩ := h.set_row hc 1 (.int .u64 a)
  exact ⟨hg, { h with row := (h.row.set 1 _).congr fun i hi => (by rcases five hi with rfl | rfl | rfl | rfl | rfl <;> rfl), ro := h1, mp := h2 }⟩
theorem SesM.setOp (h : SesM col c w p sn la op A cw ws mb n D) (hc : c ≠ 0) (a : Bool) : Chg col c w (w.setCell ⟨p, 2, none⟩ (.bool a)) ∧ SesM col c (w.setCell ⟨p, 2, none⟩ (.bool a)) p sn la a A cw ws mb n D := by
  obtain ⟨hg, h1, h2⟩ := h.set_row hc 2 (.bool a)
  exact ⟨hg, { h with row := (h.row.set 2 _).congr fun i hi => (by rcases five hi with rfl | rfl | rfl | rfl | rfl <;> rfl), ro := h1, mp := h2 }⟩
/-- The row is forgotten. -/
theorem SesM.setNil (h : SesM col c w p sn la op A cw ws mb n D) (hc : c ≠ 0) : Chg col c w (w.setCell ⟨p, 3, none⟩ (.slice none 0 0)) ∧ SesM col c (w.setCell ⟨p, 3, none⟩ (.slice none 0 0)) p sn la op none 0 [] mb n D := by
  obtain ⟨hg, h1, h2⟩ := h.set_row hc 3 (.slice none 0 0)
  exact ⟨hg, { h with row := (h.row.set 3 _).congr fun i hi => (by rcases five hi with rfl | rfl | rfl | rfl | rfl <;> rfl), ro := GV.nil_ _ _, mp := h2, kw := fun k e => (by cases e) }⟩
theorem at_own (h : GV w 0 A cw ws) (hi : 0 < ws.length) : ∃ g, A = some ⟨g, 0, none⟩ := by
  rcases h.2 with ⟨e, h0⟩ | ⟨g, cap, cur, e, _⟩
  · omega
  · cases e; exact ⟨g, rfl⟩
/-- A version is laid at place i of the row. -/
theorem SesM.stW {g i : Nat} (h : SesM col c w p sn la op (some ⟨g, 0, none⟩) cw ws mb n D) (hc : c ≠ 0) (hi : i < ws.length) (v : Ver) :
    Chg col c w (putAt w g (i * 6) v) ∧ SesM col c (putAt w g (i * 6) v) p sn la op (some ⟨g, 0, none⟩) cw (ws.set i v) mb n D := by
  have hk := h.kw g rfl
  obtain ⟨t1, t2⟩ := h.tp
  have tb := t2 g rfl
  have hg : Chg col c w (putAt w g (i * 6) v) := ((((((Chg.refl _ _ _).setCell (p := ⟨g, i * 6, none⟩) hk _).setCell (p := ⟨g, i * 6 + 1, none⟩) hk _).setCell (p := ⟨g, i * 6 + 2, none⟩) hk _).setCell (p := ⟨g, i * 6 + 3, none⟩) hk _).setCell (p := ⟨g, i * 6 + 4, none⟩) hk _).setCell (p := ⟨g, i * 6 + 5, none⟩) hk _
  refine ⟨hg, { h with row := ?_, ro := ?_, mp := ?_, kw := fun k e => h.kw k e }⟩
  · rw [List.length_set]; exact h.row.of_block (putAt_other (t1.ne tb (by decide)) _ _ _)
  · have h1 := stored6 h.ro (i * 6) v
    rw [fl_set hi] at h1
    unfold GV
    rw [List.length_set]
    exact h1
  · exact map_block h.mp (putAt_other (tb.nmap h.mp).symm _ _ _)
/-- The map is another one. -/
theorem SesM.turned (h : SesM col c w p sn la op A cw ws mb n D) (ht : w.grownBy w1 (some mb)) (hm : MapV w1 mb n' D') : Chg col c w w1 ∧ SesM col c w1 p sn la op A cw ws mb n' D' := by
  have hg : Chg col c w w1 := Chg.grown ht fun k e => by cases e; exact h.km
  obtain ⟨t1, t2⟩ := h.tp
  exact ⟨hg, { h with row := h.row.of_block (ht.block p h.row.lt (fun e => t1.nmap h.mp (Option.some.inj e))), ro := h.ro.block fun k e => ht.block k (h.ro.lt k e).2 (fun e2 => (t2 k e).nmap h.mp (Option.some.inj e2)), mp := hm }⟩
/-- The row has grown, and is laid into its cell. -/
theorem SesM.grW (h : SesM col c w p sn la op A cw ws mb n D) (hc : c ≠ 0) (hf : Fresh col w) (hg : w.grownBy w3 (Value.slice A ws.length cw).ownBlock) (hw : GV w3 0 A' c' ws')
    (hat : (Value.slice A' ws'.length c').ownBlock = (Value.slice A ws.length cw).ownBlock ∨ (Value.slice A' ws'.length c').ownBlock = some w.heap.size) :
    w3.cell? ⟨p, 3, none⟩ = some (.slice A ws.length cw) ∧ w3.frozen? ⟨p, 3, none⟩ = false ∧ ∃ col', Cn c col w col' (w3.setCell ⟨p, 3, none⟩ (.slice A' ws'.length c')) ∧ SesM col' c (w3.setCell ⟨p, 3, none⟩ (.slice A' ws'.length c')) p sn la op A' c' ws' mb n D := by
  obtain ⟨t1, t2⟩ := h.tp
  obtain ⟨hC, hk⟩ := app_col hf h.kw hg (fun k e => (hw.lt k e).2) hat
  have hp : w3.heap[p]? = w.heap[p]? := hg.block p h.row.lt (fun e => (t2 p e.symm).ne t1 (by decide) rfl)
  have hr3 := h.row.of_block hp
  have hm3 : MapV w3 mb n D := map_block h.mp (hg.block mb h.mp.lt (fun e => (t2 mb e.symm).nmap h.mp rfl))
  have hx := hC.1
  have hg4 := hC.setCell (p := ⟨p, 3, none⟩) ((hx p h.row.lt).trans h.cp) (.slice A' ws'.length c')
  refine ⟨(World.cell?_of_block (a := ⟨p, 3, none⟩) hp).trans h.cells.2.2.2.1, (World.frozen?_of_block (a := ⟨p, 3, none⟩) hp).trans (h.fz 3), _, hg4, ?_⟩
  have hTp : Ty w3 p TS := Ty.of_row hr3
  exact {
    row := (hr3.set 3 _).congr fun i hi => (by rcases five hi with rfl | rfl | rfl | rfl | rfl <;> rfl)
    ro := hw.block fun k e => Below.heap_setCell _ _ _ _ ((Ty.of_gv hw e).ne hTp (by decide))
    mp := map_block hm3 (Below.heap_setCell _ _ _ _ (hTp.nmap hm3).symm)
    cp := (hx p h.row.lt).trans h.cp
    kw := hk
    km := (hx mb h.mp.lt).trans h.km }
end
end Go.Proofs.Ytnicomhodnfggaa.seL
