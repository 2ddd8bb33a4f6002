/- A table in memory: worlds that change at blocks of one color alone; rows of versions that nobody changes; the program's table, and what becomes of it where a transaction is put anew. -/
import Derived.Test.YtafocefbpkcoaaaCoO
import Derived.Test.YtafocefbpkcoaaaCoM
import Derived.Test.YtafocefbpkcoaaaCoP
import Derived.Lib.Hide
import Derived.LoopTactic
import Derived.Below
import Derived.WalkLawsBesides
import Derived.Deep.RegionHeld3
import Derived.Deep.DrawnRows
import Derived.Deep.QuietTactic
import Derived.BigQuiet
import Derived.WalkSpells
import Derived.IntWalk
import Derived.Carry
set_option linter.unusedVariables false
set_option linter.unusedSimpArgs false
set_option maxRecDepth 100000
namespace Go.Proofs.Ytafocefbpkcoaaa.coL
open Go.ChangeShapes Go.WideShapes Go.ChangeAt Go.RowKit Go.Deep
open opG opV chnM gen chnA chnR chnE ordA ordC coG coO coM coP

/-! ### Worlds that change at blocks of one color -/
structure Chg (col : Nat → Nat) (c : Nat) (w w' : World) : Prop where
  os : w'.os = w.os
  tape : w'.tape = w.tape
  output : w'.output = w.output
  size : w.heap.size ≤ w'.heap.size
  block : ∀ k, k < w.heap.size → col k ≠ c → w'.heap[k]? = w.heap[k]?
/-- the colors of what was there stay -/
def Ext (w : World) (col col' : Nat → Nat) : Prop := ∀ k, k < w.heap.size → col' k = col k
theorem Ext.refl (w : World) (col : Nat → Nat) : Ext w col col := fun _ _ => rfl
theorem Ext.trans {w w1 : World} {c0 c1 c2 : Nat → Nat} (h1 : Ext w c0 c1) (hs : w.heap.size ≤ w1.heap.size) (h2 : Ext w1 c1 c2) : Ext w c0 c2 := fun k hk => (h2 k (by omega)).trans (h1 k hk)
theorem Chg.refl (col : Nat → Nat) (c : Nat) (w : World) : Chg col c w w := ⟨rfl, rfl, rfl, Nat.le_refl _, fun _ _ _ => rfl⟩
theorem Chg.of_below {w w' : World} (col : Nat → Nat) (c : Nat) (h : Below w.heap.size w w') : Chg col c w w' := ⟨h.os, h.tape, h.output, h.size, fun k hk _ => h.block k hk⟩
theorem Chg.trans {col col' : Nat → Nat} {c : Nat} {w w1 w2 : World} (h : Chg col c w w1) (he : Ext w col col') (h2 : Chg col' c w1 w2) : Chg col c w w2 :=
  ⟨h2.os.trans h.os, h2.tape.trans h.tape, h2.output.trans h.output, Nat.le_trans h.size h2.size, fun k hk hc => (h2.block k (Nat.lt_of_lt_of_le hk h.size) (by rw [he k hk]; exact hc)).trans (h.block k hk hc)⟩
theorem Chg.tran {col : Nat → Nat} {c : Nat} {w w1 w2 : World} (h : Chg col c w w1) (h2 : Chg col c w1 w2) : Chg col c w w2 := h.trans (Ext.refl _ _) h2
theorem Chg.then {col : Nat → Nat} {c : Nat} {w w1 w2 : World} (h : Chg col c w w1) (h2 : Below w1.heap.size w1 w2) : Chg col c w w2 := h.tran (Chg.of_below _ _ h2)
theorem Chg.below {col : Nat → Nat} {c B : Nat} {w w' : World} (h : Chg col c w w') (hB : B ≤ w.heap.size) (hc : ∀ k, k < B → col k ≠ c) : Below B w w' :=
  ⟨h.os, h.tape, h.output, h.size, fun k hk => h.block k (by omega) (hc k hk)⟩
theorem Chg.grown {col : Nat → Nat} {c : Nat} {w w' : World} {row : Option Nat} (hg : w.grownBy w' row) (hr : ∀ k, row = some k → col k = c) : Chg col c w w' :=
  ⟨hg.os, hg.tape, hg.output, hg.size, fun k hk hc => hg.block k hk (fun e => hc (hr k e.symm))⟩
theorem Chg.setCell {col : Nat → Nat} {c : Nat} {w0 w : World} (h : Chg col c w0 w) {p : Addr} (hp : col p.block = c) (u : Value) : Chg col c w0 (w.setCell p u) :=
  h.tran ⟨rfl, rfl, rfl, by rw [World.size_setCell]; exact Nat.le_refl _, fun k _ hc => Below.heap_setCell w p u k (fun e => hc (by rw [e]; exact hp))⟩
theorem Chg.alloc {col : Nat → Nat} {c : Nat} {w0 w : World} (h : Chg col c w0 w) (o : Obj) : Chg col c w0 (w.alloc o) := h.then ((Below.refl _ _).alloc (Nat.le_refl _) o)
theorem Chg.drew {col : Nat → Nat} {c : Nat} {w0 w : World} (h : Chg col c w0 w) : Chg col c w0 w.drew := ⟨h.os, h.tape, h.output, h.size, h.block⟩
def Fresh (col : Nat → Nat) (w : World) : Prop := ∀ k, w.heap.size ≤ k → col k = 0
theorem Fresh.up {col : Nat → Nat} {w w1 : World} (h : Fresh col w) (hs : w.heap.size ≤ w1.heap.size) : Fresh col w1 := fun k hk => h k (by omega)
/-! ### Rows of versions that nobody changes any more -/
structure DV (col : Nat → Nat) (w : World) (A : Option Addr) (cp : Nat) (l : List Ver) : Prop where
  hv : HV w A cp l
  co : l = [] ∨ ∀ y, A = some y → col y.block = 0
theorem hv_block {w w1 : World} {A : Option Addr} {c : Nat} {l : List Ver} (h : HV w A c l) (hs : w.heap.size ≤ w1.heap.size) (hb : l = [] ∨ ∀ y, A = some y → w1.heap[y.block]? = w.heap[y.block]?) : HV w1 A c l := by
  refine { h with row := ?_ }
  rcases h.row with h0 | ⟨b, off, e, hlt, hc⟩
  · exact .inl h0
  · rcases hb with h0 | hb
    · exact .inl (by rw [h0]; rfl)
    · exact .inr ⟨b, off, e, by omega, fun i hi => (hc i hi).of_block (hb _ e)⟩
theorem hv_lt {w : World} {A : Option Addr} {c : Nat} {l : List Ver} (h : HV w A c l) (h0 : l ≠ []) {y : Addr} (e : A = some y) : y.block < w.heap.size := by
  obtain ⟨b, off, e2, hlt, _⟩ := h.at (i := 0) (List.length_pos_iff.2 h0)
  rw [e] at e2; cases e2
  exact hlt
theorem DV.go {col col' : Nat → Nat} {c : Nat} {w w1 : World} {A : Option Addr} {cp : Nat} {l : List Ver} (h : DV col w A cp l) (hg : Chg col c w w1) (hc : c ≠ 0) (he : Ext w col col') : DV col' w1 A cp l := by
  by_cases h0 : l = []
  · exact ⟨hv_block h.hv hg.size (.inl h0), .inl h0⟩
  · have hco := h.co.resolve_left h0
    refine ⟨hv_block h.hv hg.size (.inr fun y e => hg.block _ (hv_lt h.hv h0 e) (by rw [hco y e]; exact fun e => hc e.symm)), .inr fun y e => ?_⟩
    rw [he _ (hv_lt h.hv h0 e)]
    exact hco y e
theorem DV.below {col : Nat → Nat} {w w1 : World} {A : Option Addr} {cp : Nat} {l : List Ver} (h : DV col w A cp l) (hB : Below w.heap.size w w1) : DV col w1 A cp l := h.go (Chg.of_below col 1 hB) (by omega) (Ext.refl _ _)
theorem DV.nil_ (col : Nat → Nat) (w : World) : DV col w none 0 [] := ⟨(GV.nil_ w 0).hv (by simp), .inl rfl⟩
/-- a row of versions of the call's own, given away -/
theorem DV.of_gv {col : Nat → Nat} {w w1 : World} {A : Option Addr} {cp : Nat} {l : List Ver} (h : GV w1 w.heap.size A cp l) (hs : l.length * 64 ≤ 140737488355328) (hf : Fresh col w) : DV col w1 A cp l := by
  refine ⟨h.hv hs, ?_⟩
  by_cases h0 : l = []
  · exact .inl h0
  · refine .inr fun y e => hf _ ?_
    rcases h.2 with ⟨e1, h2⟩ | ⟨g, cap, cur, e1, h2, _⟩
    · simp only [Value.slice.injEq] at e1; rw [e] at e1; cases e1.1
    · simp only [Value.slice.injEq] at e1; rw [e] at e1
      obtain ⟨e3, _, _⟩ := e1
      cases e3
      exact h2

def Cn (c : Nat) (col : Nat → Nat) (w : World) (col' : Nat → Nat) (w' : World) : Prop := Ext w col col' ∧ Fresh col' w' ∧ Chg col c w w'
theorem Cn.trans {c : Nat} {c0 c1 c2 : Nat → Nat} {w w1 w2 : World} (h : Cn c c0 w c1 w1) (k : Cn c c1 w1 c2 w2) : Cn c c0 w c2 w2 :=
  ⟨h.1.trans h.2.2.size k.1, k.2.1, h.2.2.trans h.1 k.2.2⟩
theorem Cn.below {c : Nat} {col : Nat → Nat} {w w1 : World} (hf : Fresh col w) (hB : Below w.heap.size w w1) : Cn c col w col w1 := ⟨Ext.refl _ _, hf.up hB.size, Chg.of_below _ _ hB⟩
theorem Cn.setCell {c : Nat} {c0 c1 : Nat → Nat} {w w1 : World} (h : Cn c c0 w c1 w1) {p : Addr} (hp : c1 p.block = c) (u : Value) : Cn c c0 w c1 (w1.setCell p u) :=
  h.trans ⟨Ext.refl _ _, h.2.1.up (by rw [World.size_setCell]; exact Nat.le_refl _), (Chg.refl _ _ _).setCell hp u⟩
def paintB (col : Nat → Nat) (v : Value) (c : Nat) (k : Nat) : Nat := if v.ownBlock = some k then c else col k
theorem app_col {col : Nat → Nat} {c : Nat} {w w' : World} {v v' : Value} (hf : Fresh col w) (hv : ∀ k, v.ownBlock = some k → col k = c) (hg : w.grownBy w' v.ownBlock)
    (hlt : ∀ k, v'.ownBlock = some k → k < w'.heap.size) (hat : v'.ownBlock = v.ownBlock ∨ v'.ownBlock = some w.heap.size) :
    Cn c col w (paintB col v' c) w' ∧ ∀ k, v'.ownBlock = some k → paintB col v' c k = c := by
  refine ⟨⟨fun k hk => ?_, fun k hk => ?_, Chg.grown hg hv⟩, fun k e => if_pos e⟩
  · unfold paintB
    by_cases e : v'.ownBlock = some k
    · rw [if_pos e]
      rcases hat with h1 | h1
      · rw [h1] at e; exact (hv k e).symm
      · rw [h1] at e; have := Option.some.inj e; omega
    · rw [if_neg e]
  · unfold paintB
    rw [if_neg (fun e => by have := hlt k e; omega)]
    exact hf k (by have := hg.size; omega)

theorem Ty.of_gv {w : World} {base cap : Nat} {A : Option Addr} {l : List Ver} (h : GV w base A cap l) {k : Nat} (hk : (Value.slice A l.length cap).ownBlock = some k) : Ty w k 64 := by
  rcases h.2 with ⟨e, _⟩ | ⟨g, cp, cur, e, _, hg, _⟩
  · rw [e] at hk; cases hk
  · rw [e] at hk; cases hk; exact ⟨cur, hg⟩
/-! ### Nodes and their places -/
theorem nd_rev {l : List Int} : l.reverse.Nodup ↔ l.Nodup := List.pairwise_reverse.trans ⟨fun h => h.imp Ne.symm, fun h => h.imp Ne.symm⟩
def plR : List Int → PL
  | [] => []
  | n :: r => pup (plR r) n (.int .i64 r.length)
def plN (ns : List Int) : PL := plR ns.reverse
theorem plN_snoc (ns : List Int) (n : Int) : plN (ns ++ [n]) = pup (plN ns) n (.int .i64 ns.length) := by unfold plN; rw [List.reverse_append]; simp [plR]
theorem plR_df : ∀ r : List Int, Dfp (plR r)
  | [] => List.nodup_nil
  | n :: r => pu_dif (plR_df r) _ _
theorem plR_has (r : List Int) (m : Int) : (fnp (plR r) m).isSome = true ↔ m ∈ r := by
  induction r with
  | nil => simp [plR, fnp]
  | cons n r ih =>
    show (fnp (pup (plR r) n (.int .i64 r.length)) m).isSome = true ↔ _
    rw [fnp_pu, List.mem_cons]
    by_cases e : m = n
    · rw [if_pos e]; simp [e]
    · rw [if_neg e, ih]; simp [e]
theorem plR_len (r : List Int) : (plR r).length ≤ r.length ∧ ((plR r).length = r.length ↔ r.Nodup) := by
  induction r with
  | nil => simp [plR]
  | cons n r ih =>
    have h1 := pu_len (plR_df r) n (.int .i64 r.length)
    have h2 := plR_has r n
    rw [List.nodup_cons]
    show (pup (plR r) n (.int .i64 r.length)).length ≤ _ ∧ ((pup (plR r) n (.int .i64 r.length)).length = _ ↔ _)
    rw [h1, List.length_cons]
    by_cases hm : n ∈ r
    · rw [if_pos (h2.2 hm)]
      refine ⟨by omega, fun e => by omega, fun h => absurd hm h.1⟩
    · rw [if_neg (fun e => hm (h2.1 e))]
      refine ⟨by omega, fun e => ⟨hm, ih.2.1 (by omega)⟩, fun h => by have := ih.2.2 h.2; omega⟩
theorem plN_len (ns : List Int) : (plN ns).length ≤ ns.length ∧ ((plN ns).length = ns.length ↔ ns.Nodup) := by
  have := plR_len ns.reverse
  rw [List.length_reverse] at this
  exact ⟨this.1, this.2.trans nd_rev⟩
theorem plR_at : ∀ (r : List Int) (k : Nat) (m : Int), r.Nodup → r.reverse[k]? = some m → fnp (plR r) m = some (.int .i64 k)
  | [], k, m, _, h => by simp at h
  | n :: r, k, m, hd, h => by
    obtain ⟨h1, h2⟩ := List.nodup_cons.1 hd
    rw [List.reverse_cons] at h
    show fnp (pup (plR r) n (.int .i64 r.length)) m = _
    rw [fnp_pu]
    by_cases hk : k < r.length
    · rw [List.getElem?_append_left (by rw [List.length_reverse]; exact hk)] at h
      have hm : m ∈ r := List.mem_reverse.1 (List.mem_of_getElem? h)
      rw [if_neg (fun e => h1 (by rw [← e]; exact hm))]
      exact plR_at r k m h2 h
    · rw [List.getElem?_append_right (by rw [List.length_reverse]; omega), List.length_reverse] at h
      have h3 := (List.getElem?_eq_some_iff.1 h).1
      simp at h3
      have e : k = r.length := by omega
      subst e
      simp at h
      rw [if_pos h.symm]
theorem plN_at {ns : List Int} (hd : ns.Nodup) {k : Nat} {m : Int} (h : ns[k]? = some m) : fnp (plN ns) m = some (.int .i64 k) := plR_at ns.reverse k m (nd_rev.2 hd) (by rw [List.reverse_reverse]; exact h)
theorem plN_none {ns : List Int} {m : Int} (h : m ∉ ns) : fnp (plN ns) m = none := by
  have := plR_has ns.reverse m
  cases hf : fnp (plN ns) m with
  | none => rfl
  | some v =>
    have h2 : (fnp (plR ns.reverse) m).isSome = true := by show (fnp (plN ns) m).isSome = true; rw [hf]; rfl
    exact absurd (List.mem_reverse.1 (this.1 h2)) h
/-! ### The program's table -/
abbrev TT : TypeId := 72
abbrev TX : TypeId := 79
abbrev TD : TypeId := 88
abbrev TM : TypeId := 70
abbrev TN : TypeId := 77
/-- a side: a share, who has voted, who has ended -/
structure Sd where
  r : SR
  v : Bool
  e : Bool
def cD (x : Sd) : List Value := [.int .i64 x.r.node, .slice x.r.A x.r.vs.length x.r.c, .bool x.v, .bool x.e]
theorem cD_one (x : Sd) : ∀ u ∈ cD x, u.oneCell' = true := by
  intro u hu
  simp only [cD, List.mem_cons, List.not_mem_nil, or_false] at hu
  rcases hu with rfl | rfl | rfl | rfl <;> rfl
abbrev sdS : Shape Sd := ⟨TD, 4, cD, fun _ => rfl, by decide, cD_one⟩
def sdl (vt : List Vt) (rs : List SR) : List Sd := rs.map fun r => ⟨r, hasV vt r.node, endV vt r.node⟩
def cX (low : Int) (s m : Value) (v e : Int) (g : Int) (k : Nat) : Value := if k = 0 then .int .u64 low else if k = 1 then s else if k = 2 then m else if k = 3 then .int .i64 v else if k = 4 then .int .i64 e else .int .u64 g
def ends (vt : List Vt) : Nat := vt.countP (·.en)
theorem six6 {i : Nat} (hi : i < 6) : i = 0 ∨ i = 1 ∨ i = 2 ∨ i = 3 ∨ i = 4 ∨ i = 5 := by omega
/-- a transaction, and where it lies -/
structure Tx where
  tx : Int
  low : Int
  rs : List SR
  vt : List Vt
  p : Nat
  g : Nat
  gc : Nat
  mb : Nat
  D : DM
def Tx.e (x : Tx) : En := ⟨x.tx, x.low, x.rs.map SR.s, x.vt⟩
def Tx.ns (x : Tx) : List Int := x.rs.map (·.node)
theorem Tx.nds_e (x : Tx) : nds x.e.sh = x.ns := by unfold Tx.e Tx.ns nds SR.s; simp
structure TxM (col : Nat → Nat) (c : Nat) (w : World) (x : Tx) : Prop where
  row : w.rowIs x.p TX 6 (cX x.low (.slice (some ⟨x.g, 0, none⟩) x.rs.length x.gc) (.map (some x.mb)) x.vt.length (ends x.vt) (top x.vt))
  sd : Own sdS w 0 (some ⟨x.g, 0, none⟩) x.gc (sdl x.vt x.rs)
  mp : w.ownsMap Try.prog 3 hV x.mb (plN x.ns).length x.D
  cr : CR .i64 (plN x.ns) x.D
  dv : ∀ r ∈ x.rs, DV col w r.A r.c r.vs
  cp : col x.p = c
  cg : col x.g = c
  cm : col x.mb = c
structure TabM (col : Nat → Nat) (c : Nat) (w : World) (t mb : Nat) (D : DM) (l : List Tx) : Prop where
  row : w.rowIs t TT 1 (fun _ => .map (some mb))
  mp : w.ownsMap Try.prog 29 hV mb l.length D
  cr : CR .u64 (l.map fun x => (x.tx, .pointer (some ⟨x.p, 0, none⟩))) D
  xs : ∀ x ∈ l, TxM col c w x
  ap : l.Pairwise fun a b => a.p ≠ b.p ∧ a.g ≠ b.g ∧ a.mb ≠ b.mb
  tm : ∀ x ∈ l, x.mb ≠ mb
  ct : col t = c
  cm : col mb = c
def TabAt (col : Nat → Nat) (c : Nat) (w : World) (t : Nat) (os : Ens) : Prop := ∃ mb D l, TabM col c w t mb D l ∧ os = l.map Tx.e
/-- What a call leaves: blocks of the table's color alone have changed. -/
def Lv (col : Nat → Nat) (c : Nat) (t : Nat) (os : Ens) (w w' : World) : Prop := ∃ col', Cn c col w col' w' ∧ TabAt col' c w' t os
section
variable {col col' : Nat → Nat} {c d : Nat} {w w1 : World} {t mb : Nat} {D D' : DM} {l : List Tx} {x x' : Tx} {os : Ens}
theorem sdl_len (vt : List Vt) (rs : List SR) : (sdl vt rs).length = rs.length := by simp [sdl]
theorem TxM.other (h : TxM col c w x) (hg : Chg col d w w1) (hd : d ≠ 0) (hcd : c ≠ d) (he : Ext w col col') : TxM col' c w1 x where
  row := h.row.of_block (hg.block x.p h.row.lt (by rw [h.cp]; exact hcd))
  sd := h.sd.block fun k e => hg.block k (h.sd.lt e).2.1 (by cases e; rw [h.cg]; exact hcd)
  mp := map_block h.mp (hg.block x.mb h.mp.lt (by rw [h.cm]; exact hcd))
  cr := h.cr
  dv := fun r hr => (h.dv r hr).go hg hd he
  cp := (he x.p h.row.lt).trans h.cp
  cg := (he x.g (h.sd.lt rfl).2.1).trans h.cg
  cm := (he x.mb h.mp.lt).trans h.cm
theorem TabM.other (h : TabM col c w t mb D l) (hg : Chg col d w w1) (hd : d ≠ 0) (hcd : c ≠ d) (he : Ext w col col') : TabM col' c w1 t mb D l where
  row := h.row.of_block (hg.block t h.row.lt (by rw [h.ct]; exact hcd))
  mp := map_block h.mp (hg.block mb h.mp.lt (by rw [h.cm]; exact hcd))
  cr := h.cr
  xs := fun x hx => (h.xs x hx).other hg hd hcd he
  ap := h.ap
  tm := h.tm
  ct := (he t h.row.lt).trans h.ct
  cm := (he mb h.mp.lt).trans h.cm
theorem TabM.below (h : TabM col c w t mb D l) (hB : Below w.heap.size w w1) : TabM col c w1 t mb D l := h.other (Chg.of_below col (c + 1) hB) (by omega) (by omega) (Ext.refl _ _)
theorem TxM.below (h : TxM col c w x) (hB : Below w.heap.size w w1) : TxM col c w1 x := h.other (Chg.of_below col (c + 1) hB) (by omega) (by omega) (Ext.refl _ _)
theorem TabAt.other (h : TabAt col c w t os) (hg : Chg col d w w1) (hd : d ≠ 0) (hcd : c ≠ d) (he : Ext w col col') : TabAt col' c w1 t os := by
  obtain ⟨mb, D, l, h, e⟩ := h
  exact ⟨_, _, _, h.other hg hd hcd he, e⟩
theorem TabAt.below (h : TabAt col c w t os) (hB : Below w.heap.size w w1) : TabAt col c w1 t os := h.other (Chg.of_below col (c + 1) hB) (by omega) (by omega) (Ext.refl _ _)
theorem lv_stay (h : TabAt col c w t os) (hf : Fresh col w) (hB : Below w.heap.size w w1) : Lv col c t os w w1 := ⟨col, Cn.below hf hB, h.below hB⟩
theorem TxM.cells (h : TxM col c w x) : w.cell? ⟨x.p, 0, none⟩ = some (.int .u64 x.low) ∧ w.cell? ⟨x.p, 1, none⟩ = some (.slice (some ⟨x.g, 0, none⟩) x.rs.length x.gc) ∧ w.cell? ⟨x.p, 2, none⟩ = some (.map (some x.mb)) ∧ w.cell? ⟨x.p, 3, none⟩ = some (.int .i64 (x.vt.length : Nat)) ∧ w.cell? ⟨x.p, 4, none⟩ = some (.int .i64 (ends x.vt : Nat)) ∧ w.cell? ⟨x.p, 5, none⟩ = some (.int .u64 (top x.vt)) ∧ ∀ o, w.frozen? ⟨x.p, o, none⟩ = false :=
  ⟨h.row.cell (i := 0) (by omega), h.row.cell (i := 1) (by omega), h.row.cell (i := 2) (by omega), h.row.cell (i := 3) (by omega), h.row.cell (i := 4) (by omega), h.row.cell (i := 5) (by omega), fun o => h.row.frozen o⟩
theorem TxM.side (h : TxM col c w x) {k : Nat} {r : SR} (hr : x.rs[k]? = some r) : w.cell? ⟨x.g, k * 4, none⟩ = some (.int .i64 r.node) ∧ w.cell? ⟨x.g, k * 4 + 1, none⟩ = some (.slice r.A r.vs.length r.c) ∧ w.cell? ⟨x.g, k * 4 + 2, none⟩ = some (.bool (hasV x.vt r.node)) ∧ w.cell? ⟨x.g, k * 4 + 3, none⟩ = some (.bool (endV x.vt r.node)) ∧ ∀ o, w.frozen? ⟨x.g, o, none⟩ = false := by
  have hx : (sdl x.vt x.rs)[k]? = some ⟨r, hasV x.vt r.node, endV x.vt r.node⟩ := by unfold sdl; rw [List.getElem?_map, hr]; rfl
  obtain ⟨g, e, _, _, h3, h4⟩ := h.sd.at_ hx
  cases e
  exact ⟨h3 0 _ rfl, h3 1 _ rfl, h3 2 _ rfl, h3 3 _ rfl, h4⟩
theorem TxM.ne (h : TxM col c w x) : x.p ≠ x.g ∧ x.p ≠ x.mb ∧ x.g ≠ x.mb :=
  ⟨(Ty.of_row h.row).ne (h.sd.lt rfl).2.2 (by decide), (Ty.of_row h.row).nmap h.mp, (h.sd.lt rfl).2.2.nmap h.mp⟩
/-- A transaction where nothing of it has changed. -/
theorem TxM.kept (h : TxM col c w x) (hg : Chg col c w w1) (hc : c ≠ 0) (he : Ext w col col') (h1 : w1.heap[x.p]? = w.heap[x.p]?) (h2 : w1.heap[x.g]? = w.heap[x.g]?) (h3 : w1.heap[x.mb]? = w.heap[x.mb]?) : TxM col' c w1 x where
  row := h.row.of_block h1
  sd := h.sd.block fun k e => by cases e; exact h2
  mp := map_block h.mp h3
  cr := h.cr
  dv := fun r hr => (h.dv r hr).go hg hc he
  cp := (he x.p h.row.lt).trans h.cp
  cg := (he x.g (h.sd.lt rfl).2.1).trans h.cg
  cm := (he x.mb h.mp.lt).trans h.cm
theorem pw_at {α : Type} {R : α → α → Prop} {a b : List α} {x : α} (h : (a ++ x :: b).Pairwise R) : (∀ y ∈ a, R y x) ∧ (∀ y ∈ b, R x y) := by
  have h1 := List.pairwise_append.1 h
  exact ⟨fun y hy => h1.2.2 y hy x (List.mem_cons_self ..), (List.pairwise_cons.1 h1.2.1).1⟩
theorem pw_put {α : Type} {R : α → α → Prop} {a b : List α} {x x' : α} (h : (a ++ x :: b).Pairwise R) (h1 : ∀ y, R y x → R y x') (h2 : ∀ y, R x y → R x' y) : (a ++ x' :: b).Pairwise R := by
  have h3 := List.pairwise_append.1 h
  have h4 := List.pairwise_cons.1 h3.2.1
  refine List.pairwise_append.2 ⟨h3.1, List.pairwise_cons.2 ⟨fun y hy => h2 y (h4.1 y hy), h4.2⟩, fun y hy z hz => ?_⟩
  rcases List.mem_cons.1 hz with rfl | hz
  · exact h1 y (h3.2.2 y hy x (List.mem_cons_self ..))
  · exact h3.2.2 y hy z (List.mem_cons_of_mem _ hz)
/-- One transaction is put anew: at its own block and at its sides alone the world has changed. -/
theorem TabM.put {a b : List Tx} (h : TabM col c w t mb D (a ++ x :: b)) (hc : c ≠ 0) (hs : w.heap.size = w1.heap.size) (hg : Chg col c w w1) (hk : ∀ k, k ≠ x.p → k ≠ x.g → w1.heap[k]? = w.heap[k]?) (h1 : TxM col c w1 x') (e1 : x'.tx = x.tx) (e2 : x'.p = x.p) (e3 : x'.g = x.g) (e4 : x'.mb = x.mb) : TabM col c w1 t mb D (a ++ x' :: b) := by
  have hx := h.xs x (by simp)
  have tp := Ty.of_row hx.row
  have tg := (hx.sd.lt (k := x.g) rfl).2.2
  have tt := Ty.of_row h.row
  obtain ⟨pa, pb⟩ := pw_at h.ap
  have hkeep : ∀ y, y ∈ a ++ x :: b → y.p ≠ x.p → y.g ≠ x.g → TxM col c w1 y := fun y hy n1 n2 => by
    have hy' := h.xs y hy
    refine hy'.kept hg hc (Ext.refl _ _) (hk _ n1 ?_) (hk _ ?_ n2) (hk _ ?_ ?_)
    · exact (Ty.of_row hy'.row).ne tg (by decide)
    · exact (hy'.sd.lt rfl).2.2.ne tp (by decide)
    · exact (tp.nmap hy'.mp).symm
    · exact (tg.nmap hy'.mp).symm
  refine { row := h.row.of_block (hk t (tt.ne tp (by decide)) (tt.ne tg (by decide))), mp := ?_, cr := ?_, xs := fun y hy => ?_, ap := ?_, tm := fun y hy => ?_, ct := h.ct, cm := h.cm }
  · have := map_block h.mp (hk mb (tp.nmap h.mp).symm (tg.nmap h.mp).symm)
    simpa using this
  · have := h.cr
    simp only [List.map_append, List.map_cons, e1, e2] at this ⊢
    exact this
  · rcases List.mem_append.1 hy with hy | hy
    · have := pa y hy
      exact hkeep y (List.mem_append.2 (.inl hy)) this.1 this.2.1
    · rcases List.mem_cons.1 hy with rfl | hy
      · exact h1
      · have := pb y hy
        exact hkeep y (List.mem_append.2 (.inr (List.mem_cons_of_mem _ hy))) this.1.symm this.2.1.symm
  · exact pw_put h.ap (fun y hy => by rw [e2, e3, e4]; exact hy) (fun y hy => by rw [e2, e3, e4]; exact hy)
  · rcases List.mem_append.1 hy with hy | hy
    · exact h.tm y (List.mem_append.2 (.inl hy))
    · rcases List.mem_cons.1 hy with rfl | hy
      · rw [e4]; exact h.tm x (by simp)
      · exact h.tm y (List.mem_append.2 (.inr (List.mem_cons_of_mem _ hy)))
/-- Where a transaction stands. -/
theorem fnE_split {tx : Int} {e : En} (h : fnE (l.map Tx.e) tx = some e) : ∃ a x b, l = a ++ x :: b ∧ x.e = e ∧ x.tx = tx := by
  induction l with
  | nil => cases h
  | cons y l ih =>
    rw [List.map_cons] at h
    unfold fnE at h
    split at h
    · rename_i h1
      exact ⟨[], y, l, rfl, Option.some.inj h, h1⟩
    · obtain ⟨a, x, b, rfl, h2, h3⟩ := ih h
      exact ⟨y :: a, x, b, rfl, h2, h3⟩
theorem fnp_some {a b : List Tx} (hd : DifE ((a ++ x :: b).map Tx.e)) : fnp ((a ++ x :: b).map fun x => (x.tx, (.pointer (some ⟨x.p, 0, none⟩) : Value))) x.tx = some (.pointer (some ⟨x.p, 0, none⟩)) := by
  refine fnp_of_mem (x := (x.tx, .pointer (some ⟨x.p, 0, none⟩))) ?_ (List.mem_map.2 ⟨x, by simp, rfl⟩)
  unfold Dfp
  unfold DifE at hd
  rw [List.map_map] at hd ⊢
  exact hd
theorem fnp_no {tx : Int} (h : fnE (l.map Tx.e) tx = none) : fnp (l.map fun x => (x.tx, (.pointer (some ⟨x.p, 0, none⟩) : Value))) tx = none := by
  rw [fnp_none]
  intro y hy
  obtain ⟨x, hx, rfl⟩ := List.mem_map.1 hy
  exact fnE_none.1 h x.e (List.mem_map.2 ⟨x, hx, rfl⟩)
end
end Go.Proofs.Ytafocefbpkcoaaa.coL
