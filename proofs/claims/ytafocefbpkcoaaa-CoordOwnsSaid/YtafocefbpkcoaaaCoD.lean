/- The document's table in memory. -/
import Derived.Test.YtafocefbpkcoaaaCoK
import Derived.Test.YtafocefbpkcoaaaCoN
set_option linter.unusedVariables false
set_option linter.unusedSimpArgs false
set_option maxRecDepth 100000
namespace Go.Proofs.Ytafocefbpkcoaaa.coD
open Go.ChangeShapes Go.WideShapes Go.ChangeAt Go.RowKit Go.Deep
open opG opV chnM gen chnA chnR chnE ordA ordC coG coO coM coP coL coK coN

abbrev TQ : TypeId := 28
abbrev TE : TypeId := 83
abbrev TW : TypeId := 92
abbrev shD : Shape SR := ⟨62, 2, cS, fun _ => rfl, by decide, cS_one⟩
def cW (v : Vt) : List Value := [.int .i64 v.node, .int .u64 v.t, .bool v.en]
theorem cW_one (v : Vt) : ∀ u ∈ cW v, u.oneCell' = true := by
  intro u hu
  simp only [cW, List.mem_cons, List.not_mem_nil, or_false] at hu
  rcases hu with rfl | rfl | rfl <;> rfl
abbrev shW : Shape Vt := ⟨TW, 3, cW, fun _ => rfl, by decide, cW_one⟩
/-- an entry, and where its rows lie -/
structure DE where
  tx : Int
  low : Int
  rs : List SR
  A1 : Option Addr
  c1 : Nat
  vt : List Vt
  A2 : Option Addr
  c2 : Nat
instance : Inhabited DE := ⟨⟨0, 0, [], none, 0, [], none, 0⟩⟩
def DE.e (x : DE) : En := ⟨x.tx, x.low, x.rs.map SR.s, x.vt⟩
def DE.ns (x : DE) : List Int := x.rs.map (·.node)
theorem nds_de (x : DE) : nds x.e.sh = x.ns := by unfold DE.e DE.ns nds SR.s; simp
theorem len_de (x : DE) : x.e.sh.length = x.rs.length := by unfold DE.e; simp
def cE (x : DE) : List Value := [.int .u64 x.tx, .int .u64 x.low, .slice x.A1 x.rs.length x.c1, .slice x.A2 x.vt.length x.c2]
theorem cE_one (x : DE) : ∀ u ∈ cE x, u.oneCell' = true := by
  intro u hu
  simp only [cE, List.mem_cons, List.not_mem_nil, or_false] at hu
  rcases hu with rfl | rfl | rfl | rfl <;> rfl
abbrev shE : Shape DE := ⟨TE, 4, cE, fun _ => rfl, by decide, cE_one⟩
abbrev vv2 (x : DE) : Option Nat := (Value.slice x.A2 x.vt.length x.c2).ownBlock
structure DeM (col : Nat → Nat) (c : Nat) (w : World) (x : DE) : Prop where
  sh : Rd shD w x.A1 x.c1 x.rs
  sco : x.rs = [] ∨ ∀ y, x.A1 = some y → col y.block = 0
  dv : ∀ r ∈ x.rs, DV col w r.A r.c r.vs
  vt : coG.Own shW w 0 x.A2 x.c2 x.vt
  cv : ∀ k, vv2 x = some k → col k = c
structure DocM (col : Nat → Nat) (c : Nat) (w : World) (q : Nat) (A : Option Addr) (cA : Nat) (l : List DE) : Prop where
  row : w.rowIs q TQ 1 (fun _ => .slice A l.length cA)
  ro : coG.Own shE w 0 A cA l
  xs : ∀ x ∈ l, DeM col c w x
  ap : l.Pairwise fun a b => ∀ k, vv2 a = some k → vv2 b ≠ some k
  cq : col q = c
  co : ∀ k, (Value.slice A l.length cA).ownBlock = some k → col k = c
def DocAt (col : Nat → Nat) (c : Nat) (w : World) (q : Nat) (os : Ens) : Prop := ∃ A cA l, DocM col c w q A cA l ∧ os = l.map DE.e
def DLv (col : Nat → Nat) (c : Nat) (q : Nat) (os : Ens) (w w' : World) : Prop := ∃ col', Cn c col w col' w' ∧ DocAt col' c w' q os
section
variable {col col' : Nat → Nat} {c d : Nat} {w w1 w2 : World} {q cA : Nat} {A : Option Addr} {l a b : List DE} {x x' : DE} {os : Ens}
theorem DeM.other (h : DeM col c w x) (hg : Chg col d w w1) (hd : d ≠ 0) (hcd : c ≠ d) (he : Ext w col col') : DeM col' c w1 x where
  sh := by
    by_cases h0 : x.rs = []
    · exact h.sh.of_block hg.size (.inl h0)
    · exact h.sh.of_block hg.size (.inr fun y e => hg.block _ (h.sh.lt h0 e) (by rw [h.sco.resolve_left h0 y e]; exact fun e => hd e.symm))
  sco := by
    by_cases h0 : x.rs = []
    · exact .inl h0
    · exact .inr fun y e => (he _ (h.sh.lt h0 e)).trans (h.sco.resolve_left h0 y e)
  dv := fun r hr => (h.dv r hr).go hg hd he
  vt := h.vt.block fun k e => hg.block k (h.vt.lt e).2.1 (by rw [h.cv k e]; exact hcd)
  cv := fun k e => (he k (h.vt.lt e).2.1).trans (h.cv k e)
theorem DeM.kept (h : DeM col c w x) (hg : Chg col c w w1) (hc : c ≠ 0) (he : Ext w col col') (h2 : ∀ k, vv2 x = some k → w1.heap[k]? = w.heap[k]?) : DeM col' c w1 x where
  sh := by
    by_cases h0 : x.rs = []
    · exact h.sh.of_block hg.size (.inl h0)
    · exact h.sh.of_block hg.size (.inr fun y e => hg.block _ (h.sh.lt h0 e) (by rw [h.sco.resolve_left h0 y e]; exact fun e => hc e.symm))
  sco := by
    by_cases h0 : x.rs = []
    · exact .inl h0
    · exact .inr fun y e => (he _ (h.sh.lt h0 e)).trans (h.sco.resolve_left h0 y e)
  dv := fun r hr => (h.dv r hr).go hg hc he
  vt := h.vt.block h2
  cv := fun k e => (he k (h.vt.lt e).2.1).trans (h.cv k e)
theorem DocM.other (h : DocM col c w q A cA l) (hg : Chg col d w w1) (hd : d ≠ 0) (hcd : c ≠ d) (he : Ext w col col') : DocM col' c w1 q A cA l where
  row := h.row.of_block (hg.block q h.row.lt (by rw [h.cq]; exact hcd))
  ro := h.ro.block fun k e => hg.block k (h.ro.lt e).2.1 (by rw [h.co k e]; exact hcd)
  xs := fun x hx => (h.xs x hx).other hg hd hcd he
  ap := h.ap
  cq := (he q h.row.lt).trans h.cq
  co := fun k e => (he k (h.ro.lt e).2.1).trans (h.co k e)
theorem DocM.below (h : DocM col c w q A cA l) (hB : Below w.heap.size w w1) : DocM col c w1 q A cA l := h.other (Chg.of_below col (c + 1) hB) (by omega) (by omega) (Ext.refl _ _)
theorem DeM.below (h : DeM col c w x) (hB : Below w.heap.size w w1) : DeM col c w1 x := h.other (Chg.of_below col (c + 1) hB) (by omega) (by omega) (Ext.refl _ _)
theorem DocAt.other (h : DocAt col c w q os) (hg : Chg col d w w1) (hd : d ≠ 0) (hcd : c ≠ d) (he : Ext w col col') : DocAt col' c w1 q os := by
  obtain ⟨A, cA, l, h, e⟩ := h
  exact ⟨_, _, _, h.other hg hd hcd he, e⟩
theorem DocAt.below (h : DocAt col c w q os) (hB : Below w.heap.size w w1) : DocAt col c w1 q os := h.other (Chg.of_below col (c + 1) hB) (by omega) (by omega) (Ext.refl _ _)
theorem dlv_stay (h : DocAt col c w q os) (hf : Fresh col w) (hB : Below w.heap.size w w1) : DLv col c q os w w1 := ⟨col, Cn.below hf hB, h.below hB⟩
theorem dlv_then (h : DLv col c q os w w1) (hB : Below w1.heap.size w1 w2) : DLv col c q os w w2 := by
  obtain ⟨col', hC, hT⟩ := h
  exact ⟨col', hC.trans (Cn.below hC.2.1 hB), hT.below hB⟩
theorem dlv_ahead (hf : Fresh col w) (hB : Below w.heap.size w w1) (h : DLv col c q os w1 w2) : DLv col c q os w w2 := by
  obtain ⟨col', hC, hT⟩ := h
  exact ⟨col', (Cn.below hf hB).trans hC, hT⟩
theorem DocM.cell (h : DocM col c w q A cA l) : w.cell? ⟨q, 0, none⟩ = some (.slice A l.length cA) ∧ w.frozen? ⟨q, 0, none⟩ = false := ⟨h.row.cell (i := 0) (by omega), h.row.frozen 0⟩
/-- an entry of the row -/
theorem DocM.at_ (h : DocM col c w q A cA l) {i : Nat} (hx : l[i]? = some x) : ∃ g, A = some ⟨g, 0, none⟩ ∧ w.cell? ⟨g, i * 4, none⟩ = some (.int .u64 x.tx) ∧ w.cell? ⟨g, i * 4 + 1, none⟩ = some (.int .u64 x.low) ∧ w.cell? ⟨g, i * 4 + 2, none⟩ = some (.slice x.A1 x.rs.length x.c1) ∧ w.cell? ⟨g, i * 4 + 3, none⟩ = some (.slice x.A2 x.vt.length x.c2) ∧ ∀ o, w.frozen? ⟨g, o, none⟩ = false := by
  obtain ⟨g, e, _, _, h3, h4⟩ := h.ro.at_ hx
  exact ⟨g, e, h3 0 _ rfl, h3 1 _ rfl, h3 2 _ rfl, h3 3 _ rfl, h4⟩
/-- a share of an entry -/
theorem DeM.share (h : DeM col c w x) {k : Nat} {r : SR} (hr : x.rs[k]? = some r) : ∃ b off, x.A1 = some ⟨b, off, none⟩ ∧ w.cell? ⟨b, off + k * 2, none⟩ = some (.int .i64 r.node) ∧ w.cell? ⟨b, off + k * 2 + 1, none⟩ = some (.slice r.A r.vs.length r.c) := by
  obtain ⟨b, off, e, _, hc⟩ := h.sh.at_ hr
  exact ⟨b, off, e, hc 0 _ rfl, hc 1 _ rfl⟩
/-- a vote of an entry -/
theorem DeM.vote (h : DeM col c w x) {k : Nat} {v : Vt} (hv : x.vt[k]? = some v) : ∃ g, x.A2 = some ⟨g, 0, none⟩ ∧ w.cell? ⟨g, k * 3, none⟩ = some (.int .i64 v.node) ∧ w.cell? ⟨g, k * 3 + 1, none⟩ = some (.int .u64 v.t) ∧ w.cell? ⟨g, k * 3 + 2, none⟩ = some (.bool v.en) ∧ ∀ o, w.frozen? ⟨g, o, none⟩ = false := by
  obtain ⟨g, e, _, _, h3, h4⟩ := h.vt.at_ hv
  exact ⟨g, e, h3 0 _ rfl, h3 1 _ rfl, h3 2 _ rfl, h4⟩
end
/-! ### Where an entry stands -/
def posE : Ens → Int → Nat
  | [], _ => 0
  | x :: l, k => if x.tx = k then 0 else posE l k + 1
def dfI (os : Ens) (tx : Int) : Int := match fnE os tx with
  | none => -1
  | some _ => (posE os tx : Nat)
theorem posE_at {os : Ens} {tx : Int} {x : En} (h : fnE os tx = some x) : os[posE os tx]? = some x ∧ posE os tx < os.length := by
  induction os with
  | nil => cases h
  | cons y l ih =>
    unfold fnE at h
    unfold posE
    by_cases e : y.tx = tx
    · rw [if_pos e] at h ⊢
      cases h
      exact ⟨rfl, by simp⟩
    · rw [if_neg e] at h ⊢
      have := ih h
      exact ⟨by rw [List.getElem?_cons_succ]; exact this.1, by simp only [List.length_cons]; omega⟩
theorem fnE_first {os : Ens} {tx : Int} {x : En} {j : Nat} (h : ∀ i y, i < j → os[i]? = some y → y.tx ≠ tx) (hx : os[j]? = some x) (e : x.tx = tx) : fnE os tx = some x ∧ posE os tx = j := by
  induction os generalizing j with
  | nil => simp at hx
  | cons y l ih =>
    unfold fnE posE
    cases j with
    | zero =>
      simp only [List.getElem?_cons_zero, Option.some.injEq] at hx
      subst hx
      rw [if_pos e, if_pos e]
      exact ⟨rfl, rfl⟩
    | succ j =>
      have hne : y.tx ≠ tx := h 0 y (by omega) rfl
      rw [if_neg hne, if_neg hne]
      have := ih (j := j) (fun i z hi hz => h (i + 1) z (by omega) (by simpa using hz)) (by simpa using hx)
      exact ⟨this.1, by rw [this.2]⟩
theorem fnE_last {os : Ens} {tx : Int} (h : ∀ i y, i < os.length → os[i]? = some y → y.tx ≠ tx) : fnE os tx = none := by
  rw [fnE_none]
  intro x hx
  obtain ⟨i, hi, rfl⟩ := List.getElem_of_mem hx
  exact h i _ hi (List.getElem?_eq_getElem hi)
/-! ### Where a vote stands -/
def posV : List Vt → Int → Nat
  | [], _ => 0
  | x :: l, k => if x.node = k then 0 else posV l k + 1
def dvI (vt : List Vt) (n : Int) : Int := if hasV vt n = true then (posV vt n : Nat) else -1
theorem posV_first {vt : List Vt} {n : Int} {v : Vt} {j : Nat} (h : ∀ i y, i < j → vt[i]? = some y → y.node ≠ n) (hv : vt[j]? = some v) (e : v.node = n) : fnV vt n = some v ∧ posV vt n = j := by
  induction vt generalizing j with
  | nil => simp at hv
  | cons y l ih =>
    unfold fnV posV
    cases j with
    | zero =>
      simp only [List.getElem?_cons_zero, Option.some.injEq] at hv
      subst hv
      rw [if_pos e, if_pos e]
      exact ⟨rfl, rfl⟩
    | succ j =>
      have hne : y.node ≠ n := h 0 y (by omega) rfl
      rw [if_neg hne, if_neg hne]
      have := ih (j := j) (fun i z hi hz => h (i + 1) z (by omega) (by simpa using hz)) (by simpa using hv)
      exact ⟨this.1, by rw [this.2]⟩
theorem posV_none {vt : List Vt} {n : Int} (h : ∀ i y, i < vt.length → vt[i]? = some y → y.node ≠ n) : hasV vt n = false := by
  cases hh : hasV vt n with
  | false => rfl
  | true =>
    obtain ⟨v, hv, e⟩ := List.mem_map.1 (hasV_iff.1 hh)
    obtain ⟨i, hi, rfl⟩ := List.getElem_of_mem hv
    exact absurd e (h i _ hi (List.getElem?_eq_getElem hi))
theorem posV_at {vt : List Vt} {n : Int} (h : hasV vt n = true) : ∃ v, vt[posV vt n]? = some v ∧ v.node = n ∧ fnV vt n = some v := by
  induction vt with
  | nil => cases h
  | cons y l ih =>
    unfold posV fnV
    by_cases e : y.node = n
    · rw [if_pos e, if_pos e]; exact ⟨y, rfl, e, rfl⟩
    · rw [if_neg e, if_neg e]
      have h' : hasV l n = true := by unfold hasV fnV at h; rw [if_neg e] at h; exact h
      obtain ⟨v, h1, h2, h3⟩ := ih h'
      exact ⟨v, by rw [List.getElem?_cons_succ]; exact h1, h2, h3⟩
end Go.Proofs.Ytafocefbpkcoaaa.coD
