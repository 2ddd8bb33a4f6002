/- Worlds that change at a few blocks alone; a store in memory. -/
import Derived.Test.YtlojmojmijklmaaStoM
import Derived.Test.YtlojmojmijklmaaChnR
import Derived.Maps.OwnSet
import Derived.Sort.KeysCollected
import Derived.StringKeys
import Derived.Sort.Walk0
set_option linter.unusedVariables false
set_option maxRecDepth 100000
namespace Go.Proofs.Ytlojmojmijklmaa.stoA
open Go.ChangeShapes Go.WideShapes Go.ChangeAt Go.RowKit Go.Deep Go.Sort Go.Maps
open opV chnM gen chnA chnB chnR chnT stoM

/-! ### Worlds that change at the blocks K alone -/
structure Chg (K : Nat → Prop) (w w' : World) : Prop where
  os : w'.os = w.os
  tape : w'.tape = w.tape
  output : w'.output = w.output
  size : w.heap.size ≤ w'.heap.size
  block : ∀ k, k < w.heap.size → ¬ K k → w'.heap[k]? = w.heap[k]?
section
variable {K K' : Nat → Prop} {w w0 w1 w2 : World}
theorem Chg.refl (K : Nat → Prop) (w : World) : Chg K w w := ⟨rfl, rfl, rfl, Nat.le_refl _, fun _ _ _ => rfl⟩
theorem Chg.of_below (K : Nat → Prop) (h : Below w.heap.size w w1) : Chg K w w1 := ⟨h.os, h.tape, h.output, h.size, fun k hk _ => h.block k hk⟩
theorem Chg.trans (h : Chg K w w1) (h2 : Chg K w1 w2) : Chg K w w2 :=
  ⟨h2.os.trans h.os, h2.tape.trans h.tape, h2.output.trans h.output, Nat.le_trans h.size h2.size, fun k hk hc => (h2.block k (Nat.lt_of_lt_of_le hk h.size) hc).trans (h.block k hk hc)⟩
theorem Chg.then (h : Chg K w w1) (h2 : Below w1.heap.size w1 w2) : Chg K w w2 := h.trans (Chg.of_below _ h2)
theorem Chg.wide (h : Chg K w w1) (hk : ∀ k, k < w.heap.size → K k → K' k) : Chg K' w w1 := ⟨h.os, h.tape, h.output, h.size, fun k h1 h2 => h.block k h1 fun e => h2 (hk k h1 e)⟩
theorem Chg.below {B : Nat} (h : Chg K w w1) (hB : B ≤ w.heap.size) (hc : ∀ k, k < B → ¬ K k) : Below B w w1 := ⟨h.os, h.tape, h.output, h.size, fun k hk => h.block k (by omega) (hc k hk)⟩
theorem Chg.grown {row : Option Nat} (hg : w.grownBy w1 row) (hr : ∀ k, row = some k → K k) : Chg K w w1 :=
  ⟨hg.os, hg.tape, hg.output, hg.size, fun k hk hc => hg.block k hk (fun e => hc (hr k e.symm))⟩
theorem Chg.setCell (h : Chg K w0 w) {p : Addr} (hp : K p.block) (u : Value) : Chg K w0 (w.setCell p u) :=
  h.trans ⟨rfl, rfl, rfl, by rw [World.size_setCell]; exact Nat.le_refl _, fun k _ hc => Below.heap_setCell w p u k (fun e => hc (by rw [e]; exact hp))⟩
theorem Chg.alloc (h : Chg K w0 w) (o : Obj) : Chg K w0 (w.alloc o) := h.then (al0 w o)
theorem Chg.drew (h : Chg K w0 w) : Chg K w0 w.drew := ⟨h.os, h.tape, h.output, h.size, h.block⟩
theorem Chg.cell (h : Chg K w w1) {b o : Nat} {v : Value} (hc : w.cell? ⟨b, o, none⟩ = some v) (hb : ¬ K b) : w1.cell? ⟨b, o, none⟩ = some v :=
  (World.cell?_of_block (a := ⟨b, o, none⟩) (h.block b (World.block_lt_of_cell? _ _ hc) hb)).trans hc
theorem Chg.frz (h : Chg K w w1) {b o : Nat} {v : Value} (hc : w.cell? ⟨b, o, none⟩ = some v) (hf : w.frozen? ⟨b, o, none⟩ = false) (hb : ¬ K b) : w1.frozen? ⟨b, o, none⟩ = false :=
  (World.frozen?_of_block (a := ⟨b, o, none⟩) (h.block b (World.block_lt_of_cell? _ _ hc) hb)).trans hf
theorem hv_chg {A : Option Addr} {c : Nat} {l : List Ver} (h : HV w A c l) (hg : Chg K w w1) (hn : l = [] ∨ ∀ y, A = some y → ¬ K y.block) : HV w1 A c l := by
  refine { h with row := ?_ }
  rcases h.row with h0 | ⟨b, off, e, hlt, hc⟩
  · exact .inl h0
  · by_cases h0 : l = []
    · exact .inl (by rw [h0]; rfl)
    · have hb := (hn.resolve_left h0) _ e
      exact .inr ⟨b, off, e, by have := hg.size; omega, fun i hi => (hc i hi).of_block (hg.block b hlt hb)⟩
end

/-! ### A chain that nobody changes any more -/
def DV (B : Nat → Prop) (w : World) (v : Value) (l : List Ver) : Prop := ∃ A c, v = .slice A l.length c ∧ HV w A c l ∧ (l = [] ∨ ∀ y, A = some y → ¬ B y.block)
section
variable {B B' K : Nat → Prop} {w w1 : World} {v : Value} {l : List Ver}
theorem DV.go (h : DV B w v l) (hg : Chg K w w1) (hK : ∀ k, K k → B k) : DV B w1 v l := by
  obtain ⟨A, c, e, h1, h2⟩ := h
  exact ⟨A, c, e, hv_chg h1 hg (h2.imp id fun h y e k => h y e (hK _ k)), h2⟩
theorem DV.wide (h : DV B w v l) (hk : ∀ k, k < w.heap.size → B' k → B k) : DV B' w v l := by
  obtain ⟨A, c, e, h1, h2⟩ := h
  refine ⟨A, c, e, h1, ?_⟩
  by_cases h0 : l = []
  · exact .inl h0
  · refine .inr fun y ey hb => ?_
    obtain ⟨b, off, e2, hlt, _⟩ := h1.at (i := 0) (List.length_pos_iff.2 h0)
    rw [ey] at e2
    cases e2
    exact (h2.resolve_left h0) _ ey (hk _ hlt hb)
theorem DV.nil_ (B : Nat → Prop) (w : World) : DV B w (.slice none 0 0) [] := ⟨none, 0, rfl, (GV.nil_ w 0).hv (by simp), .inl rfl⟩
/-- a row of the call's own, given away -/
theorem DV.of_gv {base : Nat} {A : Option Addr} {c : Nat} (h : GV w base A c l) (hs : l.length * 64 ≤ 140737488355328) (hb : ∀ k, B k → k < base) : DV B w (.slice A l.length c) l := by
  refine ⟨A, c, rfl, h.hv hs, ?_⟩
  by_cases h0 : l = []
  · exact .inl h0
  · refine .inr fun y ey hk => ?_
    obtain ⟨b, off, e2, hlt, _⟩ := (h.hv hs).at (i := 0) (List.length_pos_iff.2 h0)
    rw [ey] at e2
    cases e2
    have h1 : b < base := hb _ hk
    rcases h.2 with ⟨e1, h2⟩ | ⟨g, cap, cur, e1, h2, _⟩
    · simp only [Value.slice.injEq] at e1; rw [ey] at e1; cases e1.1
    · simp only [Value.slice.injEq] at e1; rw [ey] at e1
      obtain ⟨e3, _, _⟩ := e1
      cases e3
      omega
end

/-! ### A store -/
def hR (v : Value) : Option (DataW Value × List MemPlace) := some (.held v, [])
def kS (k : ByteArray) : Lit := .string k.data.toList
theorem kS_ne {a b : ByteArray} (h : a ≠ b) : kS a ≠ kS b := by
  intro e
  unfold kS at e
  injection e with e1
  cases a; cases b
  exact h (congrArg ByteArray.mk (Array.toList_inj.1 e1))
theorem law : Maps.Keyed Try.prog 9 := Maps.string_keyed Try.underlying9
theorem zeroE (w : World) : (zeroValue 30).run Try.prog w = .ok (.slice none 0 0) w := by kernel_rfl
theorem hkey (k : ByteArray) (h : k.size ≤ maxLen) : keyOf Try.prog 9 (.string k) = some (kS k) := Go.WideMaps.keyOf_string_mk Try.underlying9 h
def cS (b : Nat) (f : Int) (i : Nat) : Value := if i = 0 then .map (some b) else .int .u64 f
def Ear (B : Nat → Prop) (w : World) (D : DataW Value) (ch : List Ch) : Prop :=
  (∀ k : ByteArray, Maps.has D (kS k) = true ↔ ∃ c ∈ ch, c.key = k) ∧ ∀ c ∈ ch, ∃ v, (∀ z, D.atKey (kS c.key) z = .held v) ∧ DV B w v c.l
structure SIs (B : Nat → Prop) (w : World) (S b : Nat) (s : St) (D : DataW Value) : Prop where
  row : w.rowIs S 65 2 (cS b s.fl)
  map : w.ownsMap Try.prog 9 hR b s.ch.length D
  ear : Ear B w D s.ch
  inv : Inv s
  ln : ln s.ch ≤ 60000
  bS : B S
  bb : B b
  bd : ∀ k, B k → k < w.heap.size
def SAt (B : Nat → Prop) (w : World) (S b : Nat) (s : St) : Prop := ∃ D, SIs B w S b s D
/-- a store's own blocks -/
def own2 (S b : Nat) (k : Nat) : Prop := k = S ∨ k = b
theorem map_block {H : Type} {P : Program} {k : TypeId} {R : Value → Option (DataW H × List MemPlace)} {w w' : World} {b n : Nat} {D : DataW H} (h : w.ownsMap P k R b n D) (e : w'.heap[b]? = w.heap[b]?) : w'.ownsMap P k R b n D := by
  obtain ⟨es, clock, hb, r⟩ := h
  exact ⟨es, clock, e.trans hb, r⟩
theorem map_row {H : Type} {w : World} {P : Program} {K : TypeId} {R : Value → Option (DataW H × List MemPlace)} {m n k p : Nat} {D : DataW H} {t : TypeId} {f : Nat → Value} (hm : w.ownsMap P K R m n D) (h : w.rowIs p t k f) : m ≠ p := by
  rintro rfl
  obtain ⟨es, clock, hb, _⟩ := hm
  obtain ⟨cells, h1, _⟩ := h
  rw [hb] at h1
  cases h1
section
variable {B B' K : Nat → Prop} {w w1 : World} {S b : Nat} {s : St} {D : DataW Value}
theorem Ear.go {ch : List Ch} (h : Ear B w D ch) (hg : Chg K w w1) (hK : ∀ k, K k → B k) : Ear B w1 D ch := ⟨h.1, fun c hc => by
  obtain ⟨v, h1, h2⟩ := h.2 c hc
  exact ⟨v, h1, h2.go hg hK⟩⟩
theorem SIs.ne (h : SIs B w S b s D) : b ≠ S := map_row h.map h.row
theorem SIs.go (h : SIs B w S b s D) (hg : Chg K w w1) (hK : ∀ k, K k → B k) (hS : ¬ K S) (hb : ¬ K b) : SIs B w1 S b s D :=
  { h with row := h.row.of_block (hg.block S h.row.lt hS), map := map_block h.map (hg.block b (World.ownsMap.lt h.map) hb), ear := h.ear.go hg hK, bd := fun k hk => Nat.lt_of_lt_of_le (h.bd k hk) hg.size }
theorem SIs.below (h : SIs B w S b s D) (hg : Below w.heap.size w w1) : SIs B w1 S b s D := h.go (Chg.of_below (fun _ => False) hg) (fun _ e => e.elim) id id
theorem SIs.wide (h : SIs B w S b s D) (hk : ∀ k, k < w.heap.size → B' k → B k) (hS : B' S) (hb : B' b) (hd : ∀ k, B' k → k < w.heap.size) : SIs B' w S b s D :=
  { h with ear := ⟨h.ear.1, fun c hc => by obtain ⟨v, h1, h2⟩ := h.ear.2 c hc; exact ⟨v, h1, h2.wide hk⟩⟩, bS := hS, bb := hb, bd := hd }
theorem SAt.go (h : SAt B w S b s) (hg : Chg K w w1) (hK : ∀ k, K k → B k) (hS : ¬ K S) (hb : ¬ K b) : SAt B w1 S b s := by obtain ⟨D, h⟩ := h; exact ⟨D, h.go hg hK hS hb⟩
theorem SAt.below (h : SAt B w S b s) (hg : Below w.heap.size w w1) : SAt B w1 S b s := by obtain ⟨D, h⟩ := h; exact ⟨D, h.below hg⟩
theorem SAt.wide (h : SAt B w S b s) (hk : ∀ k, k < w.heap.size → B' k → B k) (hS : B' S) (hb : B' b) (hd : ∀ k, B' k → k < w.heap.size) : SAt B' w S b s := by obtain ⟨D, h⟩ := h; exact ⟨D, h.wide hk hS hb hd⟩
theorem SAt.drew (h : SAt B w S b s) : SAt B w.drew S b s := h.below (below_drew w)
/-- the keys of the map -/
def kl (ch : List Ch) : List (List UInt8) := ch.map fun c => c.key.data.toList
theorem ba_eta (k : ByteArray) : (⟨k.data.toList.toArray⟩ : ByteArray) = k := by cases k; simp
theorem lt_lists {a b : ByteArray} : slt a b = true ↔ a.data.toList < b.data.toList := by
  unfold slt
  rw [ByteArray.toList_eq, ByteArray.toList_eq, bytesLess_eq, decide_eq_true_eq]
theorem keys_perm {n : Nat} (hm : w.ownsMap Try.prog 9 hR b n D) {ch : List Ch} (hs : Srt ch) (he : ∀ k : ByteArray, Maps.has D (kS k) = true ↔ ∃ c ∈ ch, c.key = k) : (kl ch).Perm (strKeys D) := by
  obtain ⟨es, rfl, hp, _⟩ := World.ownsMap.entries hm law
  obtain ⟨es', e, hk⟩ := World.ownsMap.keysOf hm
  cases e
  refine perm_strKeys hp (fun p hp => ?_) ?_ fun x => ?_
  · obtain ⟨key, hkey⟩ := hk p hp
    obtain ⟨x, _, e, _⟩ := Maps.keyOf_str Try.underlying9 hkey
    exact ⟨x, e⟩
  · unfold kl
    refine List.pairwise_map.2 (List.Pairwise.imp (fun {a b} h e => ?_) hs)
    have h2 := lt_lists.1 h
    rw [e] at h2
    exact absurd h2 (List.lt_irrefl _)
  · have h1 := he ⟨x.toArray⟩
    unfold kS at h1
    simp only at h1
    rw [h1]
    unfold kl
    rw [List.mem_map]
    constructor
    · rintro ⟨c, hc, rfl⟩
      exact ⟨c, hc, (ba_eta _).symm⟩
    · rintro ⟨c, hc, e⟩
      exact ⟨c, hc, by rw [e]⟩
theorem map_tight {n : Nat} (hm : w.ownsMap Try.prog 9 hR b n D) {ch : List Ch} (hs : Srt ch) (he : ∀ k : ByteArray, Maps.has D (kS k) = true ↔ ∃ c ∈ ch, c.key = k) : w.ownsMap Try.prog 9 hR b ch.length D := by
  have hp := (keys_perm hm hs he).length_eq
  obtain ⟨es, clock, hb, F, _, rfl⟩ := hm
  refine ⟨es, clock, hb, F, ?_, rfl⟩
  have h1 := length_read (P := Try.prog) (k := 9) (R0 := hR) es
  simp only [strKeys, List.length_map, kl] at hp
  omega
theorem sorted_keys {ch : List Ch} (h : Srt ch) {ss : List (List UInt8)} (hp : ss.Perm (kl ch)) : ss.mergeSort (fun x y => decide (x ≤ y)) = kl ch := by
  refine (mergeSort_of_perm hp).trans (List.mergeSort_of_pairwise ?_)
  unfold kl
  refine List.pairwise_map.2 (List.Pairwise.imp (fun {a b} h => ?_) h)
  simp only [leB, decide_eq_true_eq]
  exact List.le_of_lt (lt_lists.1 h)
theorem SIs.keys (h : SIs B w S b s D) : (kl s.ch).Perm (strKeys D) := keys_perm h.map h.inv.srt h.ear.1
theorem SIs.len (h : SIs B w S b s D) : s.ch.length ≤ 60000 := Nat.le_trans (len_ln h.inv.ne) h.ln
theorem SIs.size (h : SIs B w S b s D) : Maps.size D = s.ch.length := by
  have h1 := h.keys.length_eq
  obtain ⟨es, clock, hb, F, hs, hD⟩ := h.map
  rw [hD] at h1 ⊢
  simp only [strKeys, List.length_map, kl] at h1
  simp only [Maps.size]
  omega
end
/-! ### What a look into the map tells -/
theorem SIs.look {B : Nat → Prop} {w : World} {S b : Nat} {s : St} {D : DataW Value} (h : SIs B w S b s D) (k : ByteArray) (hk : k.size ≤ maxLen) :
    ∃ A c, (Instr.lookup 63 (.map (some b)) (.string k) false).run Try.prog w = .ok (.slice A (of s.ch k).length c) w ∧ DV B w (.slice A (of s.ch k).length c) (of s.ch k) := by
  obtain ⟨u, ps, h1, h2⟩ := World.ownsMap.lookup (w := w) (P := Try.prog) h.map law Try.underlying63 (zeroE w) (zd := .held (.slice none 0 0)) (zp := []) rfl (hkey k hk)
  unfold hR at h2
  rcases of_cases h.inv.srt k with ⟨c, hc, rfl, e⟩ | ⟨h0, e⟩
  · obtain ⟨v, hv, hd⟩ := h.ear.2 c hc
    rw [hv] at h2
    rw [e]
    obtain ⟨A, cp, rfl, r⟩ := hd
    simp only [Option.some.injEq, Prod.mk.injEq, DataW.held.injEq] at h2
    rw [h2.1] at h1
    exact ⟨A, cp, h1, A, cp, rfl, r⟩
  · have hn : Maps.has D (kS k) = false := by
      cases e2 : Maps.has D (kS k)
      · rfl
      · obtain ⟨c, hc, e3⟩ := (h.ear.1 k).1 e2
        exact absurd e3 (h0 c hc)
    rw [Maps.atKey_of_not_has hn] at h2
    rw [e]
    simp only [Option.some.injEq, Prod.mk.injEq, DataW.held.injEq] at h2
    rw [h2.1] at h1
    exact ⟨none, 0, h1, DV.nil_ _ _⟩
end Go.Proofs.Ytlojmojmijklmaa.stoA
