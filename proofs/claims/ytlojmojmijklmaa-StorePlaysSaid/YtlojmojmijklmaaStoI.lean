/- The contract of the function that All answers: it goes through the versions of a span. -/
import Derived.RangeFuncNested
import Derived.RangeFuncBound
import Derived.RangeFuncCalls
import Derived.RangeFuncLeaves
import Derived.Shelf.Abstract
import Derived.Shelf.RegionOpen
import Derived.OwnWalkIn
import Derived.TacticsInMore
import Derived.LoopNIn
import Derived.LoopIn
import Derived.WalkMore
import Derived.Test.YtlojmojmijklmaaStoP
set_option linter.unusedVariables false
set_option maxRecDepth 100000
namespace Go.Proofs.Ytlojmojmijklmaa.stoI
open Go.ChangeShapes Go.WideShapes Go.ChangeAt Go.RowKit Go.Shelf
open opV chnM gen chnA chnB chnR chnE stoM stoA stoL stoB stoC stoP
attribute [local go_sem] Oper.semAt_some

/-! ### The versions of a span, chain by chain -/
theorem al_yes {ch : List Ch} {i : Nat} (h : i < ch.length) {lo hi : ByteArray} (hw : wth (nt ch i).key lo hi = true) : al (ch.drop i) lo hi = (nt ch i).l ++ al (ch.drop (i + 1)) lo hi := by
  rw [nt_at h] at *
  unfold al sp
  rw [List.drop_eq_getElem_cons h, List.filter_cons_of_pos (p := fun c : Ch => wth c.key lo hi) hw]
  rfl
theorem al_no {ch : List Ch} {i : Nat} (h : i < ch.length) {lo hi : ByteArray} (hw : wth (nt ch i).key lo hi = false) : al (ch.drop i) lo hi = al (ch.drop (i + 1)) lo hi := by
  rw [nt_at h] at hw
  unfold al sp
  rw [List.drop_eq_getElem_cons h, List.filter_cons_of_neg (p := fun c : Ch => wth c.key lo hi) (by rw [hw]; simp)]
theorem al_end (ch : List Ch) (lo hi : ByteArray) : al (ch.drop ch.length) lo hi = [] := by simp [al, sp, cc]
theorem l_at {l r : List Ver} {j : Nat} (h : j < l.length) : l.drop j ++ r = nt l j :: (l.drop (j + 1) ++ r) := by
  rw [nt_at h, List.drop_eq_getElem_cons h]; rfl

open Go.Maps Go.Sort in
set_option maxHeartbeats 1000000 in
theorem sorted_new {B : Nat → Prop} {S b : Nat} {s : St} {D : DataW Value} (w : World) (h : SIs B w S b s D) :
    CallsIn Fence.wide 5 Try.prog 47 #[.func (.func 60) #[] #[.pointer (some ⟨w.heap.size, 0, none⟩)]] (w.alloc (.cells #[.map (some b)] 63)) fun e w' => ∃ A c, e = .returned (.slice A s.ch.length c) ∧ s.ch.length ≤ c ∧
      KR w' A s.ch ∧ Below w.heap.size w w' ∧ ∀ y, A = some y → w.heap.size ≤ y.block := by
  have hbl := h.map.lt
  have hsz := h.size
  have hlen := h.len
  have hseq : SeqGives Fence.wide 2 Try.prog 60 #[.pointer (some ⟨w.heap.size, 0, none⟩)] encStr (fun ss => ss.Perm (strKeys D)) (Maps.size D) (w.alloc (.cells #[.map (some b)] 63)) :=
    AnyZ.keys_gives (ρ := keys48_ren) { keys48 with } Fence.wide _ trivial rfl (by omega) w.heap.size b _ D _ (by simp) (by simp) (map_block h.map (Below.heap_alloc _ _ b hbl))
  refine (AnyZ.sorted_in sorted47 Fence.wide 5 trivial trivial trivial trivial rfl (by omega) (sorts _) (enters_of Try.func59 (by kernel_rfl) rfl) 60 #[.pointer (some ⟨w.heap.size, 0, none⟩)] trivial (enters_of Try.func60 (by kernel_rfl) rfl) _ _ (by unfold maxLen; omega) (by omega) _ hseq).mono ?_
  rintro e w' ⟨v, ss, rfl, hS, hrow, hnil, hb⟩
  have hl : ss.length = s.ch.length := by
    have := hS.length_eq.trans h.keys.length_eq.symm
    rw [this]; simp [kl]
  rw [sorted_keys h.inv.srt (hS.trans h.keys.symm), hl] at hrow
  have hB : Below w.heap.size w w' := trans0 (al0 _ _) hb
  rcases hrow.2 with ⟨e1, e2⟩ | ⟨g, cap, cur, e1, e2, e3, e4, e5⟩
  · exact ⟨none, 0, by rw [e1]; simp [e2], by simp [e2], fun i hi => by omega, hB, fun y e => (by cases e)⟩
  · subst e1
    refine ⟨_, _, rfl, e4, fun i hi => ⟨g, 0, rfl, ?_⟩, hB, fun y e => (by cases e; have e3 : (w.alloc (.cells #[.map (some b)] 63)).heap.size ≤ g := e2; rw [World.size_alloc] at e3; show w.heap.size ≤ g; omega)⟩
    have hk : (kl s.ch).length = s.ch.length := by simp [kl]
    rw [Nat.zero_add, hrow.cellAt i (by omega), List.getElem?_eq_getElem (by simp [kl]; exact hi), nt_at hi]
    simp [kl, encStr]
/-! ### What a round may change: the box ob, and the row that lies in it -/
def rowAt (ob : Nat) (V : World) (k : Nat) : Prop := ∃ v, V.cell? ⟨ob, 0, none⟩ = some v ∧ v.ownBlock = some k
def Kb (ob : Nat) (V V' : World) : Prop := ob < V.heap.size → V.heap.size ≤ V'.heap.size ∧ (∀ k o, V.heap[k]? = some o → (o.isCells = true ∨ o.isWalk = true) → k ≠ ob → ¬ rowAt ob V k → V'.heap[k]? = some o) ∧ ∀ k, rowAt ob V' k → rowAt ob V k ∨ V.heap.size ≤ k
theorem Kb.trans {ob : Nat} {X Y Z : World} (h : Kb ob X Y) (k : Kb ob Y Z) : Kb ob X Z := fun hb => by
  obtain ⟨h1, h2, h3⟩ := h hb
  obtain ⟨k1, k2, k3⟩ := k (by omega)
  refine ⟨by omega, fun i o hi ho hne hr => ?_, fun i hi => ?_⟩
  · refine k2 i o (h2 i o hi ho hne hr) ho hne fun hr2 => ?_
    have hlt := (Array.getElem?_eq_some_iff.1 hi).1
    rcases h3 i hr2 with h4 | h4
    · exact hr h4
    · omega
  · rcases k3 i hi with h4 | h4
    · rcases h3 i h4 with h5 | h5
      · exact .inl h5
      · exact .inr h5
    · exact .inr (by omega)
theorem row_same {ob : Nat} {V V' : World} (h : V'.heap[ob]? = V.heap[ob]?) {k : Nat} (hr : rowAt ob V' k) : rowAt ob V k := by
  obtain ⟨v, e, e2⟩ := hr
  exact ⟨v, (World.cell?_of_block (a := ⟨ob, 0, none⟩) h).symm.trans e, e2⟩
theorem Kb.alloc {ob : Nat} (W : World) (o : Obj) : Kb ob W (W.alloc o) := fun hb =>
  ⟨by simp, fun k o' hk _ _ _ => (Below.heap_alloc W o k (Array.getElem?_eq_some_iff.1 hk).1).trans hk, fun k hr => .inl (row_same (Below.heap_alloc W o ob hb) hr)⟩
theorem Kb.book {ob : Nat} {w : World} (hob : ob < w.heap.size) (W : World) (l : Nat) (o o' : Obj) (hl : w.heap.size ≤ l) (h1 : W.heap[l]? = some o) (h2 : o.isCells = false) (h3 : o.isWalk = false) : Kb ob W (W.putObj l o') := fun hb => by
  refine ⟨by simp, fun k o2 hk ho hne hr => ?_, fun k hr => .inl (row_same (World.putObj_heap_other (by omega)) hr)⟩
  by_cases e : k = l
  · subst e
    rw [h1] at hk
    cases hk
    rcases ho with ho | ho
    · rw [h2] at ho; cases ho
    · rw [h3] at ho; cases ho
  · exact (World.putObj_heap_other e).trans hk
/-- what the iterator knows of V: of what lay below hi in W0 all lies so but ob -/
structure II (ob hi : Nat) (W0 V : World) : Prop where
  same : ∀ k o, k < hi → W0.heap[k]? = some o → (o.isCells = true ∨ o.isWalk = true) → k ≠ ob → V.heap[k]? = some o
  row : ∀ k, k < hi → ¬ rowAt ob V k
  ob : ob < hi
  size : hi ≤ V.heap.size
section
variable {ob hi : Nat} {W0 V V' : World}
theorem II.kb (h : II ob hi W0 V) (hk : Kb ob V V') : II ob hi W0 V' := by
  obtain ⟨h1, h2, h3⟩ := hk (by have := h.ob; have := h.size; omega)
  refine ⟨fun k o q1 q2 q3 q4 => h2 k o (h.same k o q1 q2 q3 q4) q3 q4 (h.row k q1), fun k q1 q2 => ?_, h.ob, by have := h.size; omega⟩
  rcases h3 k q2 with h4 | h4
  · exact h.row k q1 h4
  · have := h.size; omega
theorem II.cell (h : II ob hi W0 V) {b o : Nat} {v : Value} (hc : W0.cell? ⟨b, o, none⟩ = some v) (hb : b < hi) (hne : b ≠ ob) : V.cell? ⟨b, o, none⟩ = some v := by
  obtain ⟨x, h1, h2⟩ := cells_of_cell hc
  exact (World.cell?_of_block (a := ⟨b, o, none⟩) ((h.same b x hb h1 (.inl h2) hne).trans h1.symm)).trans hc
theorem II.hv (h : II ob hi W0 V) {A : Option Addr} {c : Nat} {l : List Ver} (hv : HV W0 A c l) (hs : W0.heap.size ≤ hi) (hn : l = [] ∨ ∀ y, A = some y → y.block ≠ ob) : HV V A c l := by
  refine { hv with row := ?_ }
  rcases hv.row with h0 | ⟨b, off, e, hlt, hc⟩
  · exact .inl h0
  · by_cases h0 : l = []
    · exact .inl (by rw [h0]; rfl)
    · have hb : b ≠ ob := (hn.resolve_left h0) _ e
      refine .inr ⟨b, off, e, by have := h.size; omega, fun i hi' => ?_⟩
      obtain ⟨c0, c1, c2, c3, c4, c5⟩ := hc i hi'
      have g := fun {o : Nat} {v : Value} (q : W0.cell? ⟨b, o, none⟩ = some v) => h.cell q (by omega) hb
      exact ⟨g c0, g c1, g c2, g c3, g c4, g c5⟩
theorem II.map (h : II ob hi W0 V) {b n : Nat} {D : DataW Value} (hm : W0.ownsMap Try.prog 9 hR b n D) (hb : b < hi) (hne : b ≠ ob) : V.ownsMap Try.prog 9 hR b n D := by
  obtain ⟨es, clock, h1, r⟩ := hm
  exact ⟨es, clock, h.same b _ hb h1 (.inr rfl) hne, r⟩
end
/-- the chain of the i-th key, as the map has it -/
theorem II.look {B : Nat → Prop} {ob : Nat} {W0 : World} {S b : Nat} {s : St} {D : DataW Value} (h : SIs B W0 S b s D) (hob : B ob) (hb : b ≠ ob) {c : Ch} (hc : c ∈ s.ch) (hk : c.key.size ≤ maxLen) :
    ∃ A cp, ∀ V, II ob W0.heap.size W0 V → (Instr.lookup 63 (.map (some b)) (.string c.key) false).run Try.prog V = .ok (.slice A c.l.length cp) V ∧ HV V A cp c.l := by
  obtain ⟨v, hv, A, cp, rfl, hd, hn⟩ := h.ear.2 c hc
  refine ⟨A, cp, fun V hI => ?_⟩
  obtain ⟨u, ps, h1, h2⟩ := World.ownsMap.lookup (w := V) (P := Try.prog) (hI.map h.map (World.ownsMap.lt h.map) hb) law Try.underlying63 (zeroE V) (zd := .held (.slice none 0 0)) (zp := []) rfl (hkey c.key hk)
  unfold hR at h2
  rw [hv] at h2
  simp only [Option.some.injEq, Prod.mk.injEq, DataW.held.injEq] at h2
  rw [h2.1] at h1
  refine ⟨h1, hI.hv hd (Nat.le_refl _) (hn.imp id fun hn y e e2 => hn y e ?_)⟩
  rw [e2]; exact hob
theorem grown_of_below {w w1 : World} (h : Below w.heap.size w w1) : w.grownBy w1 none := ⟨h.os, h.tape, h.output, h.size, fun i hi _ => h.block i hi⟩
/-- what the iterator finds -/
structure IA (B : Nat → Prop) (W : World) (S b : Nat) (s : St) (lo hi : ByteArray) (b1 b2 b3 ob : Nat) : Prop where
  at_ : SAt B W S b s
  c1 : W.cell? ⟨b1, 0, none⟩ = some (.pointer (some ⟨S, 0, none⟩))
  c2 : W.cell? ⟨b2, 0, none⟩ = some (.string lo)
  c3 : W.cell? ⟨b3, 0, none⟩ = some (.string hi)
  n1 : b1 ≠ ob
  n2 : b2 ≠ ob
  n3 : b3 ≠ ob
  nS : S ≠ ob
  nb : b ≠ ob
  bo : B ob
  row : ∀ k, ¬ rowAt ob W k
  keys : ∀ c ∈ s.ch, c.key.size ≤ maxLen
set_option maxHeartbeats 4000000 in
theorem iter_in (n : Nat) (hn : 1 ≤ n) (l b1 b2 b3 ob S b : Nat) (B : Nat → Prop) (s : St) (lo hi : ByteArray) (J Jx : List Ver → World → Prop)
    (hY : ∀ pre x V, J pre V → (∃ rest, al s.ch lo hi = pre ++ x :: rest) → YieldAt Fence.wide (n - 1) Try.prog l #[vv x] V fun e V' => (e = .returned (.bool true) ∧ J (pre ++ [x]) V' ∧ Kb ob V V') ∨ (e = .returned (.bool false) ∧ Jx (pre ++ [x]) V'))
    (W : World) (hJ : AbidesFrom W.heap.size J) (hA : IA B W S b s lo hi b1 b2 b3 ob) (h0 : J [] W) :
    CallsIn Fence.wide n Try.prog 46 #[.func (.yield l) #[] #[], .pointer (some ⟨b1, 0, none⟩), .pointer (some ⟨b2, 0, none⟩), .pointer (some ⟨b3, 0, none⟩)] W fun e W' => (∃ v, e = .returned v) ∧
      ((∃ ys, ys = al s.ch lo hi ∧ J ys W') ∨ (∃ pre, pre <+: al s.ch lo hi ∧ Jx pre W')) := by
  obtain ⟨D, hI⟩ := hA.at_
  have hSC : SC S b s.fl W := SIs.cells hI
  obtain ⟨q0, q1⟩ := hSC
  have q2 := hA.c1
  have hkc := Lib.hid (keys_call (some b) W)
  have hsc := Lib.hid (sorted_new W hI)
  have hjn : Hid (∀ pre X Y, J pre X → X.grownBy Y none → J pre Y) := Lib.hid fun pre X Y h1 h2 => hJ pre X Y none h1 h2 (fun r e => by cases e)
  replace hA := Lib.hid hA
  replace hI := Lib.hid hI
  replace hY := Lib.hid hY
  refine callsIn_of_wp Try.func46 rfl trivial ?_ rfl
  simp only [Try.ntmps46, List.size_toArray, List.length_cons, List.length_nil, Nat.reduceAdd, Nat.reduceSub, Array.replicate_succ, Array.replicate_zero, List.push_toArray, List.append_toArray, List.nil_append, List.cons_append]
  have hfK : Fence.wide.fn 48 := trivial
  have hfS : Fence.wide.fn 47 := trivial
  have hfW : Fence.wide.fn 49 := trivial
  refine wpIn_wide.2 (wp_scope_straight ((wpIn_wide (n := n)).1 ?_))
  gi_wp2
  refine wpIn_label ?_
  gi_wp2_with (first
    | (gi_at_call 48; (with_reducible refine (callsIn_wide.2 (callsIn_wide.1 hkc.out)).mono ?_); rintro e w' ⟨rfl, rfl⟩)
    | (gi_at_call 47; (with_reducible refine (callsIn_wide.2 (callsIn_wide.1 hsc.out)).mono ?_); rintro e w3 ⟨A, c, rfl, hlc, hK, hB3, hAn⟩))
  have hIw := Lib.hid (hI.out.below hB3)
  have hJ0 := hjn.out _ _ _ h0 (grown_of_below hB3)
  have hII0 : Hid (II ob w3.heap.size w3 w3) := Lib.hid (by
    have hob := hI.out.bd ob hA.out.bo
    refine ⟨fun k o _ h _ _ => h, fun k hk hr => hA.out.row k (row_same (hB3.block ob hob) hr), by have := hB3.size; omega, Nat.le_refl _⟩)
  have hKy := Lib.hid hK
  have hcl : Hid (w3.cell? ⟨b1, 0, none⟩ = some (.pointer (some ⟨S, 0, none⟩)) ∧ w3.cell? ⟨b2, 0, none⟩ = some (.string lo) ∧ w3.cell? ⟨b3, 0, none⟩ = some (.string hi) ∧ w3.cell? ⟨S, 0, none⟩ = some (.map (some b))) := Lib.hid ⟨keep_cell hB3 hA.out.c1, keep_cell hB3 hA.out.c2, keep_cell hB3 hA.out.c3, keep_cell hB3 q0⟩
  have hln := hI.out.len
  have hgo : Hid (∀ y, A = some y → y.block ≠ ob) := Lib.hid (by
    have hob := hI.out.bd ob hA.out.bo
    intro y e e2
    have := hAn y e
    omega)
  clear hAn hK hB3 q0 q1 q2 hkc hsc h0
  gi_loopw [18] (fun t wr => ∃ (pre : List Ver) (i : Nat), i ≤ s.ch.length ∧ t = .int .i64 i ∧ Hid (al s.ch lo hi = pre ++ al (s.ch.drop i) lo hi) ∧ J pre wr ∧ Hid (II ob w3.heap.size w3 wr)) (fun t _ => s.ch.length - (intOf t).toNat)
  case atStart => exact ⟨[], 0, Nat.zero_le _, rfl, Lib.hid (by simp), hJ0, hII0⟩
  case round =>
    obtain ⟨pre, i, hi', rfl, hpre, hJw, hII⟩ := hrel
    by_cases hlt : i < s.ch.length
    · have hltI : (i : Int) < (s.ch.length : Int) := by omega
      obtain ⟨g, off, rfl, hck⟩ := hKy.out i hlt
      have hg0 : g ≠ ob := hgo.out _ rfl
      have k0 := hII.out.cell hck (World.block_lt_of_cell? _ _ hck) hg0
      have k1 := hII.out.cell hcl.out.1 (World.block_lt_of_cell? _ _ hcl.out.1) hA.out.n1
      have k2 := hII.out.cell hcl.out.2.1 (World.block_lt_of_cell? _ _ hcl.out.2.1) hA.out.n2
      have k3 := hII.out.cell hcl.out.2.2.1 (World.block_lt_of_cell? _ _ hcl.out.2.2.1) hA.out.n3
      have k4 := hII.out.cell hcl.out.2.2.2 (World.block_lt_of_cell? _ _ hcl.out.2.2.2) hA.out.nS
      have hmem := nt_mem hlt
      clear hck hg0
      cases hw : wth (nt s.ch i).key lo hi
      case false =>
        have hnx := Lib.hid (hpre.out.trans (by rw [al_no hlt hw]))
        have hwi := Lib.hid (within_any (nt s.ch i).key lo hi wr)
        rw [hw] at hwi
        clear hw hpre hmem k1 k4
        generalize (nt s.ch i).key = key at *
        gi_wp2_with (gi_at_call 49; (with_reducible refine (callsIn_wide.2 hwi.out).mono ?_); rintro e w' ⟨rfl, rfl⟩)
        exact ⟨⟨pre, i + 1, by omega, by go_num, hnx, hJw, hII⟩, by simp [intOf]; omega⟩
      case true =>
        have hpr2 := Lib.hid (hpre.out.trans (by rw [al_yes hlt hw]))
        have hwi := Lib.hid (within_any (nt s.ch i).key lo hi wr)
        obtain ⟨Ac, cp, hlo⟩ := II.look hIw.out hA.out.bo hA.out.nb hmem (hA.out.keys _ hmem)
        have hll : (nt s.ch i).l.length ≤ 60000 := Nat.le_trans (ln_le hmem) hI.out.ln
        rw [hw] at hwi
        clear hw hpre hmem
        obtain ⟨lv, hlv⟩ : ∃ lv, (nt s.ch i).l = lv := ⟨_, rfl⟩
        rw [hlv] at hpr2 hlo hll
        have hHV : Hid (∀ V, II ob w3.heap.size w3 V → HV V Ac cp lv) := Lib.hid fun V h => (hlo V h).2
        have hlk := (hlo wr hII.out).1
        clear hlo hlv
        generalize (nt s.ch i).key = key at *
        generalize wr = wo at *
        gi_wp2_with (gi_at_call 49; (with_reducible refine (callsIn_wide.2 hwi.out).mono ?_); rintro e w' ⟨rfl, rfl⟩)
        clear hlk hwi k0 k1 k2 k3 k4
        gi_loopw [34] (fun t wr => ∃ (pre : List Ver) (j : Nat), j ≤ lv.length ∧ t = .int .i64 j ∧ Hid (al s.ch lo hi = pre ++ (lv.drop j ++ al (s.ch.drop (i + 1)) lo hi)) ∧ J pre wr ∧ Hid (II ob w3.heap.size w3 wr)) (fun t _ => lv.length - (intOf t).toNat)
        case atStart => exact ⟨pre, 0, Nat.zero_le _, rfl, hpr2, hJw, hII⟩
        case round =>
          clear hpr2 hJw hII
          obtain ⟨pre, j, hj, rfl, hpre, hJw, hII⟩ := hrel
          by_cases hlj : j < lv.length
          · have hjI : (j : Int) < (lv.length : Int) := by omega
            obtain ⟨pb, po, rfl, hpb, hc⟩ := (hHV.out wr hII.out).at hlj
            have hnx : Hid (al s.ch lo hi = pre ++ nt lv j :: (lv.drop (j + 1) ++ al (s.ch.drop (i + 1)) lo hi)) := Lib.hid (hpre.out.trans (by rw [l_at hlj]))
            obtain ⟨W1, hW1⟩ : ∃ W1, wr.alloc (.cells #[.string (nt lv j).key, .string (nt lv j).val, .bool (nt lv j).gone, .int .u64 (nt lv j).ts, .int .i64 (nt lv j).dc, .int .i64 (nt lv j).tx] 35) = W1 := ⟨_, rfl⟩
            have hJ1 : J pre W1 := by rw [← hW1]; exact hjn.out _ _ _ hJw (World.grownBy_alloc _ _ none)
            have hII1 := Lib.hid (hII.out.kb (Kb.alloc wr (.cells #[.string (nt lv j).key, .string (nt lv j).val, .bool (nt lv j).gone, .int .u64 (nt lv j).ts, .int .i64 (nt lv j).dc, .int .i64 (nt lv j).tx] 35)))
            rw [hW1] at hII1
            obtain ⟨fn, tmps, assign, body, hy, hR⟩ := hY.out pre (nt lv j) W1 hJ1 ⟨_, hnx.out⟩
            obtain ⟨c0, c1, c2, c3, c4, c5⟩ := hc
            replace hW1 := Lib.hid hW1
            clear hpre hJw hII
            generalize nt lv j = x at *
            rw [← hW1.out] at hy
            gi_wp2
            rw [hW1.out]
            refine hR.mono ?_
            rintro e W3 (⟨rfl, hJ3, hk3⟩ | ⟨rfl, hJx3⟩)
            · have hII3 := Lib.hid (hII1.out.kb hk3)
              clear hy hR c0 c1 c2 c3 c4 c5
              gi_wp2
              go_roundw
              case rel => exact ⟨pre ++ [x], j + 1, by omega, by go_num, Lib.hid (hnx.out.trans (by simp)), hJ3, hII3⟩
              case measure => simp [intOf]; omega
            · clear hy hR c0 c1 c2 c3 c4 c5
              gi_wp2
              rw [Exit.noGoto_normal]
              go_end0
              exact ⟨⟨_, rfl⟩, .inr ⟨pre ++ [x], ⟨lv.drop (j + 1) ++ al (s.ch.drop (i + 1)) lo hi, by rw [hnx.out, List.append_assoc]; rfl⟩, hJx3⟩⟩
          · obtain rfl : j = lv.length := by omega
            gi_wp2
            go_roundw
            case rel => exact ⟨pre, i + 1, by omega, by go_num, Lib.hid (hpre.out.trans (by simp)), hJw, hII⟩
            case measure => simp [intOf]; omega
    · obtain rfl : i = s.ch.length := by omega
      gi_wp2
      rw [Exit.noGoto_normal]
      go_end0
      exact ⟨⟨_, rfl⟩, .inl ⟨_, rfl, by rw [hpre.out, al_end, List.append_nil]; exact hJw⟩⟩
set_option maxHeartbeats 1000000 in
/-- Of a nil store nothing is told. -/
theorem iter_nil (n : Nat) (l b1 b2 b3 : Nat) (J Jx : List Ver → World → Prop) (W : World) (hc : W.cell? ⟨b1, 0, none⟩ = some (.pointer none)) (h0 : J [] W) :
    CallsIn Fence.wide n Try.prog 46 #[.func (.yield l) #[] #[], .pointer (some ⟨b1, 0, none⟩), .pointer (some ⟨b2, 0, none⟩), .pointer (some ⟨b3, 0, none⟩)] W fun e W' => (∃ v, e = .returned v) ∧
      ((∃ ys, ys = [] ∧ J ys W') ∨ (∃ pre, pre <+: [] ∧ Jx pre W')) := by
  refine callsIn_of_wp Try.func46 rfl trivial ?_ rfl
  simp only [Try.ntmps46, List.size_toArray, List.length_cons, List.length_nil, Nat.reduceAdd, Nat.reduceSub, Array.replicate_succ, Array.replicate_zero, List.push_toArray, List.append_toArray, List.nil_append, List.cons_append]
  refine wpIn_wide.2 (wp_scope_straight ((wpIn_wide (n := n)).1 ?_))
  gi_wp2
  rw [Exit.noGoto_ret]
  refine bodyPost_ret (results_none rfl _ _ _) rfl ?_
  exact ⟨⟨_, rfl⟩, .inl ⟨_, rfl, h0⟩⟩
/-- the world behind All -/
def alW (w : World) (p : Value) (lo hi : ByteArray) : World := ((w.alloc (.cells #[p] 23)).alloc (.cells #[.string lo] 9)).alloc (.cells #[.string hi] 9)
def alV (w : World) : Value := .func (.func 46) #[] #[.pointer (some ⟨w.heap.size, 0, none⟩), .pointer (some ⟨w.heap.size + 1, 0, none⟩), .pointer (some ⟨w.heap.size + 2, 0, none⟩)]
theorem all_call (a : Option Addr) (lo hi : ByteArray) (w : World) : Calls Try.prog 30 #[.pointer a, .string lo, .string hi] w fun e w' => e = .returned (alV w) ∧ w' = alW w (.pointer a) lo hi := by
  unfold alV alW
  go_enter Try.func30, Try.ntmps30
  go_wp2
  go_ret
  exact ⟨rfl, rfl⟩
theorem alW_cells (w : World) (p : Value) (lo hi : ByteArray) : (alW w p lo hi).cell? ⟨w.heap.size, 0, none⟩ = some p ∧ (alW w p lo hi).cell? ⟨w.heap.size + 1, 0, none⟩ = some (.string lo) ∧ (alW w p lo hi).cell? ⟨w.heap.size + 2, 0, none⟩ = some (.string hi) := by
  unfold alW
  have box := fun (w : World) (v : Value) (t : TypeId) => (cell_of_row (w.alloc (.cells #[v] t)) _ 0 #[v] t (0, 0) (heap_alloc_new w (.cells #[v] t)) : (w.alloc (.cells #[v] t)).cell? ⟨w.heap.size, 0, none⟩ = some v)
  have h1 := box w p 23
  have h2 := box (w.alloc (.cells #[p] 23)) (.string lo) 9
  have h3 := box ((w.alloc (.cells #[p] 23)).alloc (.cells #[.string lo] 9)) (.string hi) 9
  simp only [World.size_alloc] at h2 h3
  exact ⟨keep_cell (al0 _ _) (keep_cell (al0 _ _) h1), keep_cell (al0 _ _) h2, h3⟩
theorem alW_below (w : World) (p : Value) (lo hi : ByteArray) : Below w.heap.size w (alW w p lo hi) := trans0 (trans0 (al0 _ _) (al0 _ _)) (al0 _ _)
end Go.Proofs.Ytlojmojmijklmaa.stoI
