/- The contract of a store's Trim: a range over the map that sets what it goes through. -/
import Derived.Test.YtlojmojmijklmaaStoT
import Derived.Test.YtlojmojmijklmaaMapR
import Derived.RangeFuncOwn
set_option linter.unusedVariables false
set_option maxRecDepth 100000
namespace Go.Proofs.Ytlojmojmijklmaa.stoU
open Go.ChangeShapes Go.WideShapes Go.ChangeAt Go.RowKit Go.Deep Go.Sort Go.Maps
open opV chnM gen chnA chnB chnR chnE chnG chnT stoM stoA stoL stoB stoC stoP stoT mapR

theorem grown_of_below {w w1 : World} (h : Below w.heap.size w w1) : w.grownBy w1 none := ⟨h.os, h.tape, h.output, h.size, fun i hi _ => h.block i hi⟩
/-! ### So many chains are trimmed, plainly -/
def tmP (ch : List Ch) (f : Int) (ss : List (List UInt8)) : List Ch := ch.map fun c => if ss.contains c.key.data.toList = true then tm1 f c else c
def upK (ch : List Ch) (k : ByteArray) (l : List Ver) : List Ch := ch.map fun c => if seq c.key k = true then ⟨c.key, l⟩ else c
theorem tmP_nil (ch : List Ch) (f : Int) : tmP ch f [] = ch := by
  unfold tmP
  refine (List.map_congr_left fun c _ => ?_).trans (List.map_id _)
  simp
theorem tmP_key (ch : List Ch) (f : Int) (ss : List (List UInt8)) : (tmP ch f ss).map (·.key) = ch.map (·.key) := by
  unfold tmP
  rw [List.map_map]
  refine List.map_congr_left fun c _ => ?_
  simp only [Function.comp]
  split <;> rfl
theorem tmP_all {ch : List Ch} {f : Int} {ss : List (List UInt8)} (h : ∀ c ∈ ch, c.key.data.toList ∈ ss) : tmP ch f ss = tmC ch f := by
  unfold tmP tmC
  refine List.map_congr_left fun c hc => ?_
  rw [if_pos (by simpa using h c hc)]
theorem key_ba {k : ByteArray} {x : List UInt8} : k.data.toList = x ↔ k = bk x := ⟨fun h => by rw [← h, bk_key], fun h => by rw [h]; unfold bk; simp⟩
theorem tmP_step {ch : List Ch} (hs : Srt ch) {f : Int} {ss : List (List UInt8)} {x : List UInt8} {d : Ch} (hd : d ∈ ch) (hk : d.key = bk x) (hx : x ∉ ss) : tmP ch f (ss ++ [x]) = upK (tmP ch f ss) (bk x) (trm d.l f) := by
  unfold tmP upK
  rw [List.map_map]
  refine List.map_congr_left fun c hc => ?_
  simp only [Function.comp]
  by_cases e : c.key = bk x
  · have e2 : c = d := key_inj hs hc hd (e.trans hk.symm)
    subst e2
    have e3 : c.key.data.toList = x := key_ba.2 e
    have e5 : ss.contains c.key.data.toList = false := by rw [e3]; simpa using hx
    have e6 : (ss ++ [x]).contains c.key.data.toList = true := by rw [e3]; simp
    simp only [e5, e6, Bool.false_eq_true, if_false, if_true]
    rw [if_pos (by rw [e, seq_self])]
    rfl
  · have e3 : c.key.data.toList ≠ x := fun h => e (key_ba.1 h)
    have e4 : (ss ++ [x]).contains c.key.data.toList = ss.contains c.key.data.toList := by
      rw [Bool.eq_iff_iff]; simp [e3]
    rw [e4]
    by_cases e5 : ss.contains c.key.data.toList = true
    · rw [if_pos e5, if_neg (by show ¬ seq (tm1 f c).key (bk x) = true; rw [show (tm1 f c).key = c.key from rfl, seq_ne e]; simp)]
    · rw [if_neg e5, if_neg (by rw [seq_ne e]; simp)]
theorem Inv.tmP {s : St} (h : Inv s) (f g : Int) (ss : List (List UInt8)) : Inv ⟨tmP s.ch f ss, g⟩ := by
  have hm : ∀ c ∈ stoU.tmP s.ch f ss, ∃ d ∈ s.ch, c.key = d.key ∧ (c.l = d.l ∨ c.l = trm d.l f) := by
    intro c hc
    obtain ⟨d, hd, rfl⟩ := List.mem_map.1 hc
    refine ⟨d, hd, ?_⟩
    split
    · exact ⟨rfl, .inr rfl⟩
    · exact ⟨rfl, .inl rfl⟩
  refine ⟨?_, fun c hc => ?_, fun c hc => ?_, fun c hc => ?_⟩
  · have h1 : (s.ch.map (·.key)).Pairwise (fun a b => slt a b = true) := List.pairwise_map.2 h.srt
    rw [← tmP_key s.ch f ss] at h1
    exact List.pairwise_map.1 h1
  all_goals obtain ⟨d, hd, e1, e2⟩ := hm c hc
  · rcases e2 with e2 | e2 <;> rw [e2]
    · exact h.ne d hd
    · exact trm_ne _ (h.ne d hd)
  · rw [e1]
    rcases e2 with e2 | e2 <;> rw [e2]
    · exact h.key d hd
    · exact fun v hv => h.key d hd v (mem_trm.1 hv).1
  · rcases e2 with e2 | e2 <;> rw [e2]
    · exact h.chn d hd
    · exact trm_chain _ (h.chn d hd)
theorem ln_tmP (f : Int) (ss : List (List UInt8)) : ∀ ch : List Ch, ln (tmP ch f ss) ≤ ln ch
  | [] => Nat.le_refl _
  | c :: r => by
    have h1 := ln_tmP f ss r
    have h2 := trm_le c.l f
    have e1 : tmP (c :: r) f ss = (if ss.contains c.key.data.toList = true then tm1 f c else c) :: tmP r f ss := rfl
    have e2 : ∀ (x : Ch) (r : List Ch), ln (x :: r) = x.l.length + ln r := fun x r => by simp [ln]
    rw [e1, e2, e2]
    split
    · show (trm c.l f).length + _ ≤ _
      omega
    · omega
/-! ### .. in memory -/
theorem up_fin {B : Nat → Prop} {w6 w9 : World} {S b base n : Nat} {s : St} {D : DataW Value} {k : ByteArray} {l : List Ver} {A2 : Option Addr} {c2 : Nat} (h6 : SIs B w6 S b s D) (hk : k.size ≤ maxLen) (hmem : ∃ d ∈ s.ch, d.key = k)
    (hG : GV w6 base A2 c2 l) (hl : l.length ≤ 60000) (hbase : ∀ k, B k → k < base) (hi : Inv ⟨upK s.ch k l, s.fl⟩) (hln : ln (upK s.ch k l) ≤ 60000)
    (hm : w9.ownsMap Try.prog 9 hR b n (D.put (kS k) (.held (.slice A2 l.length c2)))) (ht : w6.mapTurned w9 b) : Chg (own2 S b) w6 w9 ∧ SIs B w9 S b ⟨upK s.ch k l, s.fl⟩ (D.put (kS k) (.held (.slice A2 l.length c2))) := by
  have hgr := ht.grown
  have hch : Chg (own2 S b) w6 w9 := Chg.grown hgr (fun k e => by cases e; exact .inr rfl)
  have hK : ∀ k, own2 S b k → B k := fun k e => by rcases e with rfl | rfl; exact h6.bS; exact h6.bb
  have hisM : Maps.IsMap D := World.ownsMap.isMap h6.map
  have hkl : WideAt.IsKeyLit (kS k) := law.key (hkey k hk)
  have hd : DV B w9 (.slice A2 l.length c2) l := (DV.of_gv hG (by omega) hbase).go hch hK
  have hmu : ∀ c, c ∈ upK s.ch k l ↔ (c = ⟨k, l⟩ ∨ (c ∈ s.ch ∧ c.key ≠ k)) := by
    intro c
    unfold upK
    rw [List.mem_map]
    constructor
    · rintro ⟨d, hd, rfl⟩
      split
      · rename_i e
        exact .inl (by rw [(seq_iff _ _).1 e])
      · rename_i e
        exact .inr ⟨hd, fun e2 => e (by rw [e2, seq_self])⟩
    · rintro (rfl | ⟨h1, h2⟩)
      · obtain ⟨d, hd, rfl⟩ := hmem
        exact ⟨d, hd, by rw [if_pos (seq_self _)]⟩
      · exact ⟨c, h1, by rw [if_neg (by rw [seq_ne h2]; simp)]⟩
  have hear : Ear B w9 (D.put (kS k) (.held (.slice A2 l.length c2))) (upK s.ch k l) := by
    refine ⟨fun k' => ?_, fun c hc => ?_⟩
    · by_cases e : k' = k
      · subst e
        rw [Maps.has_put_same hisM hkl]
        exact ⟨fun _ => ⟨_, (hmu _).2 (.inl rfl), rfl⟩, fun _ => rfl⟩
      · rw [Maps.has_put_other (kS_ne e), h6.ear.1 k']
        constructor
        · rintro ⟨c, hc, rfl⟩
          exact ⟨c, (hmu c).2 (.inr ⟨hc, e⟩), rfl⟩
        · rintro ⟨c, hc, rfl⟩
          rcases (hmu c).1 hc with rfl | ⟨hc, _⟩
          · exact absurd rfl e
          · exact ⟨c, hc, rfl⟩
    · rcases (hmu c).1 hc with rfl | ⟨hc, hne⟩
      · exact ⟨_, fun z => Maps.atKey_put_same hisM hkl _ z, hd⟩
      · obtain ⟨u, h1, h2⟩ := h6.ear.2 c hc
        exact ⟨u, fun z => by rw [Maps.atKey_put_other (kS_ne hne)]; exact h1 z, h2.go hch hK⟩
  refine ⟨hch, ?_⟩
  exact
    { row := h6.row.of_block (hgr.block S h6.row.lt (fun e => h6.ne (by cases e; rfl)))
      map := map_tight hm hi.srt hear.1
      ear := hear
      inv := hi
      ln := hln
      bS := h6.bS
      bb := h6.bb
      bd := fun k hk => Nat.lt_of_lt_of_le (h6.bd k hk) hgr.size }
/-- a block that is no cells and not the store's turns -/
theorem _root_.Go.Proofs.Ytlojmojmijklmaa.stoA.SIs.kept {B : Nat → Prop} {w w2 : World} {S b r : Nat} {s : St} {D : DataW Value} (h : SIs B w S b s D) (hg : w.grownBy w2 (some r)) (hr : ∃ o : Obj, w.heap[r]? = some o ∧ o.isCells = false) (hS : S ≠ r) (hb : b ≠ r) : SIs B w2 S b s D := by
  have hk : ∀ i, i < w.heap.size → i ≠ r → w2.heap[i]? = w.heap[i]? := fun i h1 h2 => hg.block i h1 (fun e => h2 (by cases e; rfl))
  have hr' : ∀ q, (some r : Option Nat) = some q → ∃ o : Obj, w.heap[q]? = some o ∧ o.isCells = false := fun q e => by cases e; exact hr
  refine { h with row := h.row.of_block (hk S h.row.lt hS), map := map_block h.map (hk b (World.ownsMap.lt h.map) hb), ear := ⟨h.ear.1, fun c hc => ?_⟩, bd := fun k hk => Nat.lt_of_lt_of_le (h.bd k hk) hg.size }
  obtain ⟨v, h1, A, cp, e, h2, h3⟩ := h.ear.2 c hc
  refine ⟨v, h1, A, cp, e, { h2 with row := ?_ }, h3⟩
  rcases h2.row with h0 | ⟨b2, off, e2, hlt, hc2⟩
  · exact .inl h0
  · by_cases h0 : c.l.length = 0
    · exact .inl h0
    · refine .inr ⟨b2, off, e2, Nat.lt_of_lt_of_le hlt hg.size, fun i hi => ?_⟩
      obtain ⟨o2, q1, q2⟩ := cells_of_cell (hc2 i hi).1
      exact (hc2 i hi).of_block (grownBy_keeps_cells hg hr' q1 q2)
/-- between two rounds -/
structure TI (B : Nat → Prop) (S b : Nat) (s : St) (f : Int) (D0 : DataW Value) (w : World) (r : Nat) (ss : List (List UInt8)) (cnt : Nat) (left : Lit → Bool) (D : DataW Value) (wr : World) : Prop where
  rg : wr.ranges Try.prog 9 hR b r s.ch.length D left cnt
  col : Collected D0 left ss
  len : ss.length + cnt ≤ s.ch.length
  at_ : SIs B wr S b ⟨tmP s.ch f ss, f⟩ D
  chg : Chg (own2 S b) w wr
  new : ∀ k, B k → k < r
/-- a round -/
theorem TI.next {B : Nat → Prop} {S b : Nat} {s : St} {f : Int} {D0 : DataW Value} {w : World} {r : Nat} {ss : List (List UInt8)} {cnt cnt2 : Nat} {left : Lit → Bool} {D : DataW Value} {wr w2 : World} (hs : Inv s) (hln : ln s.ch ≤ 60000) {w1 : World} (hD0 : SIs B w1 S b ⟨s.ch, f⟩ D0)
    (h : TI B S b s f D0 w r ss cnt left D wr) {x : List UInt8} {c : Value} (hxl : x.length ≤ maxLen) (hlk : left (.string x) = true) (hat : ∀ zd, D.atKey (.string x) zd = .held c) (hrg2 : w2.ranges Try.prog 9 hR b r s.ch.length D (fun z => left z && !z.sameKey (.string x)) cnt2) (hlt : cnt2 < cnt) (hg2 : wr.grownBy w2 (some r)) (hw : w.heap.size ≤ r) :
    ∃ d ∈ s.ch, d.key = bk x ∧ x ∉ ss ∧ ∃ A cp, c = .slice A d.l.length cp ∧ HV w2 A cp d.l ∧ w2.cell? ⟨S, 0, none⟩ = some (.map (some b)) ∧ w2.cell? ⟨S, 1, none⟩ = some (.int .u64 f) ∧
      ∀ w3 A2 c2, Below w2.heap.size w2 w3 → GV w3 w2.heap.size A2 c2 (trm d.l f) → w3.cell? ⟨S, 0, none⟩ = some (.map (some b)) ∧ ∃ w4, (Instr.mapUpdate 63 (.map (some b)) (.string (bk x)) (.slice A2 (trm d.l f).length c2)).run Try.prog w3 = .ok () w4 ∧
        ∃ D', TI B S b s f D0 w r (ss ++ [x]) cnt2 (fun z => left z && !z.sameKey (.string x)) D' w4 := by
  have hbn : b ≠ r := fun e => hrg2.ne e.symm
  have hI2 : SIs B w2 S b ⟨tmP s.ch f ss, f⟩ D := h.at_.kept hg2 (by obtain ⟨_, _, _, _, _, _, _, _, _, e, _⟩ := h.rg; exact ⟨_, e, rfl⟩) (by have := h.new S h.at_.bS; omega) hbn
  have hx : x ∉ ss := fun hx => by have := ((h.col.2 x).1 hx).2; rw [hlk] at this; cases this
  obtain ⟨d', hd', hk', A, cp, hc, hHV, hn⟩ := at_chain hI2 hat
  obtain ⟨d, hd, e⟩ := List.mem_map.1 hd'
  have hdk : d.key = bk x := by rw [← hk', ← e]; split <;> rfl
  have hdd : d' = d := by
    rw [← e, if_neg]
    rw [key_ba.2 hdk]
    simpa using hx
  subst hdd
  obtain ⟨q0, q1⟩ := SIs.cells hI2
  refine ⟨d', hd, hdk, hx, A, cp, hc, hHV, q0, q1, fun w3 A2 c2 hB3 hG3 => ?_⟩
  have hhas : Maps.has D (.string x) = true := has_true_of_atKey hat
  have hkz : (bk x).size ≤ maxLen := by unfold bk; show x.toArray.size ≤ maxLen; simpa using hxl
  have hrg3 := hrg2.kept (grown_of_below hB3) (by simp) (by simp)
  have hkx := hkey (bk x) hkz
  rw [kS_bk] at hkx
  have hI3 := hI2.below hB3
  obtain ⟨w4, hrun, hrg4, ht⟩ := ranges_store (val := .slice A2 (trm d'.l f).length c2) (d := .held (.slice A2 (trm d'.l f).length c2)) (ps := []) hrg3 law Try.underlying63 (by have := len_ln hs.ne; unfold maxLen; omega) hkx rfl hhas
  have ht1 := trm_le d'.l f
  have hdl := ln_le hd
  have hup := tmP_step hs.srt (f := f) hd hdk hx
  have hinv := Inv.tmP hs f f (ss ++ [x])
  have hln2 := ln_tmP f (ss ++ [x]) s.ch
  rw [hup] at hinv hln2
  have hm4 := hrg4.owns
  rw [← kS_bk] at hm4
  obtain ⟨hch, hI4⟩ := up_fin hI3 hkz ⟨d', hd', hdk⟩ hG3 (by omega) (fun k hk => Nat.lt_of_lt_of_le (h.at_.bd k hk) (by have := hg2.size; omega)) hinv (Nat.le_trans hln2 hln) hm4 ht
  refine ⟨keep_cell hB3 q0, w4, hrun, D.put (kS (bk x)) (.held (.slice A2 (trm d'.l f).length c2)), ?_⟩
  have hcol : Collected D0 (fun z => left z && !z.sameKey (.string x)) (ss ++ [x]) := by
    obtain ⟨v, hv, _⟩ := hD0.ear.2 d' hd
    rw [hdk, kS_bk] at hv
    exact h.col.step hlk hv
  rw [← kS_bk] at hrg4
  refine ⟨by rw [kS_bk]; rw [kS_bk] at hrg4; exact hrg4, hcol, by have := h.len; rw [List.length_append]; simp; omega, by rw [hup]; exact hI4, ?_, h.new⟩
  have h2 : Chg (own2 S b) w w2 := ⟨hg2.os.trans h.chg.os, hg2.tape.trans h.chg.tape, hg2.output.trans h.chg.output, Nat.le_trans h.chg.size hg2.size, fun k h3 h4 => (hg2.block k (Nat.lt_of_lt_of_le h3 h.chg.size) (fun e => by cases e; omega)).trans (h.chg.block k h3 h4)⟩
  exact (h2.then hB3).trans hch
def Trimd (B : Nat → Prop) (S b : Nat) (s : St) (g : Int) (w : World) (e : Ending) (w' : World) : Prop :=
  e = .returned (.int .i64 (tmN s.ch (tmF s.fl g) : Nat)) ∧ Chg (own2 S b) w w' ∧ SAt B w' S b ⟨tmC s.ch (tmF s.fl g), tmF s.fl g⟩
set_option maxHeartbeats 4000000 in
theorem trim_store {B : Nat → Prop} {S b : Nat} {s : St} (g : Int) (w : World) (h : SAt B w S b s) : Calls Try.prog 21 #[.pointer (some ⟨S, 0, none⟩), .int .u64 g] w (Trimd B S b s g w) := by
  obtain ⟨D, hI⟩ := h
  obtain ⟨q0, q1⟩ := SIs.cells hI
  have qf := hI.row.frozen 1
  have hbS := hI.ne
  obtain ⟨w1, hw1⟩ : ∃ w1, w.setCell ⟨S, 1, none⟩ (.int .u64 (tmF s.fl g)) = w1 := ⟨_, rfl⟩
  have hC1 : Chg (own2 S b) w w1 := by rw [← hw1]; exact (Chg.refl _ _).setCell (p := ⟨S, 1, none⟩) (.inl rfl) _
  have hK : ∀ k, own2 S b k → B k := fun k e => by rcases e with rfl | rfl; exact hI.bS; exact hI.bb
  have hI1 : SIs B w1 S b ⟨s.ch, tmF s.fl g⟩ D := by
    refine { row := ?_, map := map_block hI.map (by rw [← hw1]; exact Below.heap_setCell w ⟨S, 1, none⟩ _ b hbS), ear := hI.ear.go hC1 hK, inv := ⟨hI.inv.srt, hI.inv.ne, hI.inv.key, hI.inv.chn⟩, ln := hI.ln, bS := hI.bS, bb := hI.bb, bd := fun k hk => Nat.lt_of_lt_of_le (hI.bd k hk) hC1.size }
    rw [← hw1]
    exact (hI.row.set 1 _).congr fun i hi => by
      have : i = 0 ∨ i = 1 := by omega
      rcases this with rfl | rfl <;> rfl
  have hinv := hI.inv
  have hlnn := hI.ln
  have hsz := hI1.size
  have hchl := hI.len
  have hwS := hI.row.lt
  have hmax : (if s.fl < g then g else s.fl) = tmF s.fl g := rfl
  have hmx : max s.fl g = tmF s.fl g := by unfold tmF; split <;> omega
  generalize hf : tmF s.fl g = f at *
  have hmp : Hid ((w.setCell ⟨S, 1, none⟩ (.int .u64 (max s.fl g))).ownsMap Try.prog 9 hR b s.ch.length D) := Lib.hid (by rw [hmx, hw1]; exact hI1.map)
  have hws : Hid (w.setCell ⟨S, 1, none⟩ (.int .u64 (max s.fl g)) = w1) := Lib.hid (by rw [hmx]; exact hw1)
  replace hI1 := Lib.hid hI1
  replace hC1 := Lib.hid hC1
  replace hinv := Lib.hid hinv
  replace hmx := Lib.hid hmx
  replace hw1 := Lib.hid hw1
  replace hf := Lib.hid hf
  clear hI hK hmax
  go_enter Try.func21, Try.ntmps21
  go_wp2_with (at_range; refine wpList_range_own _ rfl _ 63 rfl 9 30 law Try.underlying63 hR b s.ch.length D rfl hmp.out ?_; intro w0 hrg0 hg0 hs0)
  rw [hws.out] at hrg0 hg0 hs0
  have hsz1 : w1.heap.size = w.heap.size := by rw [← hw1.out, World.size_setCell]
  rw [hsz1] at hrg0
  have hTI0 : Hid (TI B S b s f D w w.heap.size [] (Maps.size D) (Maps.has D) D w0) := Lib.hid ⟨hrg0, Collected.start D, by rw [hsz]; simp, by rw [tmP_nil]; exact hI1.out.below ⟨hg0.os, hg0.tape, hg0.output, hg0.size, fun i hi => hg0.block i hi (by simp)⟩, hC1.out.then ⟨hg0.os, hg0.tape, hg0.output, hg0.size, fun i hi => hg0.block i hi (by simp)⟩, fun k hk => by have := hI1.out.bd k hk; omega⟩
  clear hrg0 hg0 hs0 q0 q1 qf hmp
  go_wp2
  go_loopw [5] (fun t wr => ∃ (left : Lit → Bool) (cnt : Nat) (ss : List (List UInt8)) (D' : DataW Value), t = .int .i64 ((ss.map fun x => (fun l : List Ver => l.length - (trm l f).length) (of s.ch (bk x))).sum : Nat) ∧ Hid (TI B S b s f D w w.heap.size ss cnt left D' wr)) (fun _ wr => wr.rangeLeft b w.heap.size)
  case atStart => exact ⟨_, _, [], _, rfl, hTI0⟩
  case round =>
    obtain ⟨left, cnt, ss, D', rfl, hT⟩ := hrel
    clear hTI0
    go_wp2_with (at_next; refine wpList_next_ranges _ rfl _ rfl 9 law stoA.hR encStr id (fun key kl hk => by obtain ⟨x, hx, _⟩ := Maps.keyOf_str Try.underlying9 hk; exact ⟨x, hx⟩) (fun v _ _ => ⟨v, rfl⟩) b w.heap.size _ _ _ _ rfl hT.out.rg ?_ ?_)
    · intro hc0 hl0
      have hp := Lib.hid ((hT.out.col.perm hI1.out.map law Try.underlying9 hl0).trans hI1.out.keys.symm)
      have he := sum_keys hinv.out.srt hp.out (fun l : List Ver => l.length - (trm l f).length)
      have hall : tmP s.ch f ss = tmC s.ch f := tmP_all fun c hc => hp.out.symm.subset (List.mem_map_of_mem hc)
      have hfin : Hid (Trimd B S b s g w (.returned (.int .i64 ((ss.map fun x => (fun l : List Ver => l.length - (trm l f).length) (of s.ch (bk x))).sum : Nat))) wr) := Lib.hid (by
        refine ⟨?_, hT.out.chg, D', ?_⟩
        · rw [he, hf.out]; rfl
        · rw [hf.out, ← hall]; exact hT.out.at_)
      clear hT hp he hall
      generalize (ss.map fun x => (fun l : List Ver => l.length - (trm l f).length) (of s.ch (bk x))).sum = q at *
      go_wp2
      go_ret
      exact hfin.out
    · intro x c kl yd yp w2 cnt2 hkey hlk hv hat hrg2 hlt hg2 hs2 hen
      obtain ⟨x', ex, rfl, hxl⟩ := Maps.keyOf_str Try.underlying9 hkey
      obtain rfl : x = x' := encStr_inj ex
      unfold stoA.hR at hv
      cases hv
      obtain ⟨d, hd, hdk, hxn, A, cp, e1, hHV, k0, k1, hnext⟩ := TI.next hinv.out hlnn hI1.out hT.out hxl hlk hat hrg2 hlt hg2 (Nat.le_refl _)
      obtain rfl : c = .slice A d.l.length cp := e1
      have hol : of s.ch (bk x) = d.l := by rw [← hdk]; exact of_some hinv.out.srt hd
      have hfl : ∀ x, (fun l : List Ver => l.length - (trm l f).length) (of s.ch (bk x)) ≤ 60000 := fun x => by
        have := Nat.le_trans (of_len hinv.out (bk x)) hlnn
        show (of s.ch (bk x)).length - _ ≤ _
        omega
      have hle := sum_le hfl ss
      have hdl : d.l.length ≤ 60000 := Nat.le_trans (ln_le hd) hlnn
      have hln := hT.out.len
      have hsum : ((ss ++ [x]).map fun x => (fun l : List Ver => l.length - (trm l f).length) (of s.ch (bk x))).sum = (ss.map fun x => (fun l : List Ver => l.length - (trm l f).length) (of s.ch (bk x))).sum + (d.l.length - (trm d.l f).length) := by simp [hol]
      have hmeas := Lib.hid (show w2.rangeLeft b w.heap.size = cnt2 ∧ wr.rangeLeft b w.heap.size = cnt ∧ cnt2 < cnt from ⟨hrg2.left_eq, hT.out.rg.left_eq, hlt⟩)
      have hb9 : (ss.map fun x => (fun l : List Ver => l.length - (trm l f).length) (of s.ch (bk x))).sum ≤ 3600000000 := by
        have := Nat.mul_le_mul_right 60000 (show ss.length ≤ 60000 by omega)
        omega
      have htr := Lib.hid (trim_any A cp d.l f w2 hHV)
      have hek : encStr x = .string (bk x) := rfl
      have hmon : d.l.length - (trm d.l f).length ≤ 60000 := by omega
      replace hnext := Lib.hid hnext
      rw [hek] at hen ⊢
      clear hT hrg2 hlt hg2 hs2 hat hlk hkey hHV hle hek ex
      generalize (ss.map fun x => (fun l : List Ver => l.length - (trm l f).length) (of s.ch (bk x))).sum = q at *
      generalize d.l.length - (trm d.l f).length = gone at *
      go_wp2_with (fail)
      with_reducible refine htr.out.mono ?_
      rintro e w3 ⟨A2, c2, rfl, hG3, hB3⟩
      obtain ⟨k2, w4, hrun, D2, hT4⟩ := hnext.out w3 A2 c2 hB3 hG3
      have hm4 := Lib.hid (show w4.rangeLeft b w.heap.size < wr.rangeLeft b w.heap.size by rw [hT4.rg.left_eq, hmeas.out.2.1]; exact hmeas.out.2.2)
      replace hT4 := Lib.hid hT4
      clear hnext htr hG3 hB3 hen k0 k1
      go_wp2
      exact ⟨⟨_, cnt2, ss ++ [x], D2, by rw [hsum]; go_num, hT4⟩, hm4.out⟩
end Go.Proofs.Ytlojmojmijklmaa.stoU
