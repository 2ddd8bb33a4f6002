/- A store, plainly: chains by rising keys, a floor; what its calls answer and leave. -/
import Derived.Test.YtlojmojmijklmaaChnT
import GoSem.Op.String
import Derived.Laws.Strings
set_option linter.unusedVariables false
namespace Go.Proofs.Ytlojmojmijklmaa.stoM
open Go opV chnM chnT

/-! ### The order of keys -/
abbrev emp : ByteArray := { data := #[] }
theorem u8_irr (a : UInt8) : ¬ a < a := by rw [UInt8.lt_iff_toNat_lt]; omega
theorem bl_irr : ∀ x : List UInt8, Op.bytesLess x x = false
  | [] => rfl
  | a :: x => by simp [Op.bytesLess, bl_irr x, u8_irr a]
theorem bl_trans : ∀ x y z : List UInt8, Op.bytesLess x y = true → Op.bytesLess y z = true → Op.bytesLess x z = true
  | x, [], z, h, _ => by cases x <;> simp [Op.bytesLess] at h
  | x, b :: y, [], _, h => by simp [Op.bytesLess] at h
  | [], b :: y, c :: z, _, _ => rfl
  | a :: x, b :: y, c :: z, h1, h2 => by
    simp only [Op.bytesLess, Bool.or_eq_true, decide_eq_true_eq, Bool.and_eq_true, beq_iff_eq, UInt8.lt_iff_toNat_lt] at h1 h2 ⊢
    rcases h1 with h1 | ⟨rfl, h1⟩
    · rcases h2 with h2 | ⟨rfl, h2⟩
      · exact .inl (by omega)
      · exact .inl h1
    · rcases h2 with h2 | ⟨rfl, h2⟩
      · exact .inl h2
      · exact .inr ⟨rfl, bl_trans x y z h1 h2⟩
theorem bl_tri : ∀ x y : List UInt8, Op.bytesLess x y = false → Op.bytesLess y x = false → x = y
  | [], [], _, _ => rfl
  | [], b :: y, h, _ => by simp [Op.bytesLess] at h
  | a :: x, [], _, h => by simp [Op.bytesLess] at h
  | a :: x, b :: y, h1, h2 => by
    simp only [Op.bytesLess, Bool.or_eq_false_iff, decide_eq_false_iff_not, Bool.and_eq_false_iff, beq_eq_false_iff_ne, UInt8.lt_iff_toNat_lt] at h1 h2
    have e : a = b := UInt8.toNat_inj.1 (by omega)
    subst e
    rw [bl_tri x y (by rcases h1.2 with h | h; exact absurd rfl h; exact h) (by rcases h2.2 with h | h; exact absurd rfl h; exact h)]
def slt (a b : ByteArray) : Bool := Op.bytesLess a.toList b.toList
def seq (a b : ByteArray) : Bool := a.toList == b.toList
def sle (a b : ByteArray) : Bool := slt a b || seq a b
theorem toList_inj {a b : ByteArray} (h : a.toList = b.toList) : a = b := by
  rw [ByteArray.toList_eq, ByteArray.toList_eq] at h
  cases a; cases b
  exact congrArg ByteArray.mk (Array.toList_inj.1 h)
theorem seq_iff (a b : ByteArray) : seq a b = true ↔ a = b := by
  unfold seq
  rw [beq_iff_eq]
  exact ⟨toList_inj, fun h => by rw [h]⟩
theorem seq_self (a : ByteArray) : seq a a = true := (seq_iff a a).2 rfl
theorem seq_ne {a b : ByteArray} (h : a ≠ b) : seq a b = false := by
  cases e : seq a b
  · rfl
  · exact absurd ((seq_iff a b).1 e) h
theorem slt_irr (a : ByteArray) : slt a a = false := bl_irr _
theorem slt_trans {a b c : ByteArray} (h1 : slt a b = true) (h2 : slt b c = true) : slt a c = true := bl_trans _ _ _ h1 h2
theorem slt_tri {a b : ByteArray} (h1 : slt a b = false) (h2 : slt b a = false) : a = b := toList_inj (bl_tri _ _ h1 h2)
theorem sle_not (a b : ByteArray) : sle a b = !slt b a := by
  unfold sle
  cases h1 : slt a b
  · cases h2 : slt b a
    · rw [slt_tri h1 h2, seq_self]; rfl
    · cases h3 : seq a b
      · rfl
      · rw [(seq_iff a b).1 h3, slt_irr] at h2; cases h2
  · cases h2 : slt b a
    · rfl
    · have := slt_trans h1 h2
      rw [slt_irr] at this; cases this
theorem sle_self (a : ByteArray) : sle a a = true := by rw [sle_not, slt_irr]; rfl
theorem sle_of_lt {a b : ByteArray} (h : slt a b = true) : sle a b = true := by unfold sle; rw [h]; rfl
theorem lt_of_lt_le {a b c : ByteArray} (h1 : slt a b = true) (h2 : sle b c = true) : slt a c = true := by
  unfold sle at h2
  rw [Bool.or_eq_true] at h2
  rcases h2 with h2 | h2
  · exact slt_trans h1 h2
  · rw [← (seq_iff b c).1 h2]; exact h1
theorem not_slt_le {a b : ByteArray} : slt a b = false ↔ sle b a = true := by rw [sle_not]; cases slt a b <;> simp
theorem emp_le (a : ByteArray) : slt a emp = false := by
  unfold slt
  rw [ByteArray.toList_eq emp]
  show Op.bytesLess _ [] = false
  cases a.toList <;> rfl
theorem emp_lt {a : ByteArray} (h : a ≠ emp) : slt emp a = true := by
  cases e : slt emp a
  · exact absurd (slt_tri (emp_le a) e) h
  · rfl


def wth (key lo hi : ByteArray) : Bool := !slt key lo && (seq hi emp || slt key hi)
theorem wth_all (k : ByteArray) : wth k emp emp = true := by unfold wth; rw [emp_le, seq_self]; rfl

/-! ### A store -/
structure Ch where
  key : ByteArray
  l : List Ver
instance : Inhabited Ch := ⟨⟨emp, []⟩⟩
structure St where
  ch : List Ch
  fl : Int
def St.new : St := ⟨[], 0⟩
def chk (v : Ver) : Nat :=
  if 16 < v.key.size ∨ 64 < v.val.size then 6
  else if seq v.key emp = true ∨ (v.gone = true ∧ seq v.val emp = false) ∨ ¬ (0 ≤ v.dc ∧ v.dc < 4) ∨ ¬ (0 ≤ v.tx ∧ v.tx ≤ 1073741824) then 1 else 0
def fnd : List Ch → ByteArray → Option (List Ver)
  | [], _ => none
  | c :: r, k => if seq c.key k = true then some c.l else fnd r k
def of (ch : List Ch) (k : ByteArray) : List Ver := (fnd ch k).getD []
/-- the document's way: one chain after the other -/
def stO (ch : List Ch) (k : ByteArray) (l : List Ver) : Nat → List Ch × Bool
  | 0 => ([], false)
  | i + 1 =>
    ((if (stO ch k l i).2 = false ∧ sle k (nt ch i).key = true then (stO ch k l i).1 ++ [⟨k, l⟩] else (stO ch k l i).1) ++ (if seq (nt ch i).key k = true then [] else [nt ch i]),
     (stO ch k l i).2 || sle k (nt ch i).key)
def stC (ch : List Ch) (k : ByteArray) (l : List Ver) : List Ch :=
  if (stO ch k l ch.length).2 = true then (stO ch k l ch.length).1 else (stO ch k l ch.length).1 ++ [⟨k, l⟩]
def puE (s : St) (v : Ver) : Nat :=
  if chk v ≠ 0 then chk v else if putE (of s.ch v.key) v ≠ 0 then putE (of s.ch v.key) v
  else if (atB (of s.ch v.key) s.fl && lt v (atV (of s.ch v.key) s.fl)) = true then 11 else 0
/-- what is left behind a version that is taken -/
def puC (s : St) (v : Ver) : List Ver := trm (put (of s.ch v.key) v) s.fl
def puS (s : St) (v : Ver) : St := if puE s v = 0 then ⟨stC s.ch v.key (puC s v), s.fl⟩ else s
def loS (s : St) (l : List Ver) : Nat → St
  | 0 => s
  | i + 1 => puS (loS s l i) (nt l i)
def loN (s : St) (l : List Ver) : Nat → Nat
  | 0 => 0
  | i + 1 => loN s l i + if puE (loS s l i) (nt l i) = 0 then 1 else 0
def gtE (s : St) (sn : Int) : Nat := if sn < s.fl then 11 else 0
def gtB (s : St) (k : ByteArray) (sn : Int) : Bool := if sn < s.fl then false else atB (of s.ch k) sn
def gtV (s : St) (k : ByteArray) (sn : Int) : Ver := if sn < s.fl then default else atV (of s.ch k) sn
def sp (ch : List Ch) (lo hi : ByteArray) : List Ch := ch.filter fun c => wth c.key lo hi
def cc (ch : List Ch) : List Ver := (ch.map (·.l)).flatten
def al (ch : List Ch) (lo hi : ByteArray) : List Ver := cc (sp ch lo hi)
def dr (ch : List Ch) (lo hi : ByteArray) : List Ch := ch.filter fun c => !wth c.key lo hi
def tmF (f g : Int) : Int := if f < g then g else f
def tm1 (f : Int) (c : Ch) : Ch := ⟨c.key, trm c.l f⟩
def tmC (ch : List Ch) (f : Int) : List Ch := ch.map (tm1 f)
def wn1 (f : Int) (c : Ch) : Nat := c.l.length - (trm c.l f).length
def tmN (ch : List Ch) (f : Int) : Nat := (ch.map (wn1 f)).sum
def ln (ch : List Ch) : Nat := (ch.map (·.l.length)).sum

/-! ### What always holds -/
def Srt (ch : List Ch) : Prop := ch.Pairwise (fun a b => slt a.key b.key = true)
structure Inv (s : St) : Prop where
  srt : Srt s.ch
  ne : ∀ c ∈ s.ch, c.l ≠ []
  key : ∀ c ∈ s.ch, ∀ v ∈ c.l, v.key = c.key
  chn : ∀ c ∈ s.ch, Chain c.l
theorem Inv.new : Inv St.new := ⟨List.Pairwise.nil, fun c h => (by cases h), fun c h => (by cases h), fun c h => (by cases h)⟩
theorem cc_nil : cc [] = [] := rfl
theorem cc_cons (c : Ch) (r : List Ch) : cc (c :: r) = c.l ++ cc r := rfl
theorem cc_app (a b : List Ch) : cc (a ++ b) = cc a ++ cc b := by simp [cc]
theorem cc_len : ∀ ch : List Ch, (cc ch).length = ln ch
  | [] => rfl
  | c :: r => by rw [cc_cons, List.length_append, cc_len r]; simp [ln]
theorem sp_all (ch : List Ch) : sp ch emp emp = ch := by
  unfold sp; rw [List.filter_eq_self]; intro c _; exact wth_all _
theorem al_all (ch : List Ch) : al ch emp emp = cc ch := by unfold al; rw [sp_all]
theorem mem_cc {ch : List Ch} {v : Ver} : v ∈ cc ch ↔ ∃ c ∈ ch, v ∈ c.l := by
  unfold cc
  rw [List.mem_flatten]
  constructor
  · rintro ⟨l, hl, hv⟩
    obtain ⟨c, hc, rfl⟩ := List.mem_map.1 hl
    exact ⟨c, hc, hv⟩
  · rintro ⟨c, hc, hv⟩
    exact ⟨c.l, List.mem_map_of_mem hc, hv⟩
theorem ln_le {ch : List Ch} {c : Ch} (h : c ∈ ch) : c.l.length ≤ ln ch := by
  induction ch with
  | nil => cases h
  | cons d r ih =>
    simp only [ln, List.map_cons, List.sum_cons] at *
    rcases List.mem_cons.1 h with rfl | h
    · omega
    · have := ih h; omega
theorem len_ln : ∀ {ch : List Ch}, (∀ c ∈ ch, c.l ≠ []) → ch.length ≤ ln ch
  | [], _ => Nat.zero_le _
  | c :: r, h => by
    have h1 := len_ln (ch := r) fun x hx => h x (List.mem_cons_of_mem _ hx)
    have h2 := List.length_pos_iff.2 (h c (List.mem_cons_self ..))
    simp only [ln, List.map_cons, List.sum_cons, List.length_cons] at *
    omega
theorem key_inj {ch : List Ch} (h : Srt ch) {c d : Ch} (hc : c ∈ ch) (hd : d ∈ ch) (e : c.key = d.key) : c = d := by
  induction ch with
  | nil => cases hc
  | cons x r ih =>
    have hp := List.pairwise_cons.1 h
    rcases List.mem_cons.1 hc with e1 | hc1 <;> rcases List.mem_cons.1 hd with e2 | hd1
    · rw [e1, e2]
    · have := hp.1 _ hd1; rw [← e1, e, slt_irr] at this; cases this
    · have := hp.1 _ hc1; rw [← e2, ← e, slt_irr] at this; cases this
    · exact ih hp.2 hc1 hd1
theorem fnd_none : ∀ {ch : List Ch} {k : ByteArray}, (∀ c ∈ ch, c.key ≠ k) → fnd ch k = none
  | [], _, _ => rfl
  | c :: r, k, h => by
    unfold fnd
    rw [seq_ne (h c (List.mem_cons_self ..))]
    exact fnd_none fun x hx => h x (List.mem_cons_of_mem _ hx)
theorem fnd_some : ∀ {ch : List Ch} {c : Ch}, Srt ch → c ∈ ch → fnd ch c.key = some c.l
  | x :: r, c, h, hc => by
    unfold fnd
    cases e : seq x.key c.key with
    | true => rw [if_pos rfl, key_inj h (List.mem_cons_self ..) hc ((seq_iff _ _).1 e)]
    | false =>
      rw [if_neg (by simp)]
      rcases List.mem_cons.1 hc with rfl | hc
      · rw [seq_self] at e; cases e
      · exact fnd_some (List.pairwise_cons.1 h).2 hc
theorem of_none {ch : List Ch} {k : ByteArray} (h : ∀ c ∈ ch, c.key ≠ k) : of ch k = [] := by unfold of; rw [fnd_none h]; rfl
theorem of_some {ch : List Ch} {c : Ch} (h : Srt ch) (hc : c ∈ ch) : of ch c.key = c.l := by unfold of; rw [fnd_some h hc]; rfl
theorem of_cases {ch : List Ch} (h : Srt ch) (k : ByteArray) : (∃ c ∈ ch, c.key = k ∧ of ch k = c.l) ∨ ((∀ c ∈ ch, c.key ≠ k) ∧ of ch k = []) := by
  by_cases hx : ∃ c ∈ ch, c.key = k
  · obtain ⟨c, hc, rfl⟩ := hx
    exact .inl ⟨c, hc, rfl, of_some h hc⟩
  · have h0 : ∀ c ∈ ch, c.key ≠ k := fun c hc e => hx ⟨c, hc, e⟩
    exact .inr ⟨h0, of_none h0⟩
theorem of_len {s : St} (h : Inv s) (k : ByteArray) : (of s.ch k).length ≤ ln s.ch := by
  rcases of_cases h.srt k with ⟨c, hc, _, e⟩ | ⟨_, e⟩ <;> rw [e]
  · exact ln_le hc
  · exact Nat.zero_le _
theorem of_chain {s : St} (h : Inv s) (k : ByteArray) : Chain (of s.ch k) := by
  rcases of_cases h.srt k with ⟨c, hc, _, e⟩ | ⟨_, e⟩ <;> rw [e]
  · exact h.chn c hc
  · exact List.Pairwise.nil
theorem of_key {s : St} (h : Inv s) (k : ByteArray) : ∀ v ∈ of s.ch k, v.key = k := by
  rcases of_cases h.srt k with ⟨c, hc, rfl, e⟩ | ⟨_, e⟩ <;> rw [e]
  · exact h.key c hc
  · intro v hv; cases hv

/-! ### A chain is set -/
/-- what lies ahead of k, and behind it -/
def bfo (ch : List Ch) (k : ByteArray) : List Ch := ch.filter fun c => slt c.key k
def aft (ch : List Ch) (k : ByteArray) : List Ch := ch.filter fun c => slt k c.key
theorem srt_nt {ch : List Ch} (h : Srt ch) {i : Nat} (hi : i < ch.length) : ∀ c ∈ ch.take i, slt c.key (nt ch i).key = true := by
  intro c hc
  rw [nt_at hi]
  obtain ⟨j, hj, rfl⟩ := List.mem_iff_getElem.1 hc
  simp at hj
  rw [List.getElem_take]
  exact List.pairwise_iff_getElem.1 h j i (by omega) hi (by omega)
theorem sle_or {a b : ByteArray} (h : sle a b = true) (hne : seq b a = false) : slt a b = true := by
  cases e : slt a b
  · rw [sle_not] at h
    have h2 : slt b a = false := by simpa using h
    rw [slt_tri e h2, seq_self] at hne; cases hne
  · rfl
theorem stO_is {ch : List Ch} (h : Srt ch) (k : ByteArray) (l : List Ver) : ∀ i, i ≤ ch.length →
    ((stO ch k l i).2 = false ∧ (stO ch k l i).1 = ch.take i ∧ ∀ c ∈ ch.take i, slt c.key k = true) ∨
    ((stO ch k l i).2 = true ∧ (stO ch k l i).1 = bfo (ch.take i) k ++ [⟨k, l⟩] ++ aft (ch.take i) k ∧ ∃ c ∈ ch.take i, sle k c.key = true)
  | 0, _ => .inl ⟨rfl, by simp [stO], by simp⟩
  | i + 1, hi => by
    have hi' : i < ch.length := by omega
    have ht := take_nt (l := ch) hi'
    have hs := srt_nt h hi'
    rcases stO_is h k l i (by omega) with ⟨h1, h2, h3⟩ | ⟨h1, h2, d, hd, hdk⟩
    · cases hle : sle k (nt ch i).key with
      | false =>
        refine .inl ⟨by simp [stO, h1, hle], ?_, ?_⟩
        · have hne : seq (nt ch i).key k = false := by
            cases e : seq (nt ch i).key k
            · rfl
            · rw [(seq_iff _ _).1 e, sle_self] at hle; cases hle
          simp only [stO, h1, hle, hne, h2, ht]; simp
        · rw [ht]
          intro c hc
          rcases List.mem_append.1 hc with hc | hc
          · exact h3 c hc
          · rw [List.mem_singleton.1 hc]
            rw [sle_not] at hle; simpa using hle
      | true =>
        have hb : bfo (ch.take i) k = ch.take i := by unfold bfo; rw [List.filter_eq_self]; exact h3
        have ha : aft (ch.take i) k = [] := by
          unfold aft; rw [List.filter_eq_nil_iff]
          intro c hc hx
          have := slt_trans (h3 c hc) hx
          rw [slt_irr] at this; cases this
        have hnl : slt (nt ch i).key k = false := by rw [sle_not] at hle; simpa using hle
        refine .inr ⟨by simp [stO, hle], ?_, nt ch i, by rw [ht]; simp, hle⟩
        rw [ht]
        unfold bfo aft at *
        rw [List.filter_append, List.filter_append, hb, ha]
        cases e : seq (nt ch i).key k with
        | true =>
          have e' := (seq_iff _ _).1 e
          simp [stO, h1, h2, e', seq_self, sle_self, slt_irr]
        | false =>
          have hlt := sle_or hle e
          simp [stO, h1, h2, hle, e, hnl, hlt]
    · have hlt : slt k (nt ch i).key = true := by
        cases e : slt k (nt ch i).key
        · have h4 := hs d hd
          have h5 : slt k (nt ch i).key = true := by
            cases e2 : slt k d.key
            · rw [sle_not] at hdk
              have e3 : slt d.key k = false := by simpa using hdk
              rw [slt_tri e2 e3]; exact h4
            · exact slt_trans e2 h4
          rw [e] at h5; cases h5
        · rfl
      have hnl : slt (nt ch i).key k = false := by
        cases e : slt (nt ch i).key k
        · rfl
        · have := slt_trans hlt e; rw [slt_irr] at this; cases this
      have hne : seq (nt ch i).key k = false := by
        cases e : seq (nt ch i).key k
        · rfl
        · rw [(seq_iff _ _).1 e, slt_irr] at hlt; cases hlt
      refine .inr ⟨by simp [stO, h1], ?_, d, by rw [ht]; exact List.mem_append_left _ hd, hdk⟩
      rw [ht]
      unfold bfo aft at *
      rw [List.filter_append, List.filter_append]
      simp [stO, h1, h2, hne, hnl, hlt]
theorem stC_is {ch : List Ch} (h : Srt ch) (k : ByteArray) (l : List Ver) : stC ch k l = bfo ch k ++ [⟨k, l⟩] ++ aft ch k := by
  have := stO_is h k l ch.length (Nat.le_refl _)
  rw [List.take_length] at this
  unfold stC
  rcases this with ⟨h1, h2, h3⟩ | ⟨h1, h2, _⟩
  · rw [h1, h2]
    have hb : bfo ch k = ch := by unfold bfo; rw [List.filter_eq_self]; exact h3
    have ha : aft ch k = [] := by
      unfold aft; rw [List.filter_eq_nil_iff]
      intro c hc hx
      have := slt_trans (h3 c hc) hx
      rw [slt_irr] at this; cases this
    rw [hb, ha]; simp
  · rw [h1, h2]; simp
theorem mem_stC {ch : List Ch} (h : Srt ch) {k : ByteArray} {l : List Ver} {c : Ch} : c ∈ stC ch k l ↔ c = ⟨k, l⟩ ∨ (c ∈ ch ∧ c.key ≠ k) := by
  rw [stC_is h]
  simp only [List.mem_append, List.mem_singleton, bfo, aft, List.mem_filter]
  constructor
  · rintro ((⟨h1, h2⟩ | h1) | ⟨h1, h2⟩)
    · exact .inr ⟨h1, fun e => by rw [e, slt_irr] at h2; cases h2⟩
    · exact .inl h1
    · exact .inr ⟨h1, fun e => by rw [e, slt_irr] at h2; cases h2⟩
  · rintro (h1 | ⟨h1, h2⟩)
    · exact .inl (.inr h1)
    · cases e : slt c.key k
      · cases e2 : slt k c.key
        · exact absurd (slt_tri e e2) h2
        · exact .inr ⟨h1, rfl⟩
      · exact .inl (.inl ⟨h1, rfl⟩)
theorem srt_stC {ch : List Ch} (h : Srt ch) (k : ByteArray) (l : List Ver) : Srt (stC ch k l) := by
  rw [stC_is h]
  unfold Srt
  rw [List.append_assoc, List.pairwise_append]
  refine ⟨List.Pairwise.filter _ h, ?_, ?_⟩
  · rw [List.singleton_append, List.pairwise_cons]
    refine ⟨fun c hc => (List.mem_filter.1 hc).2, List.Pairwise.filter _ h⟩
  · intro a ha b hb
    have h1 := (List.mem_filter.1 ha).2
    rcases List.mem_append.1 hb with hb | hb
    · rw [List.mem_singleton.1 hb]; exact h1
    · exact slt_trans h1 (List.mem_filter.1 hb).2
theorem of_stC {ch : List Ch} (h : Srt ch) (k : ByteArray) (l : List Ver) (k' : ByteArray) : of (stC ch k l) k' = if k' = k then l else of ch k' := by
  by_cases e : k' = k
  · subst e
    rw [if_pos rfl]
    exact of_some (c := ⟨k', l⟩) (srt_stC h k' l) ((mem_stC h).2 (.inl rfl))
  · rw [if_neg e]
    rcases of_cases h k' with ⟨c, hc, rfl, e2⟩ | ⟨h0, e2⟩ <;> rw [e2]
    · exact of_some (srt_stC h k l) ((mem_stC h).2 (.inr ⟨hc, e⟩))
    · refine of_none fun c hc => ?_
      rcases (mem_stC h).1 hc with rfl | ⟨hc, _⟩
      · exact fun e3 => e e3.symm
      · exact h0 c hc
theorem trm_ne {l : List Ver} (f : Int) (h : l ≠ []) : trm l f ≠ [] := by
  cases hb : atB l f with
  | false => rw [trm_all hb]; exact h
  | true =>
    obtain ⟨h1, _⟩ := at_yes hb
    have : atV l f ∈ trm l f := mem_trm.2 ⟨h1, by unfold keep; rw [hb, lt_self]; rfl⟩
    exact List.ne_nil_of_mem this
theorem puE_zero {s : St} {v : Ver} (h : puE s v = 0) : chk v = 0 ∧ putE (of s.ch v.key) v = 0 ∧ (atB (of s.ch v.key) s.fl && lt v (atV (of s.ch v.key) s.fl)) = false := by
  unfold puE at h
  split at h
  · exact absurd h (by assumption)
  · split at h
    · exact absurd h (by assumption)
    · split at h
      · cases h
      · rename_i h1 h2 h3
        exact ⟨by omega, by omega, by simpa using h3⟩
theorem puC_le (s : St) (v : Ver) : (puC s v).length ≤ (of s.ch v.key).length + 1 := by
  have := trm_le (put (of s.ch v.key) v) s.fl
  rw [put_len] at this
  exact this
theorem ln_app (a b : List Ch) : ln (a ++ b) = ln a + ln b := by simp [ln]
theorem ln_parts {ch : List Ch} (h : Srt ch) (k : ByteArray) : ln (bfo ch k) + (of ch k).length + ln (aft ch k) = ln ch := by
  have h0 : ∀ {r : List Ch}, (∀ c ∈ r, slt k c.key = true) → ln (bfo r k) = 0 ∧ ln (aft r k) = ln r ∧ of r k = [] := by
    intro r hr
    refine ⟨?_, ?_, ?_⟩
    · have : bfo r k = [] := by
        unfold bfo; rw [List.filter_eq_nil_iff]
        intro c hc hx
        have := slt_trans (hr c hc) hx
        rw [slt_irr] at this; cases this
      rw [this]; rfl
    · have : aft r k = r := by unfold aft; rw [List.filter_eq_self]; exact hr
      rw [this]
    · refine of_none fun c hc e => ?_
      have := hr c hc
      rw [e, slt_irr] at this; cases this
  induction ch with
  | nil => rfl
  | cons c r ih =>
    have hp := List.pairwise_cons.1 h
    have ih := ih hp.2
    have e1 : ∀ x : Ch, ∀ r : List Ch, ln (x :: r) = x.l.length + ln r := fun x r => by simp [ln]
    cases h1 : slt c.key k with
    | true =>
      have h2 : slt k c.key = false := by
        cases e : slt k c.key
        · rfl
        · have := slt_trans h1 e; rw [slt_irr] at this; cases this
      have h3 : seq c.key k = false := by
        cases e : seq c.key k
        · rfl
        · rw [(seq_iff _ _).1 e, slt_irr] at h1; cases h1
      have hof : of (c :: r) k = of r k := by unfold of; rw [show fnd (c :: r) k = fnd r k by simp [fnd, h3]]
      rw [hof, e1]
      have hb : bfo (c :: r) k = c :: bfo r k := by simp [bfo, h1]
      have ha : aft (c :: r) k = aft r k := by simp [aft, h2]
      rw [hb, ha, e1]; omega
    | false =>
      cases h2 : slt k c.key with
      | true =>
        obtain ⟨g1, g2, g3⟩ := h0 (r := c :: r) (fun x hx => by
          rcases List.mem_cons.1 hx with rfl | hx
          · exact h2
          · exact slt_trans h2 (hp.1 x hx))
        rw [g1, g2, g3]; simp
      | false =>
        have e := slt_tri h1 h2
        obtain ⟨g1, g2, g3⟩ := h0 (r := r) (fun x hx => by rw [← e]; exact hp.1 x hx)
        have hof : of (c :: r) k = c.l := by unfold of; rw [show fnd (c :: r) k = some c.l by simp [fnd, e, seq_self]]; rfl
        have hb : bfo (c :: r) k = bfo r k := by simp [bfo, h1]
        have ha : aft (c :: r) k = aft r k := by simp [aft, h2]
        rw [hof, hb, ha, g1, g2, e1]; omega
theorem ln_stC {ch : List Ch} (h : Srt ch) (k : ByteArray) (l : List Ver) : ln (stC ch k l) + (of ch k).length = ln ch + l.length := by
  rw [stC_is h, ln_app, ln_app]
  have := ln_parts h k
  have e : ln [⟨k, l⟩] = l.length := by simp [ln]
  rw [e]; omega
theorem Inv.put {s : St} (h : Inv s) (v : Ver) : Inv (puS s v) := by
  unfold puS
  split
  · rename_i he
    obtain ⟨_, h2, _⟩ := puE_zero he
    refine ⟨srt_stC h.srt _ _, fun c hc => ?_, fun c hc => ?_, fun c hc => ?_⟩ <;> rcases (mem_stC h.srt).1 hc with rfl | ⟨hc, _⟩
    · exact trm_ne _ (by intro e; have := put_len (of s.ch v.key) v; rw [e] at this; simp at this)
    · exact h.ne c hc
    · intro x hx
      rcases mem_put.1 (mem_trm.1 hx).1 with rfl | hx
      · rfl
      · exact of_key h _ x hx
    · exact h.key c hc
    · exact trm_chain _ (put_chain (of_chain h _) h2)
    · exact h.chn c hc
  · exact h
theorem ln_put {s : St} (h : Inv s) (v : Ver) : ln (puS s v).ch ≤ ln s.ch + 1 := by
  unfold puS
  split
  · have h1 := ln_stC h.srt v.key (puC s v)
    have h2 := puC_le s v
    show ln (stC s.ch v.key (puC s v)) ≤ _
    omega
  · omega
theorem Inv.load {s : St} (h : Inv s) (l : List Ver) : ∀ i, Inv (loS s l i) ∧ ln (loS s l i).ch ≤ ln s.ch + i ∧ loN s l i ≤ i
  | 0 => ⟨h, Nat.le_refl _, Nat.le_refl _⟩
  | i + 1 => by
    obtain ⟨h1, h2, h3⟩ := Inv.load h l i
    have h4 := ln_put h1 (nt l i)
    refine ⟨h1.put _, by show ln (puS (loS s l i) (nt l i)).ch ≤ _; omega, ?_⟩
    show loN s l i + _ ≤ _
    split <;> omega
theorem fl_put (s : St) (v : Ver) : (puS s v).fl = s.fl := by unfold puS; split <;> rfl
theorem fl_load (s : St) (l : List Ver) : ∀ i, (loS s l i).fl = s.fl
  | 0 => rfl
  | i + 1 => (fl_put _ _).trans (fl_load s l i)
theorem Inv.drop {s : St} (h : Inv s) (lo hi : ByteArray) : Inv ⟨dr s.ch lo hi, s.fl⟩ :=
  ⟨List.Pairwise.filter _ h.srt, fun c hc => h.ne c (List.mem_filter.1 hc).1, fun c hc => h.key c (List.mem_filter.1 hc).1, fun c hc => h.chn c (List.mem_filter.1 hc).1⟩
theorem Inv.trim {s : St} (h : Inv s) (f g : Int) : Inv ⟨tmC s.ch f, g⟩ := by
  refine ⟨List.pairwise_map.2 h.srt, fun c hc => ?_, fun c hc => ?_, fun c hc => ?_⟩ <;> obtain ⟨d, hd, rfl⟩ := List.mem_map.1 hc
  · exact trm_ne _ (h.ne d hd)
  · exact fun v hv => h.key d hd v (mem_trm.1 hv).1
  · exact trm_chain _ (h.chn d hd)
theorem ln_filter (p : Ch → Bool) : ∀ ch : List Ch, ln (ch.filter p) ≤ ln ch
  | [] => Nat.le_refl _
  | c :: r => by
    have := ln_filter p r
    rw [List.filter_cons]
    split <;> simp only [ln, List.map_cons, List.sum_cons] at * <;> omega
theorem ln_drop (ch : List Ch) (lo hi : ByteArray) : ln (dr ch lo hi) ≤ ln ch := ln_filter _ _
theorem ln_trim (f : Int) : ∀ ch : List Ch, ln (tmC ch f) ≤ ln ch
  | [] => Nat.le_refl _
  | c :: r => by
    have := ln_trim f r
    have h2 := trm_le c.l f
    simp only [ln, tmC, tm1, List.map_cons, List.sum_cons, List.map_map] at *
    omega
theorem tmN_le (f : Int) : ∀ ch : List Ch, tmN ch f ≤ ln ch
  | [] => Nat.le_refl _
  | c :: r => by
    have := tmN_le f r
    simp only [ln, tmN, wn1, List.map_cons, List.sum_cons] at *
    omega
end Go.Proofs.Ytlojmojmijklmaa.stoM
