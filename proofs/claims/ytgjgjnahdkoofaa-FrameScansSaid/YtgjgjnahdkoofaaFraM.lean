/- Plain mathematics of frames: their bytes, what is read of bytes, bursts, cuts. No program. -/
import Derived.Test.YtgjgjnahdkoofaaNumN
import Derived.Test.YtgjgjnahdkoofaaSumM
namespace Go.Proofs.Ytgjgjnahdkoofaa.fraM
open numM numN
open sumM (mo rn rep full stp turn turn_apart rn_add rn_lt mo_lt xor_lt32 rep_lt rep_xor rep8 mo_same xor_lt8)

structure Fm where
  v : Int
  e : Int
  s : Int
  a : Int
  body : List Nat
def Fm.ok (f : Fm) : Bool := decide (1 ≤ f.v) && decide (f.v ≤ 255) && decide (0 ≤ f.e) && decide (f.e ≤ 4294967295) && decide (0 ≤ f.s) && decide (f.s ≤ 4294967295) && decide (0 ≤ f.a) && decide (f.a ≤ 4294967295)
theorem Fm.ok_iff (f : Fm) : f.ok = true ↔ (1 ≤ f.v ∧ f.v ≤ 255) ∧ (0 ≤ f.e ∧ f.e ≤ 4294967295) ∧ (0 ≤ f.s ∧ f.s ≤ 4294967295) ∧ (0 ≤ f.a ∧ f.a ≤ 4294967295) := by
  unfold Fm.ok; simp only [Bool.and_eq_true, decide_eq_true_eq]; omega
def Fm.zero : Fm := ⟨0, 0, 0, 0, []⟩
def le4 (s : Nat) : List Nat := [s % 256, s / 256 % 256, s / 65536 % 256, s / 16777216 % 256]
def crc (l : List Nat) : Nat := mo 0 (nth l) l.length
/-- the numbers of a head behind its version -/
def ns (f : Fm) : List Nat := [f.e.toNat, f.s.toNat, f.a.toNat, f.body.length]
def hdk (f : Fm) (k : Nat) : List Nat := f.v.toNat :: ((ns f).take k).flatMap (fx 4)
def raw (f : Fm) : List Nat := hdk f 4 ++ f.body
def pk (f : Fm) : List Nat := raw f ++ le4 (crc (raw f))
def pkE (f : Fm) : Nat := if f.ok then (if 1048576 < f.body.length then 6 else 0) else 1
def pkL (f : Fm) : List Nat := if f.ok then (if 1048576 < f.body.length then [] else pk f) else []

def wd (l : List Nat) (i : Nat) : Nat := bv ((l.drop i).take 4)
def cnt (l : List Nat) : Nat := wd l 13
def ld4 (l : List Nat) (i : Nat) : Nat := nth l i + nth l (i + 1) * 256 + nth l (i + 2) * 65536 + nth l (i + 3) * 16777216
def szE (l : List Nat) : Nat := if l.length = 0 then 2 else if nth l 0 = 0 then 3 else if l.length < 17 then 2 else if 1048576 < cnt l then 6 else if l.length < cnt l + 21 then 2 else 0
def szN (l : List Nat) : Nat := if szE l = 0 then cnt l + 21 else 0
def fsE (l : List Nat) : Nat := if szE l = 0 then (if ld4 l (17 + cnt l) = crc (l.take (17 + cnt l)) then 0 else 4) else szE l
def fsN (l : List Nat) : Nat := if fsE l = 0 then cnt l + 21 else 0
def got (l : List Nat) : Fm := ⟨nth l 0, wd l 1, wd l 5, wd l 9, (l.drop 17).take (cnt l)⟩
def fsF (l : List Nat) : Fm := if fsE l = 0 then got l else Fm.zero
def unE (l : List Nat) : Nat := if fsE l = 0 then (if fsN l < l.length then 3 else 0) else fsE l
def unF (l : List Nat) : Fm := if unE l = 0 then fsF l else Fm.zero

/-! ### Lengths and places -/
theorem hdk_len (f : Fm) {k : Nat} (h : k ≤ 4) : (hdk f k).length = 1 + 4 * k := by
  have : k = 0 ∨ k = 1 ∨ k = 2 ∨ k = 3 ∨ k = 4 := by omega
  rcases this with rfl | rfl | rfl | rfl | rfl <;> simp [hdk, ns, fx_len]
theorem raw_len (f : Fm) : (raw f).length = 17 + f.body.length := by unfold raw; rw [List.length_append, hdk_len f (Nat.le_refl 4)]
theorem pk_len (f : Fm) : (pk f).length = 21 + f.body.length := by unfold pk; rw [List.length_append, raw_len]; simp [le4]; omega
theorem le4_lt (s : Nat) : ∀ c ∈ le4 s, c < 256 := by
  intro c hc; simp [le4] at hc; omega
theorem hdk_step (f : Fm) {k : Nat} (h : k < 4) : hdk f k ++ fx 4 (nth (ns f) k) = hdk f (k + 1) := by
  have : k = 0 ∨ k = 1 ∨ k = 2 ∨ k = 3 := by omega
  rcases this with rfl | rfl | rfl | rfl <;> simp [hdk, ns, nth]
theorem raw_lt {f : Fm} (h : f.ok = true) (hb : ∀ c ∈ f.body, c < 256) : ∀ c ∈ raw f, c < 256 := by
  have hv := (f.ok_iff.1 h).1
  intro c hc
  rcases List.mem_append.1 hc with hc | hc
  · rcases List.mem_cons.1 hc with rfl | hc
    · omega
    · obtain ⟨n, _, hn⟩ := List.mem_flatMap.1 hc
      exact fx_lt 4 n c hn
  · exact hb c hc
theorem pk_lt {f : Fm} (h : f.ok = true) (hb : ∀ c ∈ f.body, c < 256) : ∀ c ∈ pk f, c < 256 := by
  intro c hc
  rcases List.mem_append.1 hc with hc | hc
  · exact raw_lt h hb c hc
  · exact le4_lt _ c hc
theorem wd_at (p q : List Nat) {n i : Nat} (hp : p.length = i) (hn : n < 4294967296) : wd (p ++ (fx 4 n ++ q)) i = n := by
  unfold wd
  rw [List.drop_left' hp, List.take_left' (fx_len 4 n)]
  exact bv_fx (by simpa using hn)
theorem nth_left {p q : List Nat} {i : Nat} (h : i < p.length) : nth (p ++ q) i = nth p i := by
  unfold nth; rw [List.getD_eq_getElem?_getD, List.getD_eq_getElem?_getD, List.getElem?_append_left h]
theorem nth_right {p q : List Nat} {i j : Nat} (h : p.length = j) : nth (p ++ q) (j + i) = nth q i := by
  unfold nth; rw [List.getD_eq_getElem?_getD, List.getD_eq_getElem?_getD, List.getElem?_append_right (by omega), show j + i - p.length = i by omega]
theorem nth_take' {l : List Nat} {k i : Nat} (h : i < k) : nth (l.take k) i = nth l i := by
  unfold nth; rw [List.getD_eq_getElem?_getD, List.getD_eq_getElem?_getD, List.getElem?_take_of_lt h]
theorem crc_lt {l : List Nat} (h : ∀ c ∈ l, c < 256) : crc l < 4294967296 := mo_lt (by decide) (fun i hi => nth_lt h hi)
theorem ld4_le4 (p q : List Nat) {s i : Nat} (hp : p.length = i) (hs : s < 4294967296) : ld4 (p ++ (le4 s ++ q)) i = s := by
  unfold ld4
  have e0 : nth (p ++ (le4 s ++ q)) i = s % 256 := nth_right (i := 0) hp
  have e1 : nth (p ++ (le4 s ++ q)) (i + 1) = s / 256 % 256 := nth_right (i := 1) hp
  have e2 : nth (p ++ (le4 s ++ q)) (i + 2) = s / 65536 % 256 := nth_right (i := 2) hp
  have e3 : nth (p ++ (le4 s ++ q)) (i + 3) = s / 16777216 % 256 := nth_right (i := 3) hp
  rw [e0, e1, e2, e3]; omega

/-! ### A frame that is packed is read -/
theorem pk_form (f : Fm) (x : List Nat) : pk f ++ x = f.v.toNat :: (fx 4 f.e.toNat ++ (fx 4 f.s.toNat ++ (fx 4 f.a.toNat ++ (fx 4 f.body.length ++ (f.body ++ (le4 (crc (raw f)) ++ x)))))) := by
  simp [pk, raw, hdk, ns, List.append_assoc]
theorem pk_v (f : Fm) (x : List Nat) : nth (pk f ++ x) 0 = f.v.toNat := by rw [pk_form]; rfl
theorem pk_1 {f : Fm} (h : f.ok = true) (x : List Nat) : wd (pk f ++ x) 1 = f.e.toNat := by
  have := (f.ok_iff.1 h).2.1
  rw [pk_form]; exact wd_at [f.v.toNat] _ rfl (by omega)
theorem pk_5 {f : Fm} (h : f.ok = true) (x : List Nat) : wd (pk f ++ x) 5 = f.s.toNat := by
  have := (f.ok_iff.1 h).2.2.1
  rw [pk_form]; exact wd_at (f.v.toNat :: fx 4 f.e.toNat) _ (by simp [fx_len]) (by omega)
theorem pk_9 {f : Fm} (h : f.ok = true) (x : List Nat) : wd (pk f ++ x) 9 = f.a.toNat := by
  have := (f.ok_iff.1 h).2.2.2
  rw [pk_form, ← List.append_assoc (fx 4 f.e.toNat)]; exact wd_at (f.v.toNat :: (fx 4 f.e.toNat ++ fx 4 f.s.toNat)) _ (by simp [fx_len]) (by omega)
theorem pk_13 {f : Fm} (x : List Nat) (hl : f.body.length ≤ 1048576) : cnt (pk f ++ x) = f.body.length := by
  unfold cnt
  rw [pk_form, ← List.append_assoc (fx 4 f.e.toNat), ← List.append_assoc (fx 4 f.e.toNat ++ fx 4 f.s.toNat)]; exact wd_at (f.v.toNat :: (fx 4 f.e.toNat ++ fx 4 f.s.toNat ++ fx 4 f.a.toNat)) _ (by simp [fx_len]) (by omega)
theorem pk_back {f : Fm} (h : f.ok = true) (hl : f.body.length ≤ 1048576) (hb : ∀ c ∈ f.body, c < 256) (x : List Nat) :
    fsE (pk f ++ x) = 0 ∧ fsN (pk f ++ x) = 21 + f.body.length ∧ fsF (pk f ++ x) = f := by
  have hc := pk_13 (f := f) x hl
  have hlen : (pk f ++ x).length = 21 + f.body.length + x.length := by rw [List.length_append, pk_len]
  obtain ⟨⟨v1, v2⟩, ⟨e1, e2⟩, ⟨s1, s2⟩, ⟨a1, a2⟩⟩ := f.ok_iff.1 h
  have hs : szE (pk f ++ x) = 0 := by
    unfold szE
    rw [hc, hlen, pk_v, if_neg (by omega), if_neg (by omega), if_neg (by omega), if_neg (by omega), if_neg (by omega)]
  have e : fsE (pk f ++ x) = 0 := by
    unfold fsE
    rw [if_pos hs, hc, if_pos]
    have e1 : pk f ++ x = raw f ++ (le4 (crc (raw f)) ++ x) := by unfold pk; rw [List.append_assoc]
    rw [e1, ld4_le4 _ _ (raw_len f) (crc_lt (raw_lt h hb)), List.take_left' (raw_len f)]
  refine ⟨e, by unfold fsN; rw [if_pos e, hc]; omega, ?_⟩
  unfold fsF got
  rw [if_pos e, hc, pk_v, pk_1 h, pk_5 h, pk_9 h]
  have e2 : ((pk f ++ x).drop 17).take f.body.length = f.body := by
    have : pk f ++ x = hdk f 4 ++ (f.body ++ (le4 (crc (raw f)) ++ x)) := by simp [pk, raw]
    rw [this, List.drop_left' (hdk_len f (Nat.le_refl 4)), List.take_left' rfl]
  rw [e2]
  cases f
  simp at *
  omega
theorem un_back {f : Fm} (h : f.ok = true) (hl : f.body.length ≤ 1048576) (hb : ∀ c ∈ f.body, c < 256) : unE (pk f) = 0 ∧ unF (pk f) = f := by
  have := pk_back h hl hb []
  rw [List.append_nil] at this
  obtain ⟨e1, e2, e3⟩ := this
  have e : unE (pk f) = 0 := by unfold unE; rw [if_pos e1, e2, pk_len, if_neg (by omega)]
  exact ⟨e, by unfold unF; rw [if_pos e, e3]⟩
theorem un_more {f : Fm} (h : f.ok = true) (hl : f.body.length ≤ 1048576) (hb : ∀ c ∈ f.body, c < 256) (c : Nat) : unE (pk f ++ [c]) = 3 := by
  obtain ⟨e1, e2, e3⟩ := pk_back h hl hb [c]
  unfold unE; rw [if_pos e1, e2, List.length_append, pk_len, if_pos (by simp)]

/-! ### Cuts -/
theorem wd_take {l : List Nat} {i k : Nat} (h : i + 4 ≤ k) : wd (l.take k) i = wd l i := by
  unfold wd; rw [List.drop_take, List.take_take, Nat.min_eq_left (by omega)]
theorem un_cut {f : Fm} (h : f.ok = true) (hl : f.body.length ≤ 1048576) {k : Nat} (hk : k < (pk f).length) : unE ((pk f).take k) = 2 ∧ unF ((pk f).take k) = Fm.zero := by
  have hlen := pk_len f
  obtain ⟨⟨v1, v2⟩, -⟩ := f.ok_iff.1 h
  have hkl : ((pk f).take k).length = k := by rw [List.length_take]; omega
  have hs : szE ((pk f).take k) = 2 := by
    unfold szE
    rw [hkl]
    by_cases h0 : k = 0
    · rw [if_pos h0]
    · have hv : nth ((pk f).take k) 0 = f.v.toNat := by rw [nth_take' (by omega)]; have := pk_v f []; rwa [List.append_nil] at this
      rw [if_neg h0, hv, if_neg (by omega)]
      by_cases h17 : k < 17
      · rw [if_pos h17]
      · have hc : cnt ((pk f).take k) = f.body.length := by
          unfold cnt; rw [wd_take (by omega)]; have := pk_13 (f := f) [] hl; rwa [List.append_nil] at this
        rw [if_neg h17, hc, if_neg (by omega), if_pos (by omega)]
  have e : unE ((pk f).take k) = 2 := by
    have hf : fsE ((pk f).take k) = 2 := by unfold fsE; rw [hs, if_neg (by decide)]
    unfold unE; rw [hf, if_neg (by decide)]
  exact ⟨e, by unfold unF; rw [e, if_neg (by decide)]⟩

/-! ### Bursts -/
def it8 : Nat → Nat → Nat
  | 0, x => x
  | k + 1, x => it8 k (rep 8 x)
theorem xor_low (s : Nat) : s ^^^ (s % 256) = 256 * (s / 256) := by
  apply Nat.eq_of_testBit_eq
  intro i
  rw [Nat.testBit_xor, show s % 256 = s % 2 ^ 8 from rfl, Nat.testBit_mod_two_pow, show 256 * (s / 256) = 2 ^ 8 * (s / 2 ^ 8) from rfl, Nat.testBit_two_pow_mul]
  by_cases hi : i < 8
  · have h2 : ¬ 8 ≤ i := by omega
    simp [hi, h2]
  · have h2 : 8 ≤ i := by omega
    rw [show s / 2 ^ 8 = s >>> 8 from (Nat.shiftRight_eq_div_pow s 8).symm, Nat.testBit_shiftRight, show 8 + (i - 8) = i by omega]
    simp [hi, h2]
theorem rn_le (k : Nat) : ∀ (s x : Nat), s < 256 ^ k → rn (fun i => s / 256 ^ i % 256) (x ^^^ s) k = it8 k x := by
  induction k with
  | zero => intro s x h; obtain rfl : s = 0 := by simpa using h
            show x ^^^ 0 = x; rw [Nat.xor_zero]
  | succ k ih =>
    intro s x h
    rw [Nat.add_comm k 1, rn_add]
    have e1 : rn (fun i => s / 256 ^ i % 256) (x ^^^ s) 1 = rep 8 x ^^^ (s / 256) := by
      show rep 8 ((x ^^^ s) ^^^ (s / 256 ^ 0 % 256)) = _
      rw [Nat.pow_zero, Nat.div_one, Nat.xor_assoc, xor_low, rep_xor, rep8]
    rw [e1]
    have e2 : (fun i => (fun i => s / 256 ^ i % 256) (1 + i)) = fun i => (s / 256) / 256 ^ i % 256 := by
      funext i
      show s / 256 ^ (1 + i) % 256 = _
      rw [Nat.div_div_eq_div_mul, Nat.pow_add, Nat.pow_one]
    rw [e2, Nat.add_comm 1 k]
    exact ih (s / 256) (rep 8 x) (by rw [Nat.div_lt_iff_lt_mul (by decide), ← Nat.pow_succ]; exact h)
/-- A text with its own sum behind it, lowest byte first, has one sum, whatever it is. -/
theorem closed {f : Nat → Nat} {m s : Nat} (hf : ∀ i, i < m → f i < 256) (hs : mo 0 f m = s) (h0 : f m = s % 256) (h1 : f (m + 1) = s / 256 % 256) (h2 : f (m + 2) = s / 65536 % 256) (h3 : f (m + 3) = s / 16777216 % 256) :
    mo 0 f (m + 4) = it8 4 full ^^^ full := by
  unfold mo
  have hsl : s < 4294967296 := by rw [← hs]; exact mo_lt (by decide) hf
  have hr : rn f (0 ^^^ full) m = full ^^^ s := by
    rw [← hs]; unfold mo
    generalize rn f (0 ^^^ full) m = r
    rw [Nat.xor_comm r, ← Nat.xor_assoc, Nat.xor_self, Nat.zero_xor]
  rw [rn_add, hr]
  have e := rn_le 4 s full (by simpa using hsl)
  rw [← e]
  congr 1
  apply sumM.rn_same
  intro i hi
  have : i = 0 ∨ i = 1 ∨ i = 2 ∨ i = 3 := by omega
  rcases this with rfl | rfl | rfl | rfl
  · simpa using h0
  · simpa using h1
  · simpa using h2
  · simpa using h3
theorem ld4_bytes {l : List Nat} {i s : Nat} (hl : ∀ c ∈ l, c < 256) (hi : i + 4 ≤ l.length) (h : ld4 l i = s) : nth l i = s % 256 ∧ nth l (i + 1) = s / 256 % 256 ∧ nth l (i + 2) = s / 65536 % 256 ∧ nth l (i + 3) = s / 16777216 % 256 := by
  have h0 := nth_lt hl (show i < l.length by omega)
  have h1 := nth_lt hl (show i + 1 < l.length by omega)
  have h2 := nth_lt hl (show i + 2 < l.length by omega)
  have h3 := nth_lt hl (show i + 3 < l.length by omega)
  unfold ld4 at h; omega
theorem sz_fit {l : List Nat} (hs : szE l = 0) : cnt l ≤ 1048576 ∧ 21 + cnt l ≤ l.length := by
  unfold szE at hs
  split at hs; · omega
  split at hs; · omega
  split at hs; · omega
  split at hs; · omega
  split at hs
  · omega
  · exact ⟨by omega, by omega⟩
theorem sz_ok {l : List Nat} (h : fsE l = 0) : szE l = 0 ∧ 21 + cnt l ≤ l.length ∧ cnt l ≤ 1048576 := by
  have hs : szE l = 0 := by
    rcases Nat.eq_zero_or_pos (szE l) with h1 | h1
    · exact h1
    · unfold fsE at h; rw [if_neg (by omega)] at h; exact h
  refine ⟨hs, ?_⟩
  unfold szE at hs
  split at hs; · omega
  split at hs; · omega
  split at hs; · omega
  split at hs; · omega
  split at hs
  · omega
  · exact ⟨by omega, by omega⟩
theorem un_ok {l : List Nat} (h : unE l = 0) : fsE l = 0 ∧ 21 + cnt l = l.length := by
  have hf : fsE l = 0 := by
    rcases Nat.eq_zero_or_pos (fsE l) with h1 | h1
    · exact h1
    · unfold unE at h; rw [if_neg (by omega)] at h; exact h
  refine ⟨hf, ?_⟩
  have := (sz_ok hf).2.1
  unfold unE at h
  rw [if_pos hf] at h
  unfold fsN at h
  rw [if_pos hf] at h
  split at h
  · omega
  · omega
theorem un_sum {l : List Nat} (hl : ∀ c ∈ l, c < 256) (h : unE l = 0) : mo 0 (nth l) l.length = it8 4 full ^^^ full := by
  obtain ⟨hf, hn⟩ := un_ok h
  obtain ⟨hs, -, -⟩ := sz_ok hf
  unfold fsE at hf
  rw [if_pos hs] at hf
  have hc : ld4 l (17 + cnt l) = crc (l.take (17 + cnt l)) := by
    split at hf
    · assumption
    · omega
  obtain ⟨h0, h1, h2, h3⟩ := ld4_bytes hl (by omega) hc
  rw [← hn, show 21 + cnt l = 17 + cnt l + 4 by omega]
  refine closed (fun i hi => nth_lt hl (by omega)) ?_ h0 h1 h2 h3
  unfold crc
  rw [List.length_take, Nat.min_eq_left (by omega)]
  exact (mo_same 0 _ (fun i hi => nth_take' hi)).symm
theorem un_burst {l l' : List Nat} {e : Nat → Nat} {k m : Nat} (hl : ∀ c ∈ l, c < 256) (h : unE l = 0) (hm : m ≤ 4) (hk : k + m ≤ l.length) (he : ∀ i, i < m → e i < 256)
    (hn : l'.length = l.length) (ht : ∀ i, i < l.length → nth l' i = turn (nth l) k m e i) : unE l' = 0 → ∀ i, i < m → e i = 0 := by
  intro h'
  have hl' : ∀ c ∈ l', c < 256 := by
    intro c hc
    obtain ⟨i, hi, rfl⟩ := List.mem_iff_getElem.1 hc
    have := ht i (by omega)
    unfold nth at this
    rw [List.getD_eq_getElem?_getD, List.getElem?_eq_getElem hi] at this
    simp only [Option.getD_some] at this
    rw [this]
    exact sumM.turn_lt (n := l.length) (fun i hi => nth_lt hl hi) he (by omega)
  have h1 := un_sum hl h
  have h2 := un_sum hl' h'
  rw [hn, mo_same 0 l.length ht, ← h1] at h2
  exact (turn_apart (nth l) e k m l.length hm hk (fun i hi => nth_lt hl hi) he).1 h2
theorem un_no {l : List Nat} (h : unE l ≠ 0) : unF l = Fm.zero := by unfold unF; rw [if_neg h]

/-! ### Kinds of answers -/
theorem fs_no {l : List Nat} (h : fsE l ≠ 0) : fsF l = Fm.zero ∧ fsN l = 0 := by unfold fsF fsN; rw [if_neg h, if_neg h]; exact ⟨rfl, rfl⟩
theorem fs_yes {l : List Nat} (h : fsE l = 0) : fsF l = got l ∧ fsN l = cnt l + 21 := by unfold fsF fsN; rw [if_pos h, if_pos h]; exact ⟨rfl, rfl⟩
end Go.Proofs.Ytgjgjnahdkoofaa.fraM
