/- Plain mathematics of reading messages: messages by version 2, and whole bodies. No program. -/
import Derived.Test.YtkbhmeajgmecoaaWirQ
namespace Go.Proofs.Ytkbhmeajgmecoaa.wirR
open numM numN numE wirM wirL wirP wirQ

/-! ### A part that may be there -/
def rOpt {α : Type} (b : Bool) (r : R α) (z : α) : R α := if b then r else R.ret z
def eOpt {α : Type} [DecidableEq α] (z : α) (e : α → List Nat) (x : α) : List Nat := if x = z then [] else e x
theorem is_opt {α : Type} [DecidableEq α] {r : R α} {e : α → List Nat} {ok : α → Prop} (h : Is r e ok) (z : α) (hz : ¬ ok z) (b : Bool) :
    Is (rOpt b r z) (eOpt z e) (fun x => (x = z ∧ b = false) ∨ (ok x ∧ b = true)) := by
  cases b
  · exact (Is.ret z).to (fun x => by simp) (fun x hx => by unfold eOpt; rw [if_pos hx])
  · exact h.to (fun x => by simp) (fun x hx => by unfold eOpt; rw [if_neg (fun q => hz (by rw [← q]; exact hx))])
def rNN : R Nat := rShort.seq fun n => (R.no (n == 0) 3).seq fun _ => R.ret n
theorem is_nn : Is rNN uv (fun n => n < 18446744073709551616 ∧ n ≠ 0) := (is_short.no (fun n => n == 0) 3).to (fun n => by simp) (fun _ _ => rfl)
def rTN (most : Nat) : R ByteArray := (rTx rShort most).seq fun s => (R.no (decide (s.size = 0)) 3).seq fun _ => R.ret s
theorem is_tn (most : Nat) (h : most < 18446744073709551616) : Is (rTN most) tx (fun s => s.size ≤ most ∧ s.size ≠ 0) := ((is_tx is_short most (fun n hn => by omega)).no (fun s => decide (s.size = 0)) 3).to (fun s => by simp) (fun _ _ => rfl)
def rCN (lim : Nat) : R Nat := (rLim rShort lim 6).seq fun n => (R.no (n == 0) 3).seq fun _ => R.ret n
theorem is_cn (lim : Nat) (h : lim < 18446744073709551616) : Is (rCN lim) uv (fun n => n ≤ lim ∧ n ≠ 0) := ((is_lim is_short lim 6 (fun n hn => by omega)).no (fun n => n == 0) 3).to (fun n => by simp) (fun _ _ => rfl)
def rNum2 : R Int := rInt (rLim rShort 255 1)
theorem is_num2 : Is rNum2 (fun x => uv x.toNat) (fun x => 0 ≤ x ∧ x ≤ 255) := is_int (is_lim is_short 255 1 (fun n h => by omega))
def rCC : R Cm := (rCmd rNum2 (rTx rShort 16)).seq fun c => (R.no (decide (c = Cm.nought)) 3).seq fun _ => R.ret c
theorem is_cc : Is rCC (fun c => ((nums c).map fun x => uv x.toNat).flatten ++ tx c.key) (fun c => c.ok ∧ c ≠ Cm.nought) :=
  ((is_cmd is_num2 (is_tx is_short 16 (fun n h => by omega))).no (fun c => decide (c = Cm.nought)) 3).to (fun c => by simp) (fun _ _ => rfl)

def bit (b i : Nat) : Bool := decide (b / 2 ^ i % 2 = 1)
def mt : ByteArray := ⟨#[]⟩
theorem mt_iff (s : ByteArray) : s = mt ↔ s.size = 0 := by
  constructor
  · rintro rfl; rfl
  · intro h
    cases s with
    | mk d =>
      have : d = #[] := Array.eq_empty_of_size_eq_zero h
      rw [this]; rfl
def rNewer : R Ms :=
  rKind.seq fun kind => (rWide 1).seq fun b => (rOpt (bit b 0) rNN 0).seq fun id => (rOpt (bit b 1) rNN 0).seq fun n => (rOpt (bit b 2) rNN 0).seq fun ts => (rOpt (bit b 3) (rTN 16) mt).seq fun lo => (rOpt (bit b 4) (rTN 16) mt).seq fun hi =>
  (rOpt (bit b 5) (rList (rCN 4096) Vr.ts rVer2) []).seq fun vers => (rOpt (bit b 6) (rList (rCN 32) (fun _ => 0) (fun _ => rShort)) []).seq fun vec => (rOpt (bit b 7) rCC Cm.nought).seq fun cmd =>
  R.ret ⟨kind, id, n, ts, lo, hi, vers, vec, cmd⟩

theorem e_num (n : Nat) : eOpt 0 uv n = pNum n := rfl
theorem e_txt (s : ByteArray) : eOpt mt tx s = pTxt s := by unfold eOpt pTxt; simp only [mt_iff]
theorem e_vers (l : List Vr) : eOpt [] (fun l => uv l.length ++ eRow Vr.ts nv 0 l) l = pVers l := by
  unfold eOpt pVers; simp only [eRow_nvl, List.length_eq_zero_iff]
theorem e_vec (l : List Nat) : eOpt [] (fun l => uv l.length ++ eRow (fun _ => 0) (fun _ => uv) 0 l) l = pVec l := by
  unfold eOpt pVec; simp only [eRow_map, List.length_eq_zero_iff]
theorem e_cmd (c : Cm) : eOpt Cm.nought (fun c => ((nums c).map fun x => uv x.toNat).flatten ++ tx c.key) c = pCmd c := rfl

/-- is a part there -/
def b1 (p : Prop) [Decidable p] : Nat := if p then 0 else 1
def bitsN (m : Ms) : Nat := b1 (m.id = 0) + 2 * b1 (m.n = 0) + 4 * b1 (m.ts = 0) + 8 * b1 (m.lo = mt) + 16 * b1 (m.hi = mt) + 32 * b1 (m.vers = []) + 64 * b1 (m.vec = []) + 128 * b1 (m.cmd = Cm.nought)
theorem bt_eq {p : Prop} [Decidable p] (l : List Nat) (k : Nat) (h : l.length = 0 ↔ p) : bt l k = k * b1 p := by
  unfold bt b1
  by_cases hp : p
  · rw [if_pos (h.2 hp), if_pos hp]; rfl
  · rw [if_neg (fun e => hp (h.1 e)), if_neg hp, Nat.mul_one]
theorem uv_ne (n : Nat) : uv n ≠ [] := by intro h; have := uv_pos n; rw [h] at this; cases this
theorem bits_eq (m : Ms) : bitsOf m = bitsN m := by
  unfold bitsOf bitsN
  rw [bt_eq (p := m.id = 0) (pNum m.id) 1 (by unfold pNum; split <;> simp [*, uv_ne]), bt_eq (p := m.n = 0) (pNum m.n) 2 (by unfold pNum; split <;> simp [*, uv_ne]), bt_eq (p := m.ts = 0) (pNum m.ts) 4 (by unfold pNum; split <;> simp [*, uv_ne]),
    bt_eq (p := m.lo = mt) (pTxt m.lo) 8 (by rw [mt_iff]; unfold pTxt tx; split <;> simp [*, uv_ne]), bt_eq (p := m.hi = mt) (pTxt m.hi) 16 (by rw [mt_iff]; unfold pTxt tx; split <;> simp [*, uv_ne]),
    bt_eq (p := m.vers = []) (pVers m.vers) 32 (by rw [← List.length_eq_zero_iff]; unfold pVers; split <;> simp [*, uv_ne]), bt_eq (p := m.vec = []) (pVec m.vec) 64 (by rw [← List.length_eq_zero_iff]; unfold pVec; split <;> simp [*, uv_ne]),
    bt_eq (p := m.cmd = Cm.nought) (pCmd m.cmd) 128 (by unfold pCmd; split <;> simp [*, uv_ne, nums])]
  omega
theorem b1_le (p : Prop) [Decidable p] : b1 p ≤ 1 := by unfold b1; split <;> omega
theorem bits_lt (m : Ms) : bitsN m < 256 := by
  unfold bitsN
  have := b1_le (m.id = 0); have := b1_le (m.n = 0); have := b1_le (m.ts = 0); have := b1_le (m.lo = mt); have := b1_le (m.hi = mt); have := b1_le (m.vers = []); have := b1_le (m.vec = []); have := b1_le (m.cmd = Cm.nought)
  omega
/-- eight bits -/
theorem bits8 {x0 x1 x2 x3 x4 x5 x6 x7 b : Nat} (hb : b < 256) (h0 : x0 ≤ 1) (h1 : x1 ≤ 1) (h2 : x2 ≤ 1) (h3 : x3 ≤ 1) (h4 : x4 ≤ 1) (h5 : x5 ≤ 1) (h6 : x6 ≤ 1) (h7 : x7 ≤ 1) :
    b = x0 + 2 * x1 + 4 * x2 + 8 * x3 + 16 * x4 + 32 * x5 + 64 * x6 + 128 * x7 ↔ (b / 2 ^ 0 % 2 = x0 ∧ b / 2 ^ 1 % 2 = x1 ∧ b / 2 ^ 2 % 2 = x2 ∧ b / 2 ^ 3 % 2 = x3 ∧ b / 2 ^ 4 % 2 = x4 ∧ b / 2 ^ 5 % 2 = x5 ∧ b / 2 ^ 6 % 2 = x6 ∧ b / 2 ^ 7 % 2 = x7) := by
  simp only [Nat.reducePow, Nat.div_one]
  omega
theorem bit_iff {α : Type} [DecidableEq α] (b i : Nat) (x z : α) (ok : Prop) (hz : x = z → ¬ ok) : ((x = z ∧ bit b i = false) ∨ (ok ∧ bit b i = true)) ↔ (b / 2 ^ i % 2 = b1 (x = z) ∧ (x = z ∨ ok)) := by
  unfold bit b1
  have h2 : b / 2 ^ i % 2 = 0 ∨ b / 2 ^ i % 2 = 1 := Nat.mod_two_eq_zero_or_one _
  by_cases h : x = z
  · have hk := hz h
    rw [if_pos h]
    constructor
    · rintro (⟨_, q⟩ | ⟨q, _⟩)
      · exact ⟨by rcases h2 with h2 | h2; exact h2; simp [h2] at q, .inl h⟩
      · exact absurd q hk
    · rintro ⟨q, _⟩
      exact .inl ⟨h, by simp [q]⟩
  · rw [if_neg h]
    constructor
    · rintro (⟨q, _⟩ | ⟨q, q2⟩)
      · exact absurd q h
      · exact ⟨by simpa using q2, .inr q⟩
    · rintro ⟨q, q2 | q2⟩
      · exact absurd q2 h
      · exact .inr ⟨q2, by simp [q]⟩

theorem is_newer : Is rNewer newer mok := by
  have hn : ¬ ((0 : Nat) < 18446744073709551616 ∧ (0 : Nat) ≠ 0) := by simp
  have hm : ¬ (mt.size ≤ 16 ∧ mt.size ≠ 0) := fun h => h.2 rfl
  have h10 := fun b kind id n ts lo hi vers vec => (is_opt is_cc Cm.nought (by simp) (bit b 7)).seq Ms.cmd (fun cmd _ => Is.ret (⟨kind, id, n, ts, lo, hi, vers, vec, cmd⟩ : Ms)) (fun _ y h => by rw [h])
  have h9 := fun b kind id n ts lo hi vers => (is_opt (is_list (is_cn 32 (by decide)) (fun _ : Nat => 0) (fun _ => True) trivial (fun _ _ => trivial) (fun _ _ => is_short)) [] (by simp) (bit b 6)).seq Ms.vec (fun vec _ => h10 b kind id n ts lo hi vers vec) (fun _ y h => by rw [h.2])
  have h8 := fun b kind id n ts lo hi => (is_opt (is_list (is_cn 4096 (by decide)) Vr.ts (fun a => a < 18446744073709551616) (by decide) (fun v hv => hv.2) is_ver2) [] (by simp) (bit b 5)).seq Ms.vers (fun vers _ => h9 b kind id n ts lo hi vers) (fun _ y h => by rw [h.2.2])
  have h7 := fun b kind id n ts lo => (is_opt (is_tn 16 (by decide)) mt hm (bit b 4)).seq Ms.hi (fun hi _ => h8 b kind id n ts lo hi) (fun _ y h => by rw [h.2.2.2])
  have h6 := fun b kind id n ts => (is_opt (is_tn 16 (by decide)) mt hm (bit b 3)).seq Ms.lo (fun lo _ => h7 b kind id n ts lo) (fun _ y h => by rw [h.2.2.2.2])
  have h5 := fun b kind id n => (is_opt is_nn 0 hn (bit b 2)).seq Ms.ts (fun ts _ => h6 b kind id n ts) (fun _ y h => by rw [h.2.2.2.2.2])
  have h4 := fun b kind id => (is_opt is_nn 0 hn (bit b 1)).seq Ms.n (fun n _ => h5 b kind id n) (fun _ y h => by rw [h.2.2.2.2.2.2])
  have h3 := fun b kind => (is_opt is_nn 0 hn (bit b 0)).seq Ms.id (fun id _ => h4 b kind id) (fun _ y h => by rw [h.2.2.2.2.2.2.2])
  have h2 := fun kind => Is.seq ((is_wide 1).to (ok' := fun b => b < 256) (fun n => by simp) (fun _ _ => rfl)) (f := fun b => (rOpt (bit b 0) rNN 0).seq _) bitsN (fun b hb => (h3 b kind).to (ok' := fun y => b = bitsN y ∧ mok ⟨1, y.id, y.n, y.ts, y.lo, y.hi, y.vers, y.vec, y.cmd⟩ ∧ y.kind = kind) (fun y => ?_) (fun _ _ => rfl)) (fun b y h => h.1.symm)
  · have h1 := is_kind.seq Ms.kind (fun kind _ => h2 kind) (fun _ y h => h.2.2.2)
    refine Is.to h1 (fun m => ?_) (fun m hm1 => ?_)
    · obtain ⟨kind, id, n, ts, lo, hi, vers, vec, cmd⟩ := m
      have := bits_lt ⟨kind, id, n, ts, lo, hi, vers, vec, cmd⟩
      simp only [mok]
      constructor
      · rintro ⟨⟨a, a'⟩, _, _, ⟨⟨_, _, e, f, g, g', h, i⟩, b⟩, _⟩
        exact ⟨⟨a, a', e, f, g, g', h, i⟩, b⟩
      · rintro ⟨⟨a, a', e, f, g, g', h, i⟩, b⟩
        exact ⟨⟨a, a'⟩, this, trivial, ⟨⟨(by show (1 : Int) ≤ 1; decide), (by show (1 : Int) ≤ 26; decide), e, f, g, g', h, i⟩, b⟩, trivial⟩
    · rw [e_num, e_num, e_num, e_txt, e_txt, e_vers, e_vec, e_cmd]
      have e1 : fx 1 m.kind.toNat = [m.kind.toNat] := by simp only [fx, Nat.pow_zero, Nat.div_one]; congr 1; have := hm1.1; omega
      have e2 : fx 1 (bitsN m) = [bitsN m] := by simp only [fx, Nat.pow_zero, Nat.div_one]; congr 1; have := bits_lt m; omega
      rw [e1, e2, ← bits_eq]
      simp [newer, pts]
  · obtain ⟨kind', id, n, ts, lo, hi, vers, vec, cmd⟩ := y
    simp only [Ms.mk.injEq, and_true]
    rw [bit_iff _ _ _ _ _ (by rintro rfl; exact hn), bit_iff _ _ _ _ _ (by rintro rfl; exact hn), bit_iff _ _ _ _ _ (by rintro rfl; exact hn), bit_iff _ _ _ _ _ (by rintro rfl; exact hm), bit_iff _ _ _ _ _ (by rintro rfl; exact hm),
      bit_iff _ _ _ _ _ (by rintro rfl; simp), bit_iff _ _ _ _ _ (by rintro rfl; simp), bit_iff _ _ _ _ _ (by rintro rfl; simp)]
    unfold bitsN
    rw [bits8 hb (b1_le _) (b1_le _) (b1_le _) (b1_le _) (b1_le _) (b1_le _) (b1_le _) (b1_le _)]
    simp only [mok, vok]
    constructor
    · rintro ⟨⟨a0, c0⟩, ⟨a1, c1⟩, ⟨a2, c2⟩, ⟨a3, c3⟩, ⟨a4, c4⟩, ⟨a5, c5⟩, ⟨a6, c6⟩, ⟨a7, c7⟩, rfl⟩
      have s3 : lo.size ≤ 16 := by rcases c3 with q | q; rw [(mt_iff lo).1 q]; omega; exact q.1
      have s4 : hi.size ≤ 16 := by rcases c4 with q | q; rw [(mt_iff hi).1 q]; omega; exact q.1
      have s5 : vers.length ≤ 4096 ∧ (∀ v ∈ vers, v.ok) ∧ ∀ v ∈ vers, v.ts < 18446744073709551616 := by
        rcases c5 with q | q
        · subst q; simp
        · exact ⟨q.1.1, fun v hv => (q.2 v hv).1, fun v hv => (q.2 v hv).2⟩
      have s6 : vec.length ≤ 32 ∧ ∀ x ∈ vec, x < 18446744073709551616 := by
        rcases c6 with q | q
        · subst q; simp
        · exact ⟨q.1.1, q.2⟩
      have s7 : cmd.ok := by
        rcases c7 with q | q
        · subst q; exact ⟨by decide, by decide, by decide, by decide, by decide, by decide⟩
        · exact q.1
      exact ⟨⟨a0, a1, a2, a3, a4, a5, a6, a7⟩, ⟨⟨(by show (1 : Int) ≤ 1; decide), (by show (1 : Int) ≤ 26; decide), s3, s4, s5.1, s5.2.1, s6.1, s7⟩, by rcases c0 with q | q <;> omega, by rcases c1 with q | q <;> omega, by rcases c2 with q | q <;> omega, s5.2.2, s6.2⟩, rfl⟩
    · rintro ⟨⟨a0, a1, a2, a3, a4, a5, a6, a7⟩, ⟨⟨_, _, e, f, g, g', h, i⟩, k0, k1, k2, k3, k4⟩, rfl⟩
      simp only at e f g g' h i k0 k1 k2 k3 k4
      refine ⟨⟨a0, ?_⟩, ⟨a1, ?_⟩, ⟨a2, ?_⟩, ⟨a3, ?_⟩, ⟨a4, ?_⟩, ⟨a5, ?_⟩, ⟨a6, ?_⟩, ⟨a7, ?_⟩, rfl⟩
      · omega
      · omega
      · omega
      · rw [mt_iff]; omega
      · rw [mt_iff]; omega
      · rw [← List.length_eq_zero_iff]
        by_cases q : vers.length = 0
        · exact .inl q
        · exact .inr ⟨⟨g, q⟩, fun v hv => ⟨g' v hv, k3 v hv⟩⟩
      · rw [← List.length_eq_zero_iff]
        by_cases q : vec.length = 0
        · exact .inl q
        · exact .inr ⟨⟨h, q⟩, k4⟩
      · by_cases q : cmd = Cm.nought
        · exact .inl q
        · exact .inr ⟨i, q⟩

/-! ### Whole bodies -/
def rBy (v : Int) : R Ms := if v = 1 then rElder else rNewer
theorem is_by (v : Int) : Is (rBy v) (body v) mok := by
  unfold rBy body
  by_cases h : v = 1
  · simp only [if_pos h]; exact is_elder
  · simp only [if_neg h]; exact is_newer
/-- what Decode answers: a message, or an error's number -/
def dec (v : Int) (l : List Nat) : Except Nat Ms :=
  if v ≠ 1 ∧ v ≠ 2 then .error 15 else match rBy v l with
    | .error e => .error e
    | .ok (m, t) => if t.length = 0 then .ok m else .error 3
def M0 : Ms := ⟨0, 0, 0, 0, mt, mt, [], [], Cm.nought⟩
def decm (v : Int) (l : List Nat) : Ms := match dec v l with | .error _ => M0 | .ok m => m
def dece (v : Int) (l : List Nat) : Nat := match dec v l with | .error e => e | .ok _ => 0
theorem dec_enc (v : Int) (m : Ms) (hv : v = 1 ∨ v = 2) (h : mok m) : dec v (body v m) = .ok m := by
  unfold dec
  rw [if_neg (by omega)]
  have := (is_by v).fw m [] h
  rw [List.append_nil] at this
  rw [this]
  simp
theorem enc_dec {v : Int} {l : List Nat} {m : Ms} (hl : ∀ c ∈ l, c < 256) (h : dec v l = .ok m) : mok m ∧ l = body v m ∧ (v = 1 ∨ v = 2) := by
  unfold dec at h
  split at h
  · cases h
  · rename_i hv
    cases hr : rBy v l with
    | error e => rw [hr] at h; cases h
    | ok mt =>
      obtain ⟨m', t⟩ := mt
      rw [hr] at h
      simp only at h
      split at h
      · rename_i ht
        cases h
        obtain ⟨h1, h2⟩ := (is_by v).bw l m t hl hr
        have : t = [] := List.eq_nil_of_length_eq_zero ht
        subst this
        exact ⟨h1, by rw [List.append_nil] at h2; exact h2, by omega⟩
      · cases h
theorem dec_more (v : Int) (m : Ms) (hv : v = 1 ∨ v = 2) (h : mok m) (c : Nat) : dec v (body v m ++ [c]) = .error 3 := by
  unfold dec
  rw [if_neg (by omega), (is_by v).fw m [c] h]
  simp
theorem body_inj {v : Int} {a b : Ms} (ha : mok a) (hb : mok b) (hv : v = 1 ∨ v = 2) (h : body v a = body v b) : a = b := by
  have h1 := dec_enc v a hv ha
  rw [h, dec_enc v b hv hb] at h1
  cases h1; rfl
/-- without its last byte it is none -/
theorem dec_less (v : Int) (m : Ms) (hv : v = 1 ∨ v = 2) (h : mok m) (hb : ∀ c ∈ body v m, c < 256) (m' : Ms) : dec v ((body v m).take ((body v m).length - 1)) ≠ .ok m' := by
  intro q
  obtain ⟨h1, h2, _⟩ := enc_dec (fun c hc => hb c (List.mem_of_mem_take hc)) q
  have hne : body v m ≠ [] := by
    intro e
    have := (is_by v).fw m [] h
    rw [e] at this
    have h3 := (is_by v).fw m [1] h
    rw [e] at h3
    have hd := dec_enc v m hv h
    rw [e] at hd
    rcases hv with rfl | rfl
    · have : dec 1 [] = .error 2 := by rfl
      rw [this] at hd; cases hd
    · have : dec 2 [] = .error 2 := by rfl
      rw [this] at hd; cases hd
  have e : body v m = body v m' ++ [(body v m).getLast hne] := by
    rw [← h2]
    have := List.dropLast_concat_getLast hne
    rw [List.dropLast_eq_take] at this
    exact this.symm
  have h4 := dec_enc v m hv h
  rw [e, dec_more v m' hv h1] at h4
  cases h4
end Go.Proofs.Ytkbhmeajgmecoaa.wirR
