/- Plain mathematics of reading messages: versions, commands, messages, in both forms. No program. -/
import Derived.Test.YtkbhmeajgmecoaaWirP
namespace Go.Proofs.Ytkbhmeajgmecoaa.wirQ
open numM numN numE wirM wirL wirP

def M64 : Nat := 18446744073709551616
/-! ### Versions -/
def rVer1 : R Vr :=
  (rTx (rWide 1) 16).seq fun key => (rTx (rWide 1) 64).seq fun val => rGone.seq fun g => (rWide 8).seq fun ts => (rInt (rLim (rWide 1) 3 1)).seq fun dc => (rInt (rLim (rWide 4) 1073741824 1)).seq fun tx => R.ret ⟨key, val, g, ts, dc, tx⟩
def vok (v : Vr) : Prop := v.ok ∧ v.ts < 18446744073709551616
theorem is_ver1 : Is rVer1 ev vok := by
  have h6 := fun key val g ts dc => (is_int (is_lim (is_wide 4) 1073741824 1 (fun n h => by simp; omega))).seq Vr.tx (fun tx _ => Is.ret (⟨key, val, g, ts, dc, tx⟩ : Vr)) (fun tx y h => by rw [h])
  have h5 := fun key val g ts => (is_int (is_lim (is_wide 1) 3 1 (fun n h => by simp; omega))).seq Vr.dc (fun dc _ => h6 key val g ts dc) (fun dc y h => by rw [h.2])
  have h4 := fun key val g => (is_wide 8).seq Vr.ts (fun ts _ => h5 key val g ts) (fun ts y h => by rw [h.2.2])
  have h3 := fun key val => is_gone.seq Vr.gone (fun g _ => h4 key val g) (fun g y h => by rw [h.2.2.2])
  have h2 := fun key => (is_tx (is_wide 1) 64 (fun n h => by simp; omega)).seq Vr.val (fun val _ => h3 key val) (fun val y h => by rw [h.2.2.2.2])
  have h1 := (is_tx (is_wide 1) 16 (fun n h => by simp; omega)).seq Vr.key (fun key _ => h2 key) (fun key y h => by rw [h.2.2.2.2.2])
  refine Is.to h1 (fun v => ?_) (fun v _ => ?_)
  · obtain ⟨key, val, g, ts, dc, tx⟩ := v
    simp only [vok, and_true, true_and]
    constructor
    · rintro ⟨a, b, c, ⟨d, d'⟩, e, e'⟩
      exact ⟨⟨a, b, d, by simpa using d', e, by simpa using e'⟩, by simpa using c⟩
    · rintro ⟨⟨a, b, d, d', e, e'⟩, c⟩
      exact ⟨a, b, by simpa using c, ⟨d, by simpa using d'⟩, e, by simpa using e'⟩
  · simp [ev, evs, tx1, List.append_assoc]
theorem is_after (a : Nat) (ha : a < 18446744073709551616) : Is (rShort.seq fun x => R.ret ((a + x) % 18446744073709551616)) (fun ts => uv (sub64 ts a)) (fun ts => ts < 18446744073709551616) :=
  (is_short.map (fun x => (a + x) % 18446744073709551616) (fun ts => sub64 ts a) (fun x hx => by unfold sub64; omega)).to (fun ts => by unfold sub64; omega) (fun _ _ => rfl)
def rVer2 (a : Nat) : R Vr :=
  (rTx rShort 16).seq fun key => (rTx rShort 64).seq fun val => rGone.seq fun g => (rShort.seq fun x => R.ret ((a + x) % 18446744073709551616)).seq fun ts => (rInt (rLim rShort 3 1)).seq fun dc => (rInt (rLim rShort 1073741824 1)).seq fun tx => R.ret ⟨key, val, g, ts, dc, tx⟩
theorem is_ver2 (a : Nat) (ha : a < 18446744073709551616) : Is (rVer2 a) (nv a) vok := by
  have h6 := fun key val g ts dc => (is_int (is_lim is_short 1073741824 1 (fun n h => by omega))).seq Vr.tx (fun tx _ => Is.ret (⟨key, val, g, ts, dc, tx⟩ : Vr)) (fun tx y h => by rw [h])
  have h5 := fun key val g ts => (is_int (is_lim is_short 3 1 (fun n h => by omega))).seq Vr.dc (fun dc _ => h6 key val g ts dc) (fun dc y h => by rw [h.2])
  have h4 := fun key val g => (is_after a ha).seq Vr.ts (fun ts _ => h5 key val g ts) (fun ts y h => by rw [h.2.2])
  have h3 := fun key val => is_gone.seq Vr.gone (fun g _ => h4 key val g) (fun g y h => by rw [h.2.2.2])
  have h2 := fun key => (is_tx is_short 64 (fun n h => by omega)).seq Vr.val (fun val _ => h3 key val) (fun val y h => by rw [h.2.2.2.2])
  have h1 := (is_tx is_short 16 (fun n h => by omega)).seq Vr.key (fun key _ => h2 key) (fun key y h => by rw [h.2.2.2.2.2])
  refine Is.to h1 (fun v => ?_) (fun v _ => ?_)
  · obtain ⟨key, val, g, ts, dc, tx⟩ := v
    simp only [vok, and_true, true_and]
    constructor
    · rintro ⟨a, b, c, ⟨d, d'⟩, e, e'⟩
      exact ⟨⟨a, b, d, by simpa using d', e, by simpa using e'⟩, c⟩
    · rintro ⟨⟨a, b, d, d', e, e'⟩, c⟩
      exact ⟨a, b, c, ⟨d, by simpa using d'⟩, e, by simpa using e'⟩
  · simp [nv, nvs, tx, List.append_assoc]
theorem eRow_nvl (xs : List Vr) : ∀ a, eRow Vr.ts nv a xs = (nvl a xs).flatten := by
  induction xs with
  | nil => intro a; rfl
  | cons x xs ih => intro a; show nv a x ++ _ = _; rw [ih]; rfl

/-! ### Lists behind their count -/
instance : Inhabited Vr := ⟨⟨⟨#[]⟩, ⟨#[]⟩, false, 0, 0, 0⟩⟩
def rList {α : Type} (rc : R Nat) (st : α → Nat) (r : Nat → R α) : R (List α) := rc.seq fun n => rRow st r 0 n
theorem is_list {α : Type} [Inhabited α] {rc : R Nat} {ec : Nat → List Nat} {okc : Nat → Prop} (hc : Is rc ec okc) (st : α → Nat) {r : Nat → R α} {e : Nat → α → List Nat} {ok : α → Prop} (S : Nat → Prop) (h0 : S 0)
    (hS : ∀ x, ok x → S (st x)) (h : ∀ a, S a → Is (r a) (e a) ok) : Is (rList rc st r) (fun xs => ec xs.length ++ eRow st e 0 xs) (fun xs => okc xs.length ∧ ∀ x ∈ xs, ok x) :=
  (hc.seq (ok2 := fun n xs => xs.length = n ∧ ∀ x ∈ xs, ok x) List.length (fun n _ => is_row st S hS h n 0 h0) (fun _ _ h => h.1)).to (fun _ => ⟨fun h => ⟨h.1, h.2.2⟩, fun h => ⟨h.1, rfl, h.2⟩⟩) (fun _ _ => rfl)

/-! ### Commands -/
def rCmd (rn : R Int) (rt : R ByteArray) : R Cm :=
  rn.seq fun a => rn.seq fun b => rn.seq fun c => rn.seq fun d => rn.seq fun e => rt.seq fun k => R.ret ⟨a, b, c, d, e, k⟩
theorem is_cmd {rn : R Int} {rt : R ByteArray} {en : Int → List Nat} {et : ByteArray → List Nat} (hn : Is rn en (fun x => 0 ≤ x ∧ x ≤ 255)) (ht : Is rt et (fun s => s.size ≤ 16)) :
    Is (rCmd rn rt) (fun c => ((nums c).map en).flatten ++ et c.key) Cm.ok := by
  have h6 := fun a b c d e => ht.seq Cm.key (fun k _ => Is.ret (⟨a, b, c, d, e, k⟩ : Cm)) (fun k y h => by rw [h])
  have h5 := fun a b c d => hn.seq Cm.mode (fun e _ => h6 a b c d e) (fun e y h => by rw [h.2])
  have h4 := fun a b c => hn.seq Cm.node (fun d _ => h5 a b c d) (fun d y h => by rw [h.2.2])
  have h3 := fun a b => hn.seq Cm.shard (fun c _ => h4 a b c) (fun c y h => by rw [h.2.2.2])
  have h2 := fun a => hn.seq Cm.dc (fun b _ => h3 a b) (fun b y h => by rw [h.2.2.2.2])
  have h1 := hn.seq Cm.kind (fun a _ => h2 a) (fun a y h => by rw [h.2.2.2.2.2])
  refine Is.to h1 (fun c => ?_) (fun c _ => ?_)
  · obtain ⟨a, b, c, d, e, k⟩ := c
    simp only [and_true]
    exact ⟨fun ⟨a, b, c, d, e, k⟩ => ⟨a, b, c, d, e, k⟩, fun ⟨a, b, c, d, e, k⟩ => ⟨a, b, c, d, e, k⟩⟩
  · simp [nums, List.append_assoc]

/-! ### Messages by version 1 -/
def rKind : R Int := rInt ((rWide 1).seq fun n => (R.no (decide (n < 1) || decide (26 < n)) 5).seq fun _ => R.ret n)
theorem is_kind : Is rKind (fun x => fx 1 x.toNat) (fun x => 1 ≤ x ∧ x ≤ 26) :=
  ((((is_wide 1).no (fun n => decide (n < 1) || decide (26 < n)) 5).map (fun n : Nat => (n : Int)) Int.toNat (fun n _ => Int.toNat_natCast n))).to (fun x => by
    simp only [Bool.or_eq_false_iff, decide_eq_false_iff_not, Nat.pow_one]; omega) (fun _ _ => rfl)
def rNum1 : R Int := rInt (rWide 1)
theorem is_num1 : Is rNum1 (fun x => fx 1 x.toNat) (fun x => 0 ≤ x ∧ x ≤ 255) := is_int (lim := 255) ((is_wide 1).to (fun n => by simp only [Nat.pow_one]; omega) (fun _ _ => rfl))
def rElder : R Ms :=
  rKind.seq fun kind => (rWide 8).seq fun id => (rWide 8).seq fun n => (rWide 8).seq fun ts => (rTx (rWide 1) 16).seq fun lo => (rTx (rWide 1) 16).seq fun hi =>
  (rList (rLim (rWide 2) 4096 6) (fun _ => 0) (fun _ => rVer1)).seq fun vers => (rList (rLim (rWide 1) 32 6) (fun _ => 0) (fun _ => rWide 8)).seq fun vec => (rCmd rNum1 (rTx (rWide 1) 16)).seq fun cmd =>
  R.ret ⟨kind, id, n, ts, lo, hi, vers, vec, cmd⟩
/-- a message that is right, with numbers of 64 bits -/
def mok (m : Ms) : Prop := m.ok ∧ m.id < 18446744073709551616 ∧ m.n < 18446744073709551616 ∧ m.ts < 18446744073709551616 ∧ (∀ v ∈ m.vers, v.ts < 18446744073709551616) ∧ ∀ x ∈ m.vec, x < 18446744073709551616
theorem is_elder : Is rElder elder mok := by
  have h9 := fun kind id n ts lo hi vers vec => (is_cmd is_num1 (is_tx (is_wide 1) 16 (fun n h => by simp; omega))).seq Ms.cmd (fun cmd _ => Is.ret (⟨kind, id, n, ts, lo, hi, vers, vec, cmd⟩ : Ms)) (fun _ y h => by rw [h])
  have h8 := fun kind id n ts lo hi vers => (is_list (is_lim (is_wide 1) 32 6 (fun n h => by simp; omega)) (fun _ : Nat => 0) (fun _ => True) trivial (fun _ _ => trivial) (fun _ _ => is_wide 8)).seq Ms.vec (fun vec _ => h9 kind id n ts lo hi vers vec) (fun _ y h => by rw [h.2])
  have h7 := fun kind id n ts lo hi => (is_list (is_lim (is_wide 2) 4096 6 (fun n h => by simp; omega)) (fun _ : Vr => 0) (fun _ => True) trivial (fun _ _ => trivial) (fun _ _ => is_ver1)).seq Ms.vers (fun vers _ => h8 kind id n ts lo hi vers) (fun _ y h => by rw [h.2.2])
  have h6 := fun kind id n ts lo => (is_tx (is_wide 1) 16 (fun n h => by simp; omega)).seq Ms.hi (fun hi _ => h7 kind id n ts lo hi) (fun _ y h => by rw [h.2.2.2])
  have h5 := fun kind id n ts => (is_tx (is_wide 1) 16 (fun n h => by simp; omega)).seq Ms.lo (fun lo _ => h6 kind id n ts lo) (fun _ y h => by rw [h.2.2.2.2])
  have h4 := fun kind id n => (is_wide 8).seq Ms.ts (fun ts _ => h5 kind id n ts) (fun _ y h => by rw [h.2.2.2.2.2])
  have h3 := fun kind id => (is_wide 8).seq Ms.n (fun n _ => h4 kind id n) (fun _ y h => by rw [h.2.2.2.2.2.2])
  have h2 := fun kind => (is_wide 8).seq Ms.id (fun id _ => h3 kind id) (fun _ y h => by rw [h.2.2.2.2.2.2.2])
  have h1 := is_kind.seq Ms.kind (fun kind _ => h2 kind) (fun _ y h => by rw [h.2.2.2.2.2.2.2.2])
  refine Is.to h1 (fun m => ?_) (fun m _ => ?_)
  · obtain ⟨kind, id, n, ts, lo, hi, vers, vec, cmd⟩ := m
    simp only [mok, and_true, vok]
    constructor
    · rintro ⟨⟨a, a'⟩, b, c, d, e, f, ⟨g, g'⟩, ⟨h, h'⟩, i⟩
      exact ⟨⟨a, a', e, f, g, fun v hv => (g' v hv).1, h, i⟩, by simpa using b, by simpa using c, by simpa using d, fun v hv => (g' v hv).2, fun x hx => by simpa using h' x hx⟩
    · rintro ⟨⟨a, a', e, f, g, g', h, i⟩, b, c, d, g2, h'⟩
      exact ⟨⟨a, a'⟩, by simpa using b, by simpa using c, by simpa using d, e, f, ⟨g, fun v hv => ⟨g' v hv, g2 v hv⟩⟩, ⟨h, fun x hx => by simpa using h' x hx⟩, i⟩
  · rw [eRow_map, eRow_map]
    simp [elder, tx1, List.append_assoc]
end Go.Proofs.Ytkbhmeajgmecoaa.wirQ
