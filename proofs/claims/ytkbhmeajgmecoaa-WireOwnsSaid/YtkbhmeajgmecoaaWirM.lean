/- Plain mathematics of the wire layer: messages, what is wrong with them, and their bodies. No program. -/
import Derived.Test.YtkbhmeajgmecoaaNuE
namespace Go.Proofs.Ytkbhmeajgmecoaa.wirM
open numM numN numE

/-- a command -/
structure Cm where
  kind : Int
  dc : Int
  shard : Int
  node : Int
  mode : Int
  key : ByteArray
deriving DecidableEq
/-- a version -/
structure Vr where
  key : ByteArray
  val : ByteArray
  gone : Bool
  ts : Nat
  dc : Int
  tx : Int
deriving DecidableEq
/-- a message -/
structure Ms where
  kind : Int
  id : Nat
  n : Nat
  ts : Nat
  lo : ByteArray
  hi : ByteArray
  vers : List Vr
  vec : List Nat
  cmd : Cm
deriving DecidableEq

/-! ### What is wrong with a message -/
def chkV (v : Vr) : Nat := if 16 < v.key.size ∨ 64 < v.val.size then 6 else if v.dc < 0 ∨ 3 < v.dc ∨ v.tx < 0 ∨ 1073741824 < v.tx then 1 else 0
def chkVs : List Vr → Nat
  | [] => 0
  | v :: r => if chkV v = 0 then chkVs r else chkV v
def outB (x : Int) : Bool := decide (x < 0) || decide (255 < x)
def chkC (c : Cm) : Nat := if outB c.kind || outB c.dc || outB c.shard || outB c.node || outB c.mode then 1 else if 16 < c.key.size then 6 else 0
def chk (m : Ms) : Nat :=
  if m.kind < 1 ∨ 26 < m.kind then 5 else if 16 < m.lo.size ∨ 16 < m.hi.size ∨ 4096 < m.vers.length then 6
  else if chkVs m.vers ≠ 0 then chkVs m.vers else if 32 < m.vec.length then 6 else chkC m.cmd

/-- what holds of a version, a command, a message that a program can hold -/
def Vr.fits (v : Vr) : Prop := v.key.size ≤ 140737488351232 ∧ v.val.size ≤ 140737488351232 ∧ v.ts < 18446744073709551616 ∧ (-9223372036854775808 ≤ v.dc ∧ v.dc ≤ 9223372036854775807) ∧ (-9223372036854775808 ≤ v.tx ∧ v.tx ≤ 9223372036854775807)
def i64 (x : Int) : Prop := -9223372036854775808 ≤ x ∧ x ≤ 9223372036854775807
def Cm.fits (c : Cm) : Prop := i64 c.kind ∧ i64 c.dc ∧ i64 c.shard ∧ i64 c.node ∧ i64 c.mode ∧ c.key.size ≤ 140737488351232
def Ms.fits (m : Ms) : Prop := i64 m.kind ∧ m.id < 18446744073709551616 ∧ m.n < 18446744073709551616 ∧ m.ts < 18446744073709551616 ∧ m.lo.size ≤ 140737488351232 ∧ m.hi.size ≤ 140737488351232 ∧
  (∀ v ∈ m.vers, v.fits) ∧ (∀ n ∈ m.vec, n < 18446744073709551616) ∧ m.cmd.fits

/-- a version with nothing wrong -/
structure Vr.ok (v : Vr) : Prop where
  key : v.key.size ≤ 16
  val : v.val.size ≤ 64
  dc0 : 0 ≤ v.dc
  dc : v.dc ≤ 3
  tx0 : 0 ≤ v.tx
  tx : v.tx ≤ 1073741824
structure Cm.ok (c : Cm) : Prop where
  kind : 0 ≤ c.kind ∧ c.kind ≤ 255
  dc : 0 ≤ c.dc ∧ c.dc ≤ 255
  shard : 0 ≤ c.shard ∧ c.shard ≤ 255
  node : 0 ≤ c.node ∧ c.node ≤ 255
  mode : 0 ≤ c.mode ∧ c.mode ≤ 255
  key : c.key.size ≤ 16
structure Ms.ok (m : Ms) : Prop where
  kind0 : 1 ≤ m.kind
  kind : m.kind ≤ 26
  lo : m.lo.size ≤ 16
  hi : m.hi.size ≤ 16
  len : m.vers.length ≤ 4096
  vers : ∀ v ∈ m.vers, v.ok
  vec : m.vec.length ≤ 32
  cmd : m.cmd.ok
theorem chkV_ok {v : Vr} : chkV v = 0 ↔ v.ok := by
  unfold chkV
  constructor
  · intro h
    by_cases h1 : 16 < v.key.size ∨ 64 < v.val.size
    · rw [if_pos h1] at h; omega
    · rw [if_neg h1] at h
      by_cases h2 : v.dc < 0 ∨ 3 < v.dc ∨ v.tx < 0 ∨ 1073741824 < v.tx
      · rw [if_pos h2] at h; omega
      · exact ⟨by omega, by omega, by omega, by omega, by omega, by omega⟩
  · intro h
    have := h.key; have := h.val; have := h.dc0; have := h.dc; have := h.tx0; have := h.tx
    rw [if_neg (by omega), if_neg (by omega)]
theorem chkVs_ok {l : List Vr} : chkVs l = 0 ↔ ∀ v ∈ l, v.ok := by
  induction l with
  | nil => simp [chkVs]
  | cons v r ih =>
    unfold chkVs
    by_cases h : chkV v = 0
    · rw [if_pos h, ih]
      constructor
      · intro h1 x hx
        rcases List.mem_cons.1 hx with rfl | hx
        · exact chkV_ok.1 h
        · exact h1 x hx
      · intro h1 x hx; exact h1 x (by simp [hx])
    · rw [if_neg h]
      constructor
      · intro h1; exact absurd h1 h
      · intro h1; exact absurd (chkV_ok.2 (h1 v (by simp))) h
theorem outB_false {x : Int} : outB x = false ↔ 0 ≤ x ∧ x ≤ 255 := by unfold outB; simp
theorem chkC_ok {c : Cm} : chkC c = 0 ↔ c.ok := by
  unfold chkC
  constructor
  · intro h
    by_cases h1 : (outB c.kind || outB c.dc || outB c.shard || outB c.node || outB c.mode) = true
    · rw [if_pos h1] at h; omega
    · rw [if_neg h1] at h
      have h2 := Bool.eq_false_iff.2 h1
      simp only [Bool.or_eq_false_iff, outB_false] at h2
      by_cases h3 : 16 < c.key.size
      · rw [if_pos h3] at h; omega
      · exact ⟨h2.1.1.1.1, h2.1.1.1.2, h2.1.1.2, h2.1.2, h2.2, by omega⟩
  · intro h
    have h1 : ¬ (outB c.kind || outB c.dc || outB c.shard || outB c.node || outB c.mode) = true := by
      rw [outB_false.2 h.kind, outB_false.2 h.dc, outB_false.2 h.shard, outB_false.2 h.node, outB_false.2 h.mode]; decide
    have := h.key
    rw [if_neg h1, if_neg (by omega)]
theorem chk_ok {m : Ms} : chk m = 0 ↔ m.ok := by
  unfold chk
  constructor
  · intro h
    by_cases h1 : m.kind < 1 ∨ 26 < m.kind
    · rw [if_pos h1] at h; omega
    · rw [if_neg h1] at h
      by_cases h2 : 16 < m.lo.size ∨ 16 < m.hi.size ∨ 4096 < m.vers.length
      · rw [if_pos h2] at h; omega
      · rw [if_neg h2] at h
        by_cases h3 : chkVs m.vers ≠ 0
        · rw [if_pos h3] at h; exact absurd h h3
        · rw [if_neg h3] at h
          by_cases h4 : 32 < m.vec.length
          · rw [if_pos h4] at h; omega
          · rw [if_neg h4] at h
            exact ⟨by omega, by omega, by omega, by omega, by omega, chkVs_ok.1 (by omega), by omega, chkC_ok.1 h⟩
  · intro h
    have := h.kind0; have := h.kind; have := h.lo; have := h.hi; have := h.len; have := h.vec
    rw [if_neg (by omega), if_neg (by omega), if_neg (by rw [chkVs_ok.2 h.vers]; simp), if_neg (by omega)]
    exact chkC_ok.2 h.cmd
theorem chkV_le (v : Vr) : chkV v ≤ 6 := by unfold chkV; split <;> (try split) <;> omega
theorem chkVs_le (l : List Vr) : chkVs l ≤ 6 := by
  induction l with
  | nil => simp [chkVs]
  | cons v r ih => unfold chkVs; split; exact ih; exact chkV_le v
theorem chkVs_at {l : List Vr} {j : Nat} (h : j < l.length) (h0 : chkVs l = chkVs (l.drop j)) : chkVs l = if chkV l[j] = 0 then chkVs (l.drop (j + 1)) else chkV l[j] := by
  rw [h0, List.drop_eq_getElem_cons h, chkVs]

/-! ### Bodies -/
/-- the bytes of a text by version 1 -/
def tx1 (s : ByteArray) : List Nat := fx 1 s.size ++ sl s
def gb (g : Bool) : List Nat := [if g then 1 else 0]
/-- the parts of a version's bytes by version 1 -/
def evs (v : Vr) : List (List Nat) := [tx1 v.key, tx1 v.val, gb v.gone, fx 8 v.ts, fx 1 v.dc.toNat, fx 4 v.tx.toNat]
def ev (v : Vr) : List Nat := (evs v).flatten
def nums (c : Cm) : List Int := [c.kind, c.dc, c.shard, c.node, c.mode]
def elder (m : Ms) : List Nat :=
  [fx 1 m.kind.toNat, fx 8 m.id, fx 8 m.n, fx 8 m.ts, tx1 m.lo, tx1 m.hi, fx 2 m.vers.length].flatten ++ (m.vers.map ev).flatten ++ fx 1 m.vec.length ++ (m.vec.map (fx 8)).flatten
    ++ ((nums m.cmd).map fun x => fx 1 x.toNat).flatten ++ tx1 m.cmd.key
/-- by version 2 -/
def sub64 (x a : Nat) : Nat := (x + 18446744073709551616 - a) % 18446744073709551616
def nvs (a : Nat) (v : Vr) : List (List Nat) := [tx v.key, tx v.val, gb v.gone, uv (sub64 v.ts a), uv v.dc.toNat, uv v.tx.toNat]
def nv (a : Nat) (v : Vr) : List Nat := (nvs a v).flatten
def nvl : Nat → List Vr → List (List Nat)
  | _, [] => []
  | a, v :: r => nv a v :: nvl v.ts r
def pNum (n : Nat) : List Nat := if n = 0 then [] else uv n
def pTxt (s : ByteArray) : List Nat := if s.size = 0 then [] else tx s
def pVers (l : List Vr) : List Nat := if l.length = 0 then [] else uv l.length ++ (nvl 0 l).flatten
def pVec (l : List Nat) : List Nat := if l.length = 0 then [] else uv l.length ++ (l.map uv).flatten
def Cm.nought : Cm := ⟨0, 0, 0, 0, 0, ⟨#[]⟩⟩
def pCmd (c : Cm) : List Nat := if c = Cm.nought then [] else ((nums c).map fun x => uv x.toNat).flatten ++ tx c.key
def pts (m : Ms) : List (List Nat) := [pNum m.id, pNum m.n, pNum m.ts, pTxt m.lo, pTxt m.hi, pVers m.vers, pVec m.vec, pCmd m.cmd]
def bt (l : List Nat) (k : Nat) : Nat := if l.length = 0 then 0 else k
def bitsOf (m : Ms) : Nat := bt (pNum m.id) 1 + bt (pNum m.n) 2 + bt (pNum m.ts) 4 + bt (pTxt m.lo) 8 + bt (pTxt m.hi) 16 + bt (pVers m.vers) 32 + bt (pVec m.vec) 64 + bt (pCmd m.cmd) 128
def newer (m : Ms) : List Nat := [m.kind.toNat, bitsOf m] ++ (pts m).flatten
def body (version : Int) (m : Ms) : List Nat := if version = 1 then elder m else newer m
/-- what Encode answers -/
def ence (version : Int) (m : Ms) : Nat := if version ≠ 1 ∧ version ≠ 2 then 15 else chk m
def encl (version : Int) (m : Ms) : List Nat := if version ≠ 1 ∧ version ≠ 2 then [] else if chk m ≠ 0 then [] else body version m
end Go.Proofs.Ytkbhmeajgmecoaa.wirM
