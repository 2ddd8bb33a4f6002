/- Plain: the document's reading of messages, part by part, with a fault that stays. No program. -/
import Derived.Test.YtkbhmeajgmecoaaWirR
namespace Go.Proofs.Ytkbhmeajgmecoaa.wirRa
open numM numN numE wirM wirL wirP wirQ wirR

theorem seq_assoc {α β γ : Type} (r : R α) (f : α → R β) (g : β → R γ) : (r.seq f).seq g = r.seq fun x => (f x).seq g := by
  funext l
  unfold R.seq
  cases r l <;> rfl
theorem ret_seq {α β : Type} (x : α) (f : α → R β) : (R.ret x).seq f = f x := rfl
theorem seq_congr {α β : Type} {r : R α} {f g : α → R β} (h : ∀ x, f x = g x) : r.seq f = r.seq g := by rw [funext h]

/-! ### A state that keeps its first fault -/
def on {α : Type} (s : Except Nat (List Nat)) (r : R α) : Except Nat (α × List Nat) := match s with
  | .ok l => r l
  | .error k => .error k
def stt {α : Type} (x : Except Nat (α × List Nat)) : Except Nat (List Nat) := match x with
  | .ok (_, t) => .ok t
  | .error k => .error k
def vl {α : Type} (d : α) (x : Except Nat (α × List Nat)) : α := match x with
  | .ok (y, _) => y
  | .error _ => d
theorem on_seq {α β : Type} (s : Except Nat (List Nat)) (r : R α) (f : α → R β) (d : α) : on s (r.seq f) = on (stt (on s r)) (f (vl d (on s r))) := by
  cases s with
  | error k => rfl
  | ok l =>
    unfold on R.seq stt vl
    simp only
    cases r l <;> rfl
theorem on_then {α β : Type} {s s' : Except Nat (List Nat)} {r : R α} {x : α} (h : on s r = on s' (R.ret x)) (f : α → R β) : on s (r.seq f) = on s' (f x) := by
  cases s with
  | error k =>
    cases s' with
    | error k' => unfold on at h; cases h; rfl
    | ok l => unfold on R.ret at h; cases h
  | ok l =>
    unfold on R.seq at *
    simp only at h ⊢
    rcases hr : r l with e | ⟨y, t⟩
    · rw [hr] at h
      cases s' with
      | error k' => cases h; rfl
      | ok l' => cases h
    · rw [hr] at h
      cases s' with
      | error k' => cases h
      | ok l' => cases h; rfl
theorem on_self {α : Type} (s : Except Nat (List Nat)) (r : R α) (d : α) : on s r = on (stt (on s r)) (R.ret (vl d (on s r))) := by
  cases s with
  | error k => rfl
  | ok l =>
    unfold on stt vl R.ret
    simp only
    cases r l <;> rfl
/-- a chain's step: what is read is put behind -/
theorem on_step {α β : Type} {s0 : Except Nat (List Nat)} {r0 : R β} {s : Except Nat (List Nat)} {r : R α} {f : α → R β} (h : on s0 r0 = on s (r.seq f)) (d : α) : on s0 r0 = on (stt (on s r)) (f (vl d (on s r))) := h.trans (on_seq s r f d)

/-! ### Readers of both versions -/
def rn (v : Int) (k : Nat) : R Nat := if v = 1 then rWide k else rShort
def rMost (n lim err : Nat) : R Nat := (R.no (decide (lim < n)) err).seq fun _ => R.ret n
theorem lim_most (r : R Nat) (lim err : Nat) : rLim r lim err = r.seq fun n => rMost n lim err := rfl
def rTxt (v : Int) (lim : Nat) : R ByteArray := rTx (rn v 1) lim
def rVerD (v : Int) (a : Nat) : R Vr :=
  (rTxt v 16).seq fun key => (rTxt v 64).seq fun val => (rLim (rWide 1) 1 3).seq fun g => (rn v 8).seq fun ts => (rLim (rn v 1) 3 1).seq fun dc => (rLim (rn v 4) 1073741824 1).seq fun tx =>
    R.ret ⟨key, val, g == 1, if v = 1 then ts else (a + ts) % 18446744073709551616, dc, tx⟩
theorem verD1 (a : Nat) : rVerD 1 a = rVer1 := by
  unfold rVerD rVer1 rTxt rn rGone rInt
  simp only [if_true, seq_assoc, ret_seq]
theorem verD2 (a : Nat) : rVerD 2 a = rVer2 a := by
  unfold rVerD rVer2 rTxt rn rGone rInt
  simp only [show ¬ ((2 : Int) = 1) by decide, if_false, seq_assoc, ret_seq]
def stV (v : Int) (x : Vr) : Nat := if v = 1 then 0 else x.ts
def rVers (v : Int) : R (List Vr) := rList (rLim (rn v 2) 4096 6) (stV v) (rVerD v)
def rVec (v : Int) : R (List Nat) := rList (rLim (rn v 1) 32 6) (fun _ => 0) (fun _ => rn v 8)
def rNum (v : Int) : R Int := if v = 1 then rNum1 else rNum2
def rCmdD (v : Int) : R Cm := rCmd (rNum v) (rTxt v 16)
/-- five numbers, and a text behind them -/
def cm5 (xs : List Int) (k : ByteArray) : Cm := ⟨xs.getD 0 0, xs.getD 1 0, xs.getD 2 0, xs.getD 3 0, xs.getD 4 0, k⟩
theorem cmd_row (v : Int) : rCmdD v = (rRow (fun _ => 0) (fun _ => rNum v) 0 5).seq fun xs => (rTxt v 16).seq fun k => R.ret (cm5 xs k) := by
  unfold rCmdD rCmd
  simp only [rRow, seq_assoc, ret_seq]
  rfl
theorem lim255 {l : List Nat} (hl : ∀ c ∈ l, c < 256) : rLim (rWide 1) 255 1 l = rWide 1 l := by
  rcases h : rWide 1 l with e | ⟨n, t⟩
  · unfold rLim R.seq; rw [h]
  · have := ((is_wide 1).bw l n t hl h).1
    simp only [Nat.pow_one] at this
    unfold rLim R.seq R.no R.ret
    rw [h]
    simp only [decide_eq_true_eq]
    rw [if_neg (by omega)]
theorem on_num {v : Int} {s : Except Nat (List Nat)} (hs : ∀ l, s = .ok l → ∀ c ∈ l, c < 256) : on s (rNum v) = on (stt (on s (rLim (rn v 1) 255 1))) (R.ret ((vl 0 (on s (rLim (rn v 1) 255 1)) : Nat) : Int)) := by
  cases s with
  | error k => rfl
  | ok l =>
    have hl := hs l rfl
    unfold rNum rn on
    by_cases hv : v = 1
    · simp only [if_pos hv]
      rw [lim255 hl]
      unfold rNum1 rInt R.seq stt vl R.ret
      cases rWide 1 l <;> rfl
    · simp only [if_neg hv]
      unfold rNum2 rInt
      generalize rLim rShort 255 1 = r
      unfold R.seq stt vl R.ret
      simp only
      cases r l <;> rfl

/-! ### The eight parts -/
def rPart (v : Int) (i : Nat) (m : Ms) : R (Ms × Bool) := match i with
  | 0 => (rn v 8).seq fun x => R.ret ({ m with id := x }, decide (x ≠ 0))
  | 1 => (rn v 8).seq fun x => R.ret ({ m with n := x }, decide (x ≠ 0))
  | 2 => (rn v 8).seq fun x => R.ret ({ m with ts := x }, decide (x ≠ 0))
  | 3 => (rTxt v 16).seq fun x => R.ret ({ m with lo := x }, decide (x ≠ wirR.mt))
  | 4 => (rTxt v 16).seq fun x => R.ret ({ m with hi := x }, decide (x ≠ wirR.mt))
  | 5 => (rLim (rn v 2) 4096 6).seq fun n => (rRow (stV v) (rVerD v) 0 n).seq fun x => R.ret ({ m with vers := x }, decide (0 < n))
  | 6 => (rLim (rn v 1) 32 6).seq fun n => (rRow (fun _ => 0) (fun _ => rn v 8) 0 n).seq fun x => R.ret ({ m with vec := x }, decide (0 < n))
  | _ => (rCmdD v).seq fun x => R.ret ({ m with cmd := x }, decide (x ≠ Cm.nought))
def rStep (v : Int) (b i : Nat) (m : Ms) : R Ms :=
  if bit b i then (rPart v i m).seq fun p => (R.no (decide (v = 2) && !p.2) 3).seq fun _ => R.ret p.1 else R.ret m
def rTail (v : Int) (b : Nat) : Nat → Nat → Ms → R Ms
  | 0, _, m => R.ret m
  | j + 1, i, m => (rStep v b i m).seq fun m' => rTail v b j (i + 1) m'
def rHead (v : Int) : R (Int × Nat) := rKind.seq fun kind => (if v = 2 then rWide 1 else R.ret 255).seq fun b => R.ret (kind, b)
def mk0 (kind : Int) : Ms := ⟨kind, 0, 0, 0, wirR.mt, wirR.mt, [], [], Cm.nought⟩
def rDoc (v : Int) : R Ms := rKind.seq fun kind => (if v = 2 then rWide 1 else R.ret 255).seq fun b => rTail v b 8 0 (mk0 kind)
theorem doc_1 : rDoc 1 = rElder := by
  unfold rDoc rElder
  refine seq_congr fun kind => ?_
  simp only [show ¬ ((1 : Int) = 2) by decide, if_false, ret_seq]
  have hb : ∀ i, i < 8 → bit 255 i = true := by decide
  have h1 : ∀ i, i < 8 → ∀ m, rStep 1 255 i m = (rPart 1 i m).seq fun p => R.ret p.1 := fun i hi m => by
    unfold rStep
    rw [if_pos (hb i hi)]
    refine seq_congr fun p => ?_
    rw [show (decide ((1 : Int) = 2) && !p.2) = false from rfl]
    rfl
  simp only [rTail, h1, Nat.reduceAdd, Nat.reduceLT, rPart, seq_assoc, ret_seq, mk0]
  have g0 : rn 1 = rWide := by funext k; unfold rn; rw [if_pos rfl]
  have gv : rVerD 1 = fun _ => rVer1 := funext verD1
  have gs : stV 1 = fun _ => 0 := by funext x; unfold stV; rw [if_pos rfl]
  have gt : rTxt 1 = rTx (rWide 1) := by funext k; unfold rTxt; rw [g0]
  have gc : rCmdD 1 = rCmd rNum1 (rTx (rWide 1) 16) := by unfold rCmdD rNum; rw [gt, if_pos rfl]
  simp only [g0, gt, gv, gs, gc]
  unfold rList
  simp only [seq_assoc]
theorem opt_seq {α β : Type} (b : Bool) (r : R α) (z : α) (f : α → R β) : (rOpt b r z).seq f = if b then r.seq f else f z := by cases b <;> rfl
theorem if_seq {α β : Type} (b : Bool) (r r' : R α) (f : α → R β) : (if b then r else r').seq f = if b then r.seq f else r'.seq f := by cases b <;> rfl
theorem row_len {α : Type} (st : α → Nat) (r : Nat → R α) : ∀ n a l xs t, rRow st r a n l = .ok (xs, t) → xs.length = n
  | 0, _, _, _, _, h => by cases h; rfl
  | n + 1, a, l, xs, t, h => by
    unfold rRow R.seq at h
    rcases h1 : r a l with e | ⟨x, t1⟩
    · rw [h1] at h; cases h
    · rw [h1] at h
      simp only at h
      rcases h2 : rRow st r (st x) n t1 with e | ⟨ys, t2⟩
      · rw [h2] at h; cases h
      · rw [h2] at h
        cases h
        rw [List.length_cons, row_len st r n _ _ _ _ h2]
theorem step2 (b i : Nat) (m : Ms) : rStep 2 b i m = if bit b i then (rPart 2 i m).seq fun p => (R.no (!p.2) 3).seq fun _ => R.ret p.1 else R.ret m := by
  unfold rStep; simp
/-- the check on a count ahead of the row is the check behind it, where the row of none reads nothing -/
theorem list_no {α β : Type} (lim : Nat) (st : α → Nat) (r : Nat → R α) (g : List α → R β) :
    (rLim rShort lim 6).seq (fun n => (rRow st r 0 n).seq fun x => (R.no (!decide (0 < n)) 3).seq fun _ => g x) = (rList (rCN lim) st r).seq g := by
  unfold rList rCN
  simp only [seq_assoc, ret_seq]
  refine seq_congr fun n => ?_
  cases n with
  | zero => rfl
  | succ n =>
    have e1 : (!decide (0 < n + 1)) = false := by simp
    have e2 : (n + 1 == 0) = false := rfl
    rw [e1, e2]
    rfl
theorem doc_2 : rDoc 2 = rNewer := by
  unfold rDoc rNewer
  refine seq_congr fun kind => ?_
  rw [if_pos rfl]
  refine seq_congr fun b => ?_
  have h0 : rn 2 = fun _ => rShort := by funext k; unfold rn; rw [if_neg (by decide)]
  have hv : rVerD 2 = rVer2 := funext verD2
  have hs : stV 2 = Vr.ts := by funext x; unfold stV; rw [if_neg (by decide)]
  have ht : rTxt 2 = rTx rShort := by funext k; unfold rTxt; rw [h0]
  have hc : rCmdD 2 = rCmd rNum2 (rTx rShort 16) := by unfold rCmdD rNum; rw [ht, if_neg (by decide)]
  simp only [rTail, step2, Nat.reduceAdd, rPart, h0, ht, hv, hs, hc, mk0]
  simp only [if_seq, seq_assoc, ret_seq, opt_seq, list_no, rNN, rTN, rCC]
  have n1 : ∀ x : Nat, (!decide (x ≠ 0)) = (x == 0) := fun x => by cases x <;> rfl
  have n2 : ∀ x : ByteArray, (!decide (x ≠ wirR.mt)) = decide (x.size = 0) := fun x => by simp [mt_iff]
  have n3 : ∀ x : Cm, (!decide (x ≠ Cm.nought)) = decide (x = Cm.nought) := fun x => by simp
  simp only [n1, n2, n3]
theorem doc_by {v : Int} (h : v = 1 ∨ v = 2) : rBy v = rDoc v := by
  unfold rBy
  rcases h with rfl | rfl
  · rw [if_pos rfl, doc_1]
  · rw [if_neg (by decide), doc_2]
end Go.Proofs.Ytkbhmeajgmecoaa.wirRa
