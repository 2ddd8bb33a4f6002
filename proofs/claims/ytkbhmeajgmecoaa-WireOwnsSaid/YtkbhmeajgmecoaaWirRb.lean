/- Plain: the document's reading of messages, part by part, with a fault that stays. No program. -/
import Derived.Test.YtkbhmeajgmecoaaWirR
import Derived.Test.YtkbhmeajgmecoaaWirDb
namespace Go.Proofs.Ytkbhmeajgmecoaa.wirRa
open numM numN numE wirM wirL wirP wirQ wirR

theorem seq_assoc {α β γ : Type} (r : R α) (f : α → R β) (g : β → R γ) : (r.seq f).seq g = r.seq fun x => (f x).seq g := by
  funext l
  unfold R.seq
  cases r l <;> rfl
theorem ret_seq {α β : Type} (x : α) (f : α → R β) : (R.ret x).seq f = f x := rfl
theorem seq_congr {α β : Type} {r : R α} {f g : α → R β} (h : ∀ x, f x = g x) : r.seq f = r.seq g := by rw [funext h]

/-! ### A state that keeps its first fault -/
def on {α : Type} (s : Except Nat (List Nat)) (r : R α) : Except Nat (α × List Nat) := match s with
  | .ok l => r l
  | .error k => .error k
def stt {α : Type} (x : Except Nat (α × List Nat)) : Except Nat (List Nat) := match x with
  | .ok (_, t) => .ok t
  | .error k => .error k
def vl {α : Type} (d : α) (x : Except Nat (α × List Nat)) : α := match x with
  | .ok (y, _) => y
  | .error _ => d
theorem on_seq {α β : Type} (s : Except Nat (List Nat)) (r : R α) (f : α → R β) (d : α) : on s (r.seq f) = on (stt (on s r)) (f (vl d (on s r))) := by
  cases s with
  | error k => rfl
  | ok l =>
    unfold on R.seq stt vl
    simp only
    cases r l <;> rfl
theorem on_then {α β : Type} {s s' : Except Nat (List Nat)} {r : R α} {x : α} (h : on s r = on s' (R.ret x)) (f : α → R β) : on s (r.seq f) = on s' (f x) := by
  cases s with
  | error k =>
    cases s' with
    | error k' => unfold on at h; cases h; rfl
    | ok l => unfold on R.ret at h; cases h
  | ok l =>
    unfold on R.seq at *
    simp only at h ⊢
    rcases hr : r l with e | ⟨y, t⟩
    · rw [hr] at h
      cases s' with
      | error k' => cases h; rfl
      | ok l' => cases h
    · rw [hr] at h
      cases s' with
      | error k' => cases h
      | ok l' => cases h; rfl
theorem on_self {α : Type} (s : Except Nat (List Nat)) (r : R α) (d : α) : on s r = on (stt (on s r)) (R.ret (vl d (on s r))) := by
  cases s with
  | error k => rfl
  | ok l =>
    unfold on stt vl R.ret
    simp only
    cases r l <;> rfl
/-- a chain's step: what is read is put behind -/
theorem on_step {α β : Type} {s0 : Except Nat (List Nat)} {r0 : R β} {s : Except Nat (List Nat)} {r : R α} {f : α → R β} (h : on s0 r0 = on s (r.seq f)) (d : α) : on s0 r0 = on (stt (on s r)) (f (vl d (on s r))) := h.trans (on_seq s r f d)

/-! ### Readers of both versions -/
def rn (v : Int) (k : Nat) : R Nat := if v = 1 then rWide k else rShort
def rMost (n lim err : Nat) : R Nat := (R.no (decide (lim < n)) err).seq fun _ => R.ret n
theorem lim_most (r : R Nat) (lim err : Nat) : rLim r lim err = r.seq fun n => rMost n lim err := rfl
def rTxt (v : Int) (lim : Nat) : R ByteArray := rTx (rn v 1) lim
def rVerD (v : Int) (a : Nat) : R Vr :=
  (rTxt v 16).seq fun key => (rTxt v 64).seq fun val => (rLim (rWide 1) 1 3).seq fun g => (rn v 8).seq fun ts => (rLim (rn v 1) 3 1).seq fun dc => (rLim (rn v 4) 1073741824 1).seq fun tx =>
    R.ret ⟨key, val, g == 1, if v = 1 then ts else (a + ts) % 18446744073709551616, dc, tx⟩
theorem verD1 (a : Nat) : rVerD 1 a = rVer1 := by
  unfold rVerD rVer1 rTxt rn rGone rInt
  simp only [if_true, seq_assoc, ret_seq]
theorem verD2 (a : Nat) : rVerD 2 a = rVer2 a := by
  unfold rVerD rVer2 rTxt rn rGone rInt
  simp only [show ¬ ((2 : Int) = 1) by decide, if_false, seq_assoc, ret_seq]
def stV (v : Int) (x : Vr) : Nat := if v = 1 then 0 else x.ts
def rVers (v : Int) : R (List Vr) := rList (rLim (rn v 2) 4096 6) (stV v) (rVerD v)
def rVec (v : Int) : R (List Nat) := rList (rLim (rn v 1) 32 6) (fun _ => 0) (fun _ => rn v 8)
def rNum (v : Int) : R Int := if v = 1 then rNum1 else rNum2
def rCmdD (v : Int) : R Cm := rCmd (rNum v) (rTxt v 16)
/-- five numbers, and a text behind them -/
def cm5 (xs : List Int) (k : ByteArray) : Cm := ⟨xs.getD 0 0, xs.getD 1 0, xs.getD 2 0, xs.getD 3 0, xs.getD 4 0, k⟩
theorem cmd_row (v : Int) : rCmdD v = (rRow (fun _ => 0) (fun _ => rNum v) 0 5).seq fun xs => (rTxt v 16).seq fun k => R.ret (cm5 xs k) := by
  unfold rCmdD rCmd
  simp only [rRow, seq_assoc, ret_seq]
  rfl
theorem lim255 {l : List Nat} (hl : ∀ c ∈ l, c < 256) : rLim (rWide 1) 255 1 l = rWide 1 l := by
  rcases h : rWide 1 l with e | ⟨n, t⟩
  · unfold rLim R.seq; rw [h]
  · have := ((is_wide 1).bw l n t hl h).1
    simp only [Nat.pow_one] at this
    unfold rLim R.seq R.no R.ret
    rw [h]
    simp only [decide_eq_true_eq]
    rw [if_neg (by omega)]
theorem on_num {v : Int} {s : Except Nat (List Nat)} (hs : ∀ l, s = .ok l → ∀ c ∈ l, c < 256) : on s (rNum v) = on (stt (on s (rLim (rn v 1) 255 1))) (R.ret ((vl 0 (on s (rLim (rn v 1) 255 1)) : Nat) : Int)) := by
  cases s with
  | error k => rfl
  | ok l =>
    have hl := hs l rfl
    unfold rNum rn on
    by_cases hv : v = 1
    · simp only [if_pos hv]
      rw [lim255 hl]
      unfold rNum1 rInt R.seq stt vl R.ret
      cases rWide 1 l <;> rfl
    · simp only [if_neg hv]
      unfold rNum2 rInt
      generalize rLim rShort 255 1 = r
      unfold R.seq stt vl R.ret
      simp only
      cases r l <;> rfl

/-! ### The eight parts -/
def rPart (v : Int) (i : Nat) (m : Ms) : R (Ms × Bool) := match i with
  | 0 => (rn v 8).seq fun x => R.ret ({ m with id := x }, decide (x ≠ 0))
  | 1 => (rn v 8).seq fun x => R.ret ({ m with n := x }, decide (x ≠ 0))
  | 2 => (rn v 8).seq fun x => R.ret ({ m with ts := x }, decide (x ≠ 0))
  | 3 => (rTxt v 16).seq fun x => R.ret ({ m with lo := x }, decide (x ≠ wirR.mt))
  | 4 => (rTxt v 16).seq fun x => R.ret ({ m with hi := x }, decide (x ≠ wirR.mt))
  | 5 => (rLim (rn v 2) 4096 6).seq fun n => (rRow (stV v) (rVerD v) 0 n).seq fun x => R.ret ({ m with vers := x }, decide (0 < n))
  | 6 => (rLim (rn v 1) 32 6).seq fun n => (rRow (fun _ => 0) (fun _ => rn v 8) 0 n).seq fun x => R.ret ({ m with vec := x }, decide (0 < n))
  | _ => (rCmdD v).seq fun x => R.ret ({ m with cmd := x }, decide (x ≠ Cm.nought))
def rStep (v : Int) (b i : Nat) (m : Ms) : R Ms :=
  if bit b i then (rPart v i m).seq fun p => (R.no (decide (v = 2) && !p.2) 3).seq fun _ => R.ret p.1 else R.ret m
def rTail (v : Int) (b : Nat) : Nat → Nat → Ms → R Ms
  | 0, _, m => R.ret m
  | j + 1, i, m => (rStep v b i m).seq fun m' => rTail v b j (i + 1) m'
def rHead (v : Int) : R (Int × Nat) := rKind.seq fun kind => (if v = 2 then rWide 1 else R.ret 255).seq fun b => R.ret (kind, b)
def mk0 (kind : Int) : Ms := ⟨kind, 0, 0, 0, wirR.mt, wirR.mt, [], [], Cm.nought⟩
def rDoc (v : Int) : R Ms := rKind.seq fun kind => (if v = 2 then rWide 1 else R.ret 255).seq fun b => rTail v b 8 0 (mk0 kind)
theorem doc_1 : rDoc 1 = rElder := by
  unfold rDoc rElder
  refine seq_congr fun kind => ?_
  simp only [show ¬ ((1 : Int) = 2) by decide, if_false, ret_seq]
  have hb : ∀ i, i < 8 → bit 255 i = true := by decide
  have h1 : ∀ i, i < 8 → ∀ m, rStep 1 255 i m = (rPart 1 i m).seq fun p => R.ret p.1 := fun i hi m => by
    unfold rStep
    rw [if_pos (hb i hi)]
    refine seq_congr fun p => ?_
    rw [show (decide ((1 : Int) = 2) && !p.2) = false from rfl]
    rfl
  simp only [rTail, h1, Nat.reduceAdd, Nat.reduceLT, rPart, seq_assoc, ret_seq, mk0]
  have g0 : rn 1 = rWide := by funext k; unfold rn; rw [if_pos rfl]
  have gv : rVerD 1 = fun _ => rVer1 := funext verD1
  have gs : stV 1 = fun _ => 0 := by funext x; unfold stV; rw [if_pos rfl]
  have gt : rTxt 1 = rTx (rWide 1) := by funext k; unfold rTxt; rw [g0]
  have gc : rCmdD 1 = rCmd rNum1 (rTx (rWide 1) 16) := by unfold rCmdD rNum; rw [gt, if_pos rfl]
  simp only [g0, gt, gv, gs, gc]
  unfold rList
  simp only [seq_assoc]
theorem opt_seq {α β : Type} (b : Bool) (r : R α) (z : α) (f : α → R β) : (rOpt b r z).seq f = if b then r.seq f else f z := by cases b <;> rfl
theorem if_seq {α β : Type} (b : Bool) (r r' : R α) (f : α → R β) : (if b then r else r').seq f = if b then r.seq f else r'.seq f := by cases b <;> rfl
theorem row_len {α : Type} (st : α → Nat) (r : Nat → R α) : ∀ n a l xs t, rRow st r a n l = .ok (xs, t) → xs.length = n
  | 0, _, _, _, _, h => by cases h; rfl
  | n + 1, a, l, xs, t, h => by
    unfold rRow R.seq at h
    rcases h1 : r a l with e | ⟨x, t1⟩
    · rw [h1] at h; cases h
    · rw [h1] at h
      simp only at h
      rcases h2 : rRow st r (st x) n t1 with e | ⟨ys, t2⟩
      · rw [h2] at h; cases h
      · rw [h2] at h
        cases h
        rw [List.length_cons, row_len st r n _ _ _ _ h2]
theorem step2 (b i : Nat) (m : Ms) : rStep 2 b i m = if bit b i then (rPart 2 i m).seq fun p => (R.no (!p.2) 3).seq fun _ => R.ret p.1 else R.ret m := by
  unfold rStep; simp
/-- the check on a count ahead of the row is the check behind it, where the row of none reads nothing -/
theorem list_no {α β : Type} (lim : Nat) (st : α → Nat) (r : Nat → R α) (g : List α → R β) :
    (rLim rShort lim 6).seq (fun n => (rRow st r 0 n).seq fun x => (R.no (!decide (0 < n)) 3).seq fun _ => g x) = (rList (rCN lim) st r).seq g := by
  unfold rList rCN
  simp only [seq_assoc, ret_seq]
  refine seq_congr fun n => ?_
  cases n with
  | zero => rfl
  | succ n =>
    have e1 : (!decide (0 < n + 1)) = false := by simp
    have e2 : (n + 1 == 0) = false := rfl
    rw [e1, e2]
    rfl
theorem doc_2 : rDoc 2 = rNewer := by
  unfold rDoc rNewer
  refine seq_congr fun kind => ?_
  rw [if_pos rfl]
  refine seq_congr fun b => ?_
  have h0 : rn 2 = fun _ => rShort := by funext k; unfold rn; rw [if_neg (by decide)]
  have hv : rVerD 2 = rVer2 := funext verD2
  have hs : stV 2 = Vr.ts := by funext x; unfold stV; rw [if_neg (by decide)]
  have ht : rTxt 2 = rTx rShort := by funext k; unfold rTxt; rw [h0]
  have hc : rCmdD 2 = rCmd rNum2 (rTx rShort 16) := by unfold rCmdD rNum; rw [ht, if_neg (by decide)]
  simp only [rTail, step2, Nat.reduceAdd, rPart, h0, ht, hv, hs, hc, mk0]
  simp only [if_seq, seq_assoc, ret_seq, opt_seq, list_no, rNN, rTN, rCC]
  have n1 : ∀ x : Nat, (!decide (x ≠ 0)) = (x == 0) := fun x => by cases x <;> rfl
  have n2 : ∀ x : ByteArray, (!decide (x ≠ wirR.mt)) = decide (x.size = 0) := fun x => by simp [mt_iff]
  have n3 : ∀ x : Cm, (!decide (x ≠ Cm.nought)) = decide (x = Cm.nought) := fun x => by simp
  simp only [n1, n2, n3]
theorem doc_by {v : Int} (h : v = 1 ∨ v = 2) : rBy v = rDoc v := by
  unfold rBy
  rcases h with rfl | rfl
  · rw [if_pos rfl, doc_1]
  · rw [if_neg (by decide), doc_2]
end Go.Proofs.Ytkbhmeajgmecoaa.wirRa
/- The document's reader in memory: what is left, the first fault; its small calls. -/
namespace Go.Proofs.Ytkbhmeajgmecoaa.wirRb
open Go.ChangeShapes Go.WideShapes Go.ChangeAt Go.RowKit Go.Deep
open numM rowA byt numA numB numC numN numD numE wirM wirL wirP wirQ wirR wirDa wirDb wirRa

def er (s : Except Nat (List Nat)) : Nat := match s with
  | .ok _ => 0
  | .error k => k
/-- the document's reader at block u -/
def SAt (w : World) (u : Nat) (s : Except Nat (List Nat)) : Prop :=
  ∃ A n c, w.rowIs u 61 2 (fun i => if i = 0 then .slice A n c else .int .i64 (er s)) ∧ (∀ k, s = .error k → k ≠ 0) ∧
    ∀ l, s = .ok l → n = l.length ∧ BL w A l.length l ∧ l.length ≤ c ∧ c ≤ 9223372036854775807 ∧ (l.length = 0 ∨ A = none ∨ ∃ b off, A = some ⟨b, off, none⟩ ∧ b < u)
theorem SAt.lt {w : World} {u : Nat} {s : Except Nat (List Nat)} (h : SAt w u s) : u < w.heap.size := by obtain ⟨A, n, c, h1, _⟩ := h; exact h1.lt
theorem SAt.keep {w w' : World} {u : Nat} {s : Except Nat (List Nat)} (h : SAt w u s) (hk : ∀ k, k ≤ u → w'.heap[k]? = w.heap[k]?) : SAt w' u s := by
  obtain ⟨A, n, c, h1, h2, h3⟩ := h
  have h9 := hk u (Nat.le_refl _)
  refine ⟨A, n, c, h1.of_block h9, h2, fun l hl => ?_⟩
  obtain ⟨g1, g2, g3, g4, g5⟩ := h3 l hl
  refine ⟨g1, ?_, g3, g4, g5⟩
  rcases g5 with h0 | g5
  · exact ⟨g2.1, g2.2.1, g2.2.2.1, .inl h0⟩
  refine ⟨g2.1, g2.2.1, g2.2.2.1, g2.2.2.2.imp id ?_⟩
  rintro ⟨b, off, rfl, hlt, hc⟩
  have hb : b < u := by
    rcases g5 with h5 | ⟨b', off', e, hb⟩
    · cases h5
    · cases e; exact hb
  have e : ∀ i, w'.cell? ⟨b, i, none⟩ = w.cell? ⟨b, i, none⟩ := fun i => World.cell?_of_block (a := ⟨b, i, none⟩) (hk b (by omega))
  refine ⟨b, off, rfl, ?_, fun i hi => by rw [e]; exact hc i hi⟩
  have := (h1.of_block h9).lt
  omega
theorem SAt.below {w w' : World} {u : Nat} {s : Except Nat (List Nat)} (h : SAt w u s) (hB : Below w.heap.size w w') : SAt w' u s := h.keep fun k hk => hB.block k (by have := h.lt; omega)
theorem SAt.put {w : World} {u : Nat} {s : Except Nat (List Nat)} (h : SAt w u s) {p : Addr} (hp : u < p.block) (v : Value) : SAt (w.setCell p v) u s := h.keep fun k hk => Below.heap_setCell w p v k (by omega)
theorem SAt.alloc {w : World} {u : Nat} {s : Except Nat (List Nat)} (h : SAt w u s) (o : Obj) : SAt (w.alloc o) u s := h.below ((Below.refl _ _).alloc (Nat.le_refl _) o)
theorem SAt.lt256 {w : World} {u : Nat} {s : Except Nat (List Nat)} (h : SAt w u s) : ∀ l, s = .ok l → ∀ c ∈ l, c < 256 := fun l hl => by obtain ⟨A, n, c, _, _, h2⟩ := h; exact (h2 l hl).2.1.2.2.1
theorem SAt.err {w : World} {u : Nat} {s : Except Nat (List Nat)} (h : SAt w u s) : w.cell? ⟨u, 1, none⟩ = some (.int .i64 (er s)) := by
  obtain ⟨A, n, c, h1, _⟩ := h
  exact h1.cell (i := 1) (by omega)
theorem SAt.frozen {w : World} {u : Nat} {s : Except Nat (List Nat)} (h : SAt w u s) (i : Nat) : w.frozen? ⟨u, i, none⟩ = false := by obtain ⟨A, n, c, h1, _⟩ := h; exact h1.frozen i
theorem SAt.nz {w : World} {u k : Nat} (h : SAt w u (.error k)) : k ≠ 0 := by obtain ⟨A, n, c, _, h2, _⟩ := h; exact h2 k rfl
/-- a fault is laid -/
theorem SAt.stop {w : World} {u : Nat} {l : List Nat} (h : SAt w u (.ok l)) {k : Nat} (hk : k ≠ 0) : SAt (w.setCell ⟨u, 1, none⟩ (.int .i64 k)) u (.error k) := by
  obtain ⟨A, n, c, h1, _⟩ := h
  refine ⟨A, n, c, (h1.set 1 (.int .i64 k)).congr (fun i hi => ?_), fun k' e => by cases e; exact hk, fun l' e => by cases e⟩
  have : i = 0 ∨ i = 1 := by omega
  rcases this with rfl | rfl <;> rfl
/-- what is left, cut -/
theorem SAt.open_ {w : World} {u : Nat} {l : List Nat} (h : SAt w u (.ok l)) : ∃ A c, w.cell? ⟨u, 0, none⟩ = some (.slice A l.length c) ∧ BL w A l.length l ∧ l.length ≤ c ∧ c ≤ 9223372036854775807 ∧
    ∀ k, k ≤ l.length → (c = k → SAt (w.setCell ⟨u, 0, none⟩ (.slice A (l.length - k) 0)) u (.ok (l.drop k))) ∧ SAt (w.setCell ⟨u, 0, none⟩ (.slice (A.map (fun x => x.add k)) (l.length - k) (c - k))) u (.ok (l.drop k)) := by
  obtain ⟨A, n, c, h1, -, h2⟩ := h
  obtain ⟨rfl, hb, hc, h9, h5⟩ := h2 l rfl
  refine ⟨A, c, h1.cell (i := 0) (by omega), hb, hc, h9, fun k hs => ?_⟩
  have hS : ∀ A' c', (l.length - k ≤ c' ∧ c' ≤ 9223372036854775807 ∧ BL w A' (l.length - k) (l.drop k) ∧ (l.length - k = 0 ∨ A' = none ∨ ∃ b off, A' = some ⟨b, off, none⟩ ∧ b < u)) → SAt (w.setCell ⟨u, 0, none⟩ (.slice A' (l.length - k) c')) u (.ok (l.drop k)) := by
    rintro A' c' ⟨g1, g2, g3, g4⟩
    have hg := Gr.set (u := u) w 0 (.slice A' (l.length - k) c')
    have hbl : BL (w.setCell ⟨u, 0, none⟩ (.slice A' (l.length - k) c')) A' (l.length - k) (l.drop k) := by
      rcases g4 with h0 | hB
      · exact ⟨g3.1, g3.2.1, g3.2.2.1, .inl h0⟩
      refine ⟨g3.1, g3.2.1, g3.2.2.1, g3.2.2.2.imp id ?_⟩
      rintro ⟨b, off, rfl, hlt, hc⟩
      have hb : b < u := by
        rcases hB with h5 | ⟨b', off', e, hb⟩
        · cases h5
        · cases e; exact hb
      refine ⟨b, off, rfl, by rw [World.size_setCell]; exact hlt, fun i hi => ?_⟩
      rw [World.cell?_of_block (a := ⟨b, off + i, none⟩) (hg.block b hlt (by omega))]
      exact hc i hi
    refine ⟨A', l.length - k, c', (h1.set 0 _).congr (fun i hi => ?_), (fun _ e => by cases e), fun l' e => ?_⟩
    · have : i = 0 ∨ i = 1 := by omega
      rcases this with rfl | rfl <;> rfl
    · cases e
      rw [List.length_drop]
      exact ⟨rfl, hbl, g1, g2, g4⟩
  constructor
  · rintro rfl
    exact hS A 0 ⟨by omega, by omega, by rw [show l.length - c = 0 by omega, List.drop_eq_nil_of_le (by omega)]; exact BL.none_ w A, .inl (by omega)⟩
  · refine hS _ _ ⟨by omega, by omega, ?_, ?_⟩
    · rcases h5 with h0 | rfl | ⟨b, off, rfl, hb'⟩
      · rw [show l.length - k = 0 by omega, List.drop_eq_nil_of_le (by omega)]; exact BL.none_ w _
      · have h0 : l.length = 0 := by
          rcases hb.2.2.2 with h0 | ⟨b, off, e, _⟩
          · exact h0
          · cases e
        rw [show l.length - k = 0 by omega, List.drop_eq_nil_of_le (by omega)]; exact BL.none_ w _
      · have := hb.drop k
        simpa [add_plain] using this
    · rcases h5 with h0 | rfl | ⟨b, off, rfl, hb'⟩
      · exact .inl (by omega)
      · exact .inr (.inl rfl)
      · exact .inr (.inr ⟨b, off + k, by simp [add_plain], hb'⟩)
/-- What a call of the reader's does: it answers what was read, or nought. -/
def Sd {α : Type} (u : Nat) (val : α → Value) (d : α) (w : World) (x : Except Nat (α × List Nat)) (e : Ending) (w' : World) : Prop :=
  e = .returned (val (vl d x)) ∧ SAt w' u (stt x) ∧ Gr u w w'
theorem sd_ok {α : Type} {u : Nat} {val : α → Value} {d : α} {w w' : World} {r : Except Nat (α × List Nat)} {x : α} {t : List Nat} (h : r = .ok (x, t)) (hs : SAt w' u (.ok t)) (hg : Gr u w w') : Sd u val d w r (.returned (val x)) w' := by subst h; exact ⟨rfl, hs, hg⟩
theorem sd_no {α : Type} {u : Nat} {val : α → Value} {d : α} {w w' : World} {r : Except Nat (α × List Nat)} {k : Nat} (h : r = .error k) (hs : SAt w' u (.error k)) (hg : Gr u w w') : Sd u val d w r (.returned (val d)) w' := by subst h; exact ⟨rfl, hs, hg⟩

/-! ### stop -/
theorem stop_s {u : Nat} {l : List Nat} (k : Nat) (w : World) (h : SAt w u (.ok l)) : Calls Try.prog 40 #[.pointer (some ⟨u, 0, none⟩), .int .i64 k] w fun e w' => e = .returned (.tuple #[]) ∧ w' = w.setCell ⟨u, 1, none⟩ (.int .i64 k) := by
  have h0 : w.cell? ⟨u, 1, none⟩ = some (.int .i64 0) := h.err
  have hf := h.frozen 1
  clear h
  go_enter Try.func40, Try.ntmps40
  go_wp2
  go_end0
  exact ⟨rfl, rfl⟩
def vU (n : Nat) : Value := .int .u64 n
def vS (s : ByteArray) : Value := .string s
def vN (n : Nat) : Value := .int .i64 n
set_option maxRecDepth 100000 in
theorem wide_s {u : Nat} {s : Except Nat (List Nat)} (k : Nat) (w : World) (h : SAt w u s) (h1 : 1 ≤ k) (h8 : k ≤ 8) : Calls Try.prog 39 #[.pointer (some ⟨u, 0, none⟩), .int .i64 k] w (Sd u vU 0 w (on s (rWide k))) := by
  have he := h.err
  cases s with
  | error j =>
    have hj : ((j : Int) != 0) = true := by rw [bne_iff_ne]; have := h.nz; omega
    replace he : w.cell? ⟨u, 1, none⟩ = some (.int .i64 j) := he
    have hE := Lib.hid (sd_no (val := vU) (d := 0) (r := on (.error j) (rWide k)) rfl h (Gr.refl _ _))
    clear h
    go_enter Try.func39, Try.ntmps39
    go_wp2
    go_ret
    exact hE.out
  | ok l =>
    replace he : w.cell? ⟨u, 1, none⟩ = some (.int .i64 0) := he
    have hf := h.frozen 0
    have hst := Lib.hid (fun (k : Nat) => stop_s k w h)
    have hSt := Lib.hid (fun (k : Nat) (hk : k ≠ 0) => h.stop (k := k) hk)
    obtain ⟨A, c, h0, hb, hc, h9, hcut⟩ := h.open_
    have ht := rtfixed_any A l.length c k l w hb
    have ev : tfv l k = if l.length < k then 0 else bv (l.take k) := by unfold tfv; rw [if_neg (by omega), Int.toNat_natCast]
    have ee : tfe l k = if l.length < k then 2 else 0 := by unfold tfe; rw [if_neg (by omega), Int.toNat_natCast]
    rw [ev, ee] at ht
    clear ev ee
    by_cases hs : l.length < k
    · rw [if_pos hs, if_pos hs] at ht
      replace ht := Lib.hid ht
      have hr : on (.ok l) (rWide k) = .error 2 := if_pos hs
      have hE := Lib.hid (sd_no (val := vU) (d := 0) hr (hSt.out 2 (by decide)) (Gr.set w 1 (.int .i64 (2 : Nat))))
      clear h hb hs hcut hr hSt
      generalize l.length = n at *
      go_enter Try.func39, Try.ntmps39
      go_wp2_with (fail)
      refine ht.out.mono ?_
      rintro e w' ⟨rfl, rfl⟩
      go_wp2_with (fail)
      refine (hst.out 2).mono ?_
      rintro e w' ⟨rfl, rfl⟩
      go_wp2
      go_ret
      exact hE.out
    · rw [if_neg hs, if_neg hs] at ht
      replace ht := Lib.hid ht
      have hr : on (.ok l) (rWide k) = .ok (bv (l.take k), l.drop k) := if_neg hs
      obtain ⟨hc1, hc2⟩ := hcut k (by omega)
      have hE1 := Lib.hid (fun q => sd_ok (val := vU) (d := 0) hr (hc1 q) (Gr.set w 0 _))
      have hE2 := Lib.hid (sd_ok (val := vU) (d := 0) hr hc2 (Gr.set w 0 _))
      clear h hb hcut hr hSt hst hc1 hc2
      generalize bv (l.take k) = N at *
      generalize l.length = n at *
      go_enter Try.func39, Try.ntmps39
      go_wp2_with (fail)
      refine ht.out.mono ?_
      rintro e w' ⟨rfl, rfl⟩
      go_wp2
      all_goals
        go_ret
        first
          | exact hE1.out (by assumption)
          | exact hE2.out
set_option maxRecDepth 100000 in
theorem short_s {u : Nat} {s : Except Nat (List Nat)} (w : World) (h : SAt w u s) : Calls Try.prog 91 #[.pointer (some ⟨u, 0, none⟩)] w (Sd u vU 0 w (on s rShort)) := by
  have he := h.err
  cases s with
  | error j =>
    have hj : ((j : Int) != 0) = true := by rw [bne_iff_ne]; have := h.nz; omega
    replace he : w.cell? ⟨u, 1, none⟩ = some (.int .i64 j) := he
    have hE := Lib.hid (sd_no (val := vU) (d := 0) (r := on (.error j) rShort) rfl h (Gr.refl _ _))
    clear h
    go_enter Try.func91, Try.ntmps91
    go_wp2
    go_ret
    exact hE.out
  | ok l =>
    replace he : w.cell? ⟨u, 1, none⟩ = some (.int .i64 0) := he
    have hf := h.frozen 0
    have hst := Lib.hid (fun (k : Nat) => stop_s k w h)
    have hSt := Lib.hid (fun (k : Nat) (hk : k ≠ 0) => h.stop (k := k) hk)
    obtain ⟨A, c, h0, hb, hc, h9, hcut⟩ := h.open_
    have ht := Lib.hid (rtuv_any A l.length c l w hb)
    by_cases hs : tke l = 0
    · obtain ⟨-, -, hnl, -⟩ := tk_yes hb.lt hs
      have hr : on (.ok l) rShort = .ok (tkv l, l.drop (tkn l)) := if_pos hs
      obtain ⟨hc1, hc2⟩ := hcut (tkn l) hnl
      have hE1 := Lib.hid (fun q => sd_ok (val := vU) (d := 0) hr (hc1 q) (Gr.set w 0 _))
      have hE2 := Lib.hid (sd_ok (val := vU) (d := 0) hr hc2 (Gr.set w 0 _))
      rw [hs] at ht
      clear h hb hcut hr hSt hst hc1 hc2 hs
      generalize tkv l = N at *
      generalize tkn l = k at *
      generalize l.length = n at *
      go_enter Try.func91, Try.ntmps91
      go_wp2_with (fail)
      refine ht.out.mono ?_
      rintro e w' ⟨rfl, rfl⟩
      go_wp2
      all_goals
        go_ret
        first
          | exact hE1.out (by assumption)
          | exact hE2.out
    · have hr : on (.ok l) rShort = .error (tke l) := if_neg hs
      have hne : ((tke l : Int) != 0) = true := by rw [bne_iff_ne]; omega
      have hE := Lib.hid (sd_no (val := vU) (d := 0) hr (hSt.out _ hs) (Gr.set w 1 _))
      replace hst := Lib.hid (hst.out (tke l))
      clear h hb hs hcut hr hSt
      generalize tkv l = N at *
      generalize tkn l = T at *
      generalize tke l = E at *
      generalize l.length = n at *
      go_enter Try.func91, Try.ntmps91
      go_wp2_with (fail)
      refine ht.out.mono ?_
      rintro e w' ⟨rfl, rfl⟩
      go_wp2_with (fail)
      refine hst.out.mono ?_
      rintro e w' ⟨rfl, rfl⟩
      go_wp2
      go_ret
      exact hE.out
set_option maxRecDepth 100000 in
theorem most_s {u : Nat} {s : Except Nat (List Nat)} (n lim k : Nat) (hk : k ≠ 0) (hl : lim ≤ 9223372036854775807) (w : World) (h : SAt w u s) : Calls Try.prog 76 #[.pointer (some ⟨u, 0, none⟩), .int .u64 n, .int .u64 lim, .int .i64 k] w (Sd u vN 0 w (on s (rMost n lim k))) := by
  have he := h.err
  cases s with
  | error j =>
    have hj : ((j : Int) != 0) = true := by rw [bne_iff_ne]; have := h.nz; omega
    replace he : w.cell? ⟨u, 1, none⟩ = some (.int .i64 j) := he
    have hE := Lib.hid (sd_no (val := vN) (d := 0) (r := on (.error j) (rMost n lim k)) rfl h (Gr.refl _ _))
    clear h
    go_enter Try.func76, Try.ntmps76
    go_wp2
    go_ret
    exact hE.out
  | ok l =>
    replace he : w.cell? ⟨u, 1, none⟩ = some (.int .i64 0) := he
    by_cases hs : lim < n
    · have hr : on (.ok l) (rMost n lim k) = .error k := by unfold on rMost R.seq R.no; simp [hs]
      have hst := Lib.hid (stop_s k w h)
      have hE := Lib.hid (sd_no (val := vN) (d := 0) hr (h.stop hk) (Gr.set w 1 _))
      clear h hr
      go_enter Try.func76, Try.ntmps76
      go_wp2_with (fail)
      refine hst.out.mono ?_
      rintro e w' ⟨rfl, rfl⟩
      go_wp2
      go_ret
      exact hE.out
    · have hr : on (.ok l) (rMost n lim k) = .ok (n, l) := by unfold on rMost R.seq R.no R.ret; simp [hs]
      have hw2 : IntKind.i64.wrap (n : Int) = n := IntWalk.i64_in _ ⟨by omega, by omega⟩
      have hE := Lib.hid (sd_ok (val := vN) (d := 0) hr h (Gr.refl _ _))
      clear h hr
      go_enter Try.func76, Try.ntmps76
      go_wp2
      go_ret
      exact hE.out
set_option maxRecDepth 100000 in
theorem bytes_s {u : Nat} {s : Except Nat (List Nat)} (k : Nat) (w : World) (h : SAt w u s) (h9' : k ≤ 9223372036854775807) : Calls Try.prog 92 #[.pointer (some ⟨u, 0, none⟩), .int .i64 k] w (Sd u vS ⟨#[]⟩ w (on s (rStr k))) := by
  have he := h.err
  cases s with
  | error j =>
    have hj : ((j : Int) != 0) = true := by rw [bne_iff_ne]; have := h.nz; omega
    replace he : w.cell? ⟨u, 1, none⟩ = some (.int .i64 j) := he
    have hE := Lib.hid (sd_no (val := vS) (d := ⟨#[]⟩) (r := on (.error j) (rStr k)) rfl h (Gr.refl _ _))
    clear h
    go_enter Try.func92, Try.ntmps92
    go_wp2
    go_ret
    exact hE.out
  | ok l =>
    replace he : w.cell? ⟨u, 1, none⟩ = some (.int .i64 0) := he
    have hf := h.frozen 0
    obtain ⟨A, c, h0, hb, hc, h9, hcut⟩ := h.open_
    by_cases hs : l.length < k
    · have hst := Lib.hid (stop_s 2 w h)
      have hr : on (.ok l) (rStr k) = .error 2 := if_pos hs
      have hE := Lib.hid (sd_no (val := vS) (d := ⟨#[]⟩) hr (h.stop (k := 2) (by decide)) (Gr.set w 1 _))
      clear h hb hcut hr
      generalize l.length = n at *
      go_enter Try.func92, Try.ntmps92
      go_wp2_with (fail)
      refine hst.out.mono ?_
      rintro e w' ⟨rfl, rfl⟩
      go_wp2
      go_ret
      exact hE.out
    · have hr : on (.ok l) (rStr k) = .ok (strOf (l.take k), l.drop k) := if_neg hs
      obtain ⟨hc1, hc2⟩ := hcut k (by omega)
      have hE1 := Lib.hid (fun q => sd_ok (val := vS) (d := ⟨#[]⟩) hr (hc1 q) (Gr.set w 0 _))
      have hE2 := Lib.hid (sd_ok (val := vS) (d := ⟨#[]⟩) hr hc2 (Gr.set w 0 _))
      have e1 := run_str (P := Try.prog) 31 5 9 Try.underlying31 Try.underlying5 Try.underlying9 c (hb.take k (by omega))
      clear h hb hcut hr hc1 hc2
      generalize strOf (l.take k) = N at *
      generalize l.length = n at *
      go_enter Try.func92, Try.ntmps92
      go_wp2
      all_goals
        go_ret
        first
          | exact hE1.out (by assumption)
          | exact hE2.out
end Go.Proofs.Ytkbhmeajgmecoaa.wirRb
