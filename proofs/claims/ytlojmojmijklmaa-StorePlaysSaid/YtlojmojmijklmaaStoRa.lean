/- The document's own store in memory (for StorePlays); its Of. -/
import Derived.Test.YtlojmojmijklmaaStoU
set_option linter.unusedVariables false
set_option maxRecDepth 100000
namespace Go.Proofs.Ytlojmojmijklmaa.stoRa
open Go.ChangeShapes Go.WideShapes Go.ChangeAt Go.RowKit Go.Deep
open opV chnM gen chnA chnB chnR chnT stoM stoA stoB
attribute [local go_sem high] bin_slt bin_sle bin_sge bin_sgt bin_seq bin_sne

/-- a chain and the value that holds it -/
structure El where
  c : Ch
  v : Value
instance : Inhabited El := ⟨⟨default, .slice none 0 0⟩⟩
abbrev ne (R : List El) (i : Nat) : El := R.getD i default
def cE (e : El) : List Value := [.string e.c.key, e.v]
/-- a row of them that nobody changes -/
def RowC (B : Nat → Prop) (w : World) (A : Option Addr) (R : List El) : Prop :=
  R.length = 0 ∨ ∃ b off, A = some ⟨b, off, none⟩ ∧ b < w.heap.size ∧ ¬ B b ∧ ∀ i, i < R.length → w.cell? ⟨b, off + i * 2, none⟩ = some (.string (ne R i).c.key) ∧ w.cell? ⟨b, off + i * 2 + 1, none⟩ = some (ne R i).v
abbrev cM (A : Option Addr) (n c : Nat) (f : Int) : Nat → Value := fun i => ([.slice A n c, .int .u64 f] : List Value).getD i undef
structure DIs (B : Nat → Prop) (w : World) (M : Nat) (s : St) (A : Option Addr) (c : Nat) (R : List El) : Prop where
  row : w.rowIs M 29 2 (cM A R.length c s.fl)
  map : R.map (·.c) = s.ch
  nil_ : A = none → c = 0
  le : R.length ≤ c
  top : c ≤ 9223372036854775807
  els : RowC B w A R
  dv : ∀ e ∈ R, DV B w e.v e.c.l
  me : B M
  bd : ∀ k, B k → k < w.heap.size
def DAt (B : Nat → Prop) (w : World) (M : Nat) (s : St) : Prop := ∃ A c R, DIs B w M s A c R
section
variable {B K : Nat → Prop} {w w1 : World} {M c : Nat} {s : St} {A : Option Addr} {R : List El}
theorem RowC.go (h : RowC B w A R) (hg : Chg K w w1) (hK : ∀ k, K k → B k) : RowC B w1 A R := by
  refine h.imp id ?_
  rintro ⟨b, off, e, h1, h2, h3⟩
  exact ⟨b, off, e, Nat.lt_of_lt_of_le h1 hg.size, h2, fun i hi => ⟨hg.cell (h3 i hi).1 (fun k => h2 (hK _ k)), hg.cell (h3 i hi).2 (fun k => h2 (hK _ k))⟩⟩
theorem DIs.go (h : DIs B w M s A c R) (hg : Chg K w w1) (hK : ∀ k, K k → B k) (hM : ¬ K M) : DIs B w1 M s A c R :=
  ⟨h.row.of_block (hg.block M h.row.lt hM), h.map, h.nil_, h.le, h.top, h.els.go hg hK, fun e he => (h.dv e he).go hg hK, h.me, fun k hk => Nat.lt_of_lt_of_le (h.bd k hk) hg.size⟩
theorem DIs.below (h : DIs B w M s A c R) (hB : Below w.heap.size w w1) : DIs B w1 M s A c R := h.go (Chg.of_below (fun _ => False) hB) (fun k hk => hk.elim) id
theorem DAt.below (h : DAt B w M s) (hB : Below w.heap.size w w1) : DAt B w1 M s := by obtain ⟨A, c, R, h⟩ := h; exact ⟨A, c, R, h.below hB⟩
theorem DIs.cells (h : DIs B w M s A c R) : w.cell? ⟨M, 0, none⟩ = some (.slice A R.length c) ∧ w.cell? ⟨M, 1, none⟩ = some (.int .u64 s.fl) := ⟨h.row.cell (i := 0) (by omega), h.row.cell (i := 1) (by omega)⟩
theorem DIs.len (h : DIs B w M s A c R) : s.ch.length = R.length := by rw [← h.map, List.length_map]
theorem DIs.nt (h : DIs B w M s A c R) {i : Nat} (hi : i < R.length) : nt s.ch i = (ne R i).c := by
  rw [← h.map]
  unfold ne
  simp [chnM.nt, List.getD, hi]
theorem DIs.at (h : DIs B w M s A c R) {i : Nat} (hi : i < R.length) : ∃ b off, A = some ⟨b, off, none⟩ ∧ w.cell? ⟨b, off + i * 2, none⟩ = some (.string (ne R i).c.key) ∧ w.cell? ⟨b, off + i * 2 + 1, none⟩ = some (ne R i).v ∧ DV B w (ne R i).v (ne R i).c.l := by
  rcases h.els with h0 | ⟨b, off, e, h1, h2, h3⟩
  · omega
  · refine ⟨b, off, e, (h3 i hi).1, (h3 i hi).2, h.dv _ ?_⟩
    unfold ne
    simp [List.getD, hi]
/-- what is found at i, and not ahead of it -/
theorem fnd_first : ∀ (ch : List Ch) (k : ByteArray) (i : Nat), i < ch.length → (∀ j, j < i → seq (chnM.nt ch j).key k = false) → seq (chnM.nt ch i).key k = true → fnd ch k = some (chnM.nt ch i).l
  | [], k, i, hi, _, _ => by simp at hi
  | c :: r, k, 0, _, _, h => by
    show (if seq c.key k = true then _ else _) = _
    have h' : seq c.key k = true := h
    rw [if_pos h']; rfl
  | c :: r, k, i + 1, hi, h1, h => by
    show (if seq c.key k = true then _ else _) = _
    rw [if_neg (by have := h1 0 (by omega); intro e; change seq c.key k = false at this; rw [this] at e; cases e)]
    exact fnd_first r k i (by simpa using hi) (fun j hj => h1 (j + 1) (by omega)) h
theorem fnd_miss : ∀ (ch : List Ch) (k : ByteArray), (∀ j, j < ch.length → seq (chnM.nt ch j).key k = false) → fnd ch k = none
  | [], k, _ => rfl
  | c :: r, k, h => by
    show (if seq c.key k = true then _ else _) = _
    rw [if_neg (by have := h 0 (by simp); intro e; change seq c.key k = false at this; rw [this] at e; cases e)]
    exact fnd_miss r k (fun j hj => h (j + 1) (by simpa using hj))
end
set_option maxHeartbeats 2000000 in
theorem dof_any {B : Nat → Prop} {M : Nat} {s : St} (k : ByteArray) (w : World) (h : DAt B w M s) :
    Calls Try.prog 36 #[.pointer (some ⟨M, 0, none⟩), .string k] w fun e w' => (∃ v, e = .returned v ∧ DV B w v (of s.ch k)) ∧ w = w' := by
  obtain ⟨A, c, R, h⟩ := h
  obtain ⟨c0, c1⟩ := h.cells
  have hle := h.le
  have htop := h.top
  have hn9 : R.length ≤ 9223372036854775807 := by omega
  have hyes := Lib.hid (fun (i : Nat) (hi : i < R.length) (h1 : ∀ j, j < i → seq (ne R j).c.key k = false) (h2 : seq (ne R i).c.key k = true) => (show of s.ch k = (ne R i).c.l by
    unfold of
    rw [fnd_first s.ch k i (by rw [h.len]; exact hi) (fun j hj => by rw [h.nt (by omega)]; exact h1 j hj) (by rw [h.nt hi]; exact h2), h.nt hi]; rfl))
  have hno := Lib.hid (fun (h1 : ∀ j, j < R.length → seq (ne R j).c.key k = false) => (show of s.ch k = [] by
    unfold of
    rw [fnd_miss s.ch k (fun j hj => by rw [h.len] at hj; rw [h.nt hj]; exact h1 j hj)]; rfl))
  replace h := Lib.hid h
  clear htop
  go_enter Try.func36, Try.ntmps36
  go_wp2
  go_loopw [5] (fun i wr => ∃ j : Nat, j ≤ R.length ∧ i = .int .i64 j ∧ Hid (∀ i, i < j → seq (ne R i).c.key k = false) ∧ w = wr) (fun i _ => R.length - (intOf i).toNat)
  case atStart => exact ⟨0, by omega, rfl, Lib.hid (fun i hi => by omega), rfl⟩
  case round =>
    obtain ⟨j, hj, rfl, hs, rfl⟩ := hrel
    by_cases hlt : j < R.length
    · obtain ⟨b, off, eA, k0, k1, hd⟩ := h.out.at hlt
      subst eA
      have hjI : (j : Int) < (R.length : Int) := by omega
      replace hd := Lib.hid hd
      cases hq : seq (ne R j).c.key k
      · have hs' := Lib.hid (show ∀ i, i < j + 1 → seq (ne R i).c.key k = false from fun i hi => by
          by_cases hij : i = j
          · rw [hij]; exact hq
          · exact hs.out i (by omega))
        clear hs hyes hno
        generalize ne R j = x at *
        go_wp2
        go_roundw
        case rel => exact ⟨j + 1, by omega, by go_num, hs', trivial⟩
        case measure => simp [intOf]; omega
      · have he := Lib.hid (hyes.out j hlt hs.out hq)
        clear hs hyes hno
        generalize ne R j = x at *
        go_wp2
        go_ret
        exact ⟨⟨_, rfl, by rw [he.out]; exact hd.out⟩, rfl⟩
    · obtain rfl : j = R.length := by omega
      have he := Lib.hid (hno.out hs.out)
      clear hs hyes hno
      go_wp2
      go_ret
      exact ⟨⟨_, rfl, by rw [he.out]; exact DV.nil_ _ _⟩, rfl⟩
end Go.Proofs.Ytlojmojmijklmaa.stoRa
