/- What a walk is told of messages: versions, lists of them, lists of numbers, a message by value. The contracts of great and of Check, in the program and in the document's own answer. -/
import Derived.Test.YtkbhmeajgmecoaaWirM
import Derived.Test.YtkbhmeajgmecoaaNuE
import Derived.WalkSmall
namespace Go.Proofs.Ytkbhmeajgmecoaa.wirA
open Go.ChangeShapes Go.WideShapes Go.ChangeAt Go.RowKit
open numM numN rowA byt numA numB numC numD numE wirM

theorem bcell {W w1 : World} (hb : Below W.heap.size W w1) : (∀ b o, b < W.heap.size → w1.cell? ⟨b, o, none⟩ = W.cell? ⟨b, o, none⟩) ∧ (∀ b o, b < W.heap.size → w1.frozen? ⟨b, o, none⟩ = W.frozen? ⟨b, o, none⟩) :=
  ⟨fun b o h => hb.cell (p := ⟨b, o, none⟩) h, fun b o h => hb.frozen (p := ⟨b, o, none⟩) h⟩

/-! ### Versions in memory -/
def V0 : Vr := ⟨⟨#[]⟩, ⟨#[]⟩, false, 0, 0, 0⟩
def vth (l : List Vr) (i : Nat) : Vr := l.getD i V0
theorem vth_eq {l : List Vr} {i : Nat} (h : i < l.length) : vth l i = l[i] := by simp [vth, h]
theorem vth_mem {l : List Vr} {i : Nat} (h : i < l.length) : vth l i ∈ l := by rw [vth_eq h]; exact List.getElem_mem h
/-- the cells of a version -/
abbrev cv (v : Vr) : Array Value := #[.string v.key, .string v.val, .bool v.gone, .int .u64 v.ts, .int .i64 v.dc, .int .i64 v.tx]
abbrev cc (c : Cm) : Array Value := #[.int .i64 c.kind, .int .i64 c.dc, .int .i64 c.shard, .int .i64 c.node, .int .i64 c.mode, .string c.key]
/-- A version lies at o of block b. -/
def VC (w : World) (b o : Nat) (v : Vr) : Prop :=
  w.cell? ⟨b, o, none⟩ = some (.string v.key) ∧ w.cell? ⟨b, o + 1, none⟩ = some (.string v.val) ∧ w.cell? ⟨b, o + 2, none⟩ = some (.bool v.gone) ∧
  w.cell? ⟨b, o + 3, none⟩ = some (.int .u64 v.ts) ∧ w.cell? ⟨b, o + 4, none⟩ = some (.int .i64 v.dc) ∧ w.cell? ⟨b, o + 5, none⟩ = some (.int .i64 v.tx)
theorem VC.keep {w w1 : World} {b o : Nat} {v : Vr} (h : VC w b o v) (hk : ∀ o, w1.cell? ⟨b, o, none⟩ = w.cell? ⟨b, o, none⟩) : VC w1 b o v := by
  unfold VC; rw [hk, hk, hk, hk, hk, hk]; exact h
/-- The n versions at a are l. -/
def VL (w : World) (a : Option Addr) (n : Nat) (l : List Vr) : Prop :=
  l.length = n ∧ n ≤ 9223372036854775807 ∧ (∀ v ∈ l, v.fits) ∧ (n = 0 ∨ ∃ b off, a = some ⟨b, off, none⟩ ∧ b < w.heap.size ∧ ∀ i, i < n → VC w b (off + i * 6) (vth l i))
theorem VL.step {w w1 : World} {a : Option Addr} {n B : Nat} {l : List Vr} (h : VL w a n l) (hb : Below B w w1) (hB : w.heap.size ≤ B) : VL w1 a n l := by
  refine ⟨h.1, h.2.1, h.2.2.1, h.2.2.2.imp id ?_⟩
  rintro ⟨b, off, rfl, hlt, hc⟩
  exact ⟨b, off, rfl, by have := hb.size; omega, fun i hi => (hc i hi).keep fun o => hb.cell (p := ⟨b, o, none⟩) (show b < B by omega)⟩
theorem VL.below {w w1 : World} {a : Option Addr} {n : Nat} {l : List Vr} (h : VL w a n l) (hb : Below w.heap.size w w1) : VL w1 a n l := h.step hb (Nat.le_refl _)
theorem VL.at {w : World} {a : Option Addr} {n : Nat} {l : List Vr} (h : VL w a n l) {i : Nat} (hi : i < n) :
    ∃ b off, a = some ⟨b, off, none⟩ ∧ b < w.heap.size ∧ VC w b (off + i * 6) (vth l i) := by
  rcases h.2.2.2 with h | ⟨b, off, h1, h2, h3⟩
  · omega
  · exact ⟨b, off, h1, h2, h3 i hi⟩
theorem VL.nil_ (w : World) (a : Option Addr) : VL w a 0 [] := ⟨rfl, by omega, by simp, .inl rfl⟩
/-- The n numbers at a are l. -/
def NL (w : World) (a : Option Addr) (n : Nat) (l : List Nat) : Prop :=
  l.length = n ∧ n ≤ 9223372036854775807 ∧ (∀ c ∈ l, c < 18446744073709551616) ∧ (n = 0 ∨ ∃ b off, a = some ⟨b, off, none⟩ ∧ b < w.heap.size ∧ ∀ i, i < n → w.cell? ⟨b, off + i, none⟩ = some (.int .u64 (nth l i)))
theorem NL.step {w w1 : World} {a : Option Addr} {n B : Nat} {l : List Nat} (h : NL w a n l) (hb : Below B w w1) (hB : w.heap.size ≤ B) : NL w1 a n l := by
  refine ⟨h.1, h.2.1, h.2.2.1, h.2.2.2.imp id ?_⟩
  rintro ⟨b, off, rfl, hlt, hc⟩
  refine ⟨b, off, rfl, by have := hb.size; omega, fun i hi => ?_⟩
  rw [hb.cell (p := ⟨b, off + i, none⟩) (show b < B by omega)]
  exact hc i hi
theorem NL.below {w w1 : World} {a : Option Addr} {n : Nat} {l : List Nat} (h : NL w a n l) (hb : Below w.heap.size w w1) : NL w1 a n l := h.step hb (Nat.le_refl _)
theorem NL.at {w : World} {a : Option Addr} {n : Nat} {l : List Nat} (h : NL w a n l) {i : Nat} (hi : i < n) :
    ∃ b off, a = some ⟨b, off, none⟩ ∧ b < w.heap.size ∧ w.cell? ⟨b, off + i, none⟩ = some (.int .u64 (nth l i)) := by
  rcases h.2.2.2 with h | ⟨b, off, h1, h2, h3⟩
  · omega
  · exact ⟨b, off, h1, h2, h3 i hi⟩
theorem NL.nil_ (w : World) (a : Option Addr) : NL w a 0 [] := ⟨rfl, by omega, by simp, .inl rfl⟩

/-- where a message's lists are -/
structure At where
  va : Option Addr
  vc : Nat
  na : Option Addr
  nc : Nat
/-- the cells of a message -/
abbrev cm (m : Ms) (t : At) : Array Value :=
  #[.int .i64 m.kind, .int .u64 m.id, .int .u64 m.n, .int .u64 m.ts, .string m.lo, .string m.hi, .slice t.va m.vers.length t.vc, .slice t.na m.vec.length t.nc,
    .int .i64 m.cmd.kind, .int .i64 m.cmd.dc, .int .i64 m.cmd.shard, .int .i64 m.cmd.node, .int .i64 m.cmd.mode, .string m.cmd.key]
/-- The lists at t are those of the message m, whose numbers fit. -/
structure HM (w : World) (m : Ms) (t : At) : Prop where
  fits : m.fits
  vers : VL w t.va m.vers.length m.vers
  vec : NL w t.na m.vec.length m.vec
theorem HM.step {w w1 : World} {m : Ms} {t : At} {B : Nat} (h : HM w m t) (hb : Below B w w1) (hB : w.heap.size ≤ B) : HM w1 m t := ⟨h.fits, h.vers.step hb hB, h.vec.step hb hB⟩
theorem HM.below {w w1 : World} {m : Ms} {t : At} (h : HM w m t) (hb : Below w.heap.size w w1) : HM w1 m t := h.step hb (Nat.le_refl _)

/-- A block of the world that holds these cells. -/
def Box (w : World) (b : Nat) (cs : Array Value) (T : TypeId) : Prop := w.heap[b]? = some (.cells cs T (0, 0))
theorem Box.lt {w : World} {b : Nat} {cs : Array Value} {T : TypeId} (h : Box w b cs T) : b < w.heap.size := (Array.getElem?_eq_some_iff.1 h).1
theorem Box.new (w : World) (cs : Array Value) (T : TypeId) : Box (w.alloc (.cells cs T)) w.heap.size cs T := heap_alloc_new w _
theorem Box.step {w w1 : World} {b B : Nat} {cs : Array Value} {T : TypeId} (h : Box w b cs T) (hb : Below B w w1) (hB : b < B) : Box w1 b cs T := (hb.block b hB).trans h
theorem Box.below {w w1 : World} {b : Nat} {cs : Array Value} {T : TypeId} (h : Box w b cs T) (hb : Below w.heap.size w w1) : Box w1 b cs T := h.step hb h.lt
theorem Box.at {w : World} {b : Nat} {cs : Array Value} {T : TypeId} (h : Box w b cs T) (j : Nat) : w.cell? ⟨b, j, none⟩ = cs[j]? := cell_of_row w b j cs T (0, 0) h
theorem Box.alloc {w : World} {b : Nat} {cs : Array Value} {T : TypeId} (h : Box w b cs T) (o : Obj) : Box (w.alloc o) b cs T := (Below.heap_alloc w o b h.lt).trans h
theorem Box.msg {w : World} {b : Nat} {m : Ms} {t : At} {T : TypeId} (h : Box w b (cm m t) T) :
    w.cell? ⟨b, 0, none⟩ = some (.int .i64 m.kind) ∧ w.cell? ⟨b, 1, none⟩ = some (.int .u64 m.id) ∧ w.cell? ⟨b, 2, none⟩ = some (.int .u64 m.n) ∧ w.cell? ⟨b, 3, none⟩ = some (.int .u64 m.ts) ∧
    w.cell? ⟨b, 4, none⟩ = some (.string m.lo) ∧ w.cell? ⟨b, 5, none⟩ = some (.string m.hi) ∧ w.cell? ⟨b, 6, none⟩ = some (.slice t.va m.vers.length t.vc) ∧ w.cell? ⟨b, 7, none⟩ = some (.slice t.na m.vec.length t.nc) ∧
    w.cell? ⟨b, 8, none⟩ = some (.int .i64 m.cmd.kind) ∧ w.cell? ⟨b, 9, none⟩ = some (.int .i64 m.cmd.dc) ∧ w.cell? ⟨b, 10, none⟩ = some (.int .i64 m.cmd.shard) ∧
    w.cell? ⟨b, 11, none⟩ = some (.int .i64 m.cmd.node) ∧ w.cell? ⟨b, 12, none⟩ = some (.int .i64 m.cmd.mode) ∧ w.cell? ⟨b, 13, none⟩ = some (.string m.cmd.key) :=
  ⟨h.at 0, h.at 1, h.at 2, h.at 3, h.at 4, h.at 5, h.at 6, h.at 7, h.at 8, h.at 9, h.at 10, h.at 11, h.at 12, h.at 13⟩
theorem Box.ver {w : World} {b : Nat} {v : Vr} {T : TypeId} (h : Box w b (cv v) T) : VC w b 0 v := ⟨h.at 0, h.at 1, h.at 2, h.at 3, h.at 4, h.at 5⟩

/-! ### great -/
set_option maxRecDepth 100000 in
theorem great_no (m : Ms) (t : At) (w : World) (h1 : m.vers.length ≤ 6000) (h2 : m.vec.length ≤ 6000) :
    Calls Try.prog 12 #[.agg (cm m t)] w fun e w' => e = .returned (.bool false) ∧ Below w.heap.size w w' := by
  go_enter Try.func12, Try.ntmps12
  go_wp2
  go_ret
  exact ⟨ret_eq (congrArg Value.bool (by simp; omega)), (Below.refl _ _).alloc (Nat.le_refl _) _⟩
set_option maxRecDepth 100000 in
theorem great_yes (m : Ms) (t : At) (w : World) (h : 6000 < m.vers.length ∨ 6000 < m.vec.length) :
    Calls Try.prog 12 #[.agg (cm m t)] w fun e w' => e = .returned (.bool true) ∧ Below w.heap.size w w' := by
  by_cases h1 : 6000 < m.vers.length
  all_goals
    go_enter Try.func12, Try.ntmps12
    go_wp2
    all_goals
      go_ret
      refine ⟨?_, (Below.refl _ _).alloc (Nat.le_refl _) _⟩
      first | rfl | (exact ret_eq (congrArg Value.bool (by simp; omega)))

/-! ### Check, of the program -/
set_option maxRecDepth 100000 in
theorem checkVer_any (v : Vr) (w : World) :
    Calls Try.prog 33 #[.agg (cv v)] w fun e w' => e = .returned (.int .i64 (chkV v)) ∧ Below w.heap.size w w' := by
  have h : chkV v = if 16 < v.key.size ∨ 64 < v.val.size then 6 else if v.dc < 0 ∨ 3 < v.dc ∨ v.tx < 0 ∨ 1073741824 < v.tx then 1 else 0 := rfl
  generalize chkV v = r at *
  by_cases h1 : 16 < v.key.size ∨ 64 < v.val.size
  · rw [if_pos h1] at h
    subst h
    by_cases h2 : 16 < v.key.size
    all_goals
      go_enter Try.func33, Try.ntmps33
      go_wp2
      all_goals (try (exfalso; omega))
      all_goals
        go_ret
        exact ⟨rfl, (Below.refl _ _).alloc (Nat.le_refl _) _⟩
  · rw [if_neg h1] at h
    have a1 : v.key.size ≤ 16 := by omega
    have a2 : v.val.size ≤ 64 := by omega
    clear h1
    by_cases h3 : v.dc < 0 ∨ 3 < v.dc ∨ v.tx < 0 ∨ 1073741824 < v.tx
    · rw [if_pos h3] at h
      subst h
      by_cases h4 : v.dc < 0
      · clear h3
        go_enter Try.func33, Try.ntmps33
        go_wp2
        all_goals (try (exfalso; omega))
        all_goals
          go_ret
          exact ⟨rfl, (Below.refl _ _).alloc (Nat.le_refl _) _⟩
      · by_cases h5 : 3 < v.dc
        · clear h3
          go_enter Try.func33, Try.ntmps33
          go_wp2
          all_goals (try (exfalso; omega))
          all_goals
            go_ret
            exact ⟨rfl, (Below.refl _ _).alloc (Nat.le_refl _) _⟩
        · by_cases h6 : v.tx < 0
          · clear h3
            go_enter Try.func33, Try.ntmps33
            go_wp2
            all_goals (try (exfalso; omega))
            all_goals
              go_ret
              exact ⟨rfl, (Below.refl _ _).alloc (Nat.le_refl _) _⟩
          · have h7 : 1073741824 < v.tx := by omega
            clear h3
            go_enter Try.func33, Try.ntmps33
            go_wp2
            all_goals (try (exfalso; omega))
            all_goals
              go_ret
              exact ⟨rfl, (Below.refl _ _).alloc (Nat.le_refl _) _⟩
    · rw [if_neg h3] at h
      subst h
      have b1 : 0 ≤ v.dc := by omega
      have b2 : v.dc ≤ 3 := by omega
      have b3 : 0 ≤ v.tx := by omega
      have b4 : v.tx ≤ 1073741824 := by omega
      clear h3
      go_enter Try.func33, Try.ntmps33
      go_wp2
      all_goals (try (exfalso; omega))
      all_goals
        go_ret
        exact ⟨rfl, (Below.refl _ _).alloc (Nat.le_refl _) _⟩
end Go.Proofs.Ytkbhmeajgmecoaa.wirA
