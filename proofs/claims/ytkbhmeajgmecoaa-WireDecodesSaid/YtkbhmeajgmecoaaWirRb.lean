/- The document's reader in memory: what is left, the first fault; its small calls. -/
import Derived.Test.YtkbhmeajgmecoaaWirRa
import Derived.Test.YtkbhmeajgmecoaaWirDb
namespace Go.Proofs.Ytkbhmeajgmecoaa.wirRb
open Go.ChangeShapes Go.WideShapes Go.ChangeAt Go.RowKit Go.Deep
open numM rowA byt numA numB numC numN numD numE wirM wirL wirP wirQ wirR wirDa wirDb wirRa

def er (s : Except Nat (List Nat)) : Nat := match s with
  | .ok _ => 0
  | .error k => k
/-- the document's reader at block u -/
def SAt (w : World) (u : Nat) (s : Except Nat (List Nat)) : Prop :=
  ∃ A n c, w.rowIs u 61 2 (fun i => if i = 0 then .slice A n c else .int .i64 (er s)) ∧ (∀ k, s = .error k → k ≠ 0) ∧
    ∀ l, s = .ok l → n = l.length ∧ BL w A l.length l ∧ l.length ≤ c ∧ c ≤ 9223372036854775807 ∧ (l.length = 0 ∨ A = none ∨ ∃ b off, A = some ⟨b, off, none⟩ ∧ b < u)
theorem SAt.lt {w : World} {u : Nat} {s : Except Nat (List Nat)} (h : SAt w u s) : u < w.heap.size := by obtain ⟨A, n, c, h1, _⟩ := h; exact h1.lt
theorem SAt.keep {w w' : World} {u : Nat} {s : Except Nat (List Nat)} (h : SAt w u s) (hk : ∀ k, k ≤ u → w'.heap[k]? = w.heap[k]?) : SAt w' u s := by
  obtain ⟨A, n, c, h1, h2, h3⟩ := h
  have h9 := hk u (Nat.le_refl _)
  refine ⟨A, n, c, h1.of_block h9, h2, fun l hl => ?_⟩
  obtain ⟨g1, g2, g3, g4, g5⟩ := h3 l hl
  refine ⟨g1, ?_, g3, g4, g5⟩
  rcases g5 with h0 | g5
  · exact ⟨g2.1, g2.2.1, g2.2.2.1, .inl h0⟩
  refine ⟨g2.1, g2.2.1, g2.2.2.1, g2.2.2.2.imp id ?_⟩
  rintro ⟨b, off, rfl, hlt, hc⟩
  have hb : b < u := by
    rcases g5 with h5 | ⟨b', off', e, hb⟩
    · cases h5
    · cases e; exact hb
  have e : ∀ i, w'.cell? ⟨b, i, none⟩ = w.cell? ⟨b, i, none⟩ := fun i => World.cell?_of_block (a := ⟨b, i, none⟩) (hk b (by omega))
  refine ⟨b, off, rfl, ?_, fun i hi => by rw [e]; exact hc i hi⟩
  have := (h1.of_block h9).lt
  omega
theorem SAt.below {w w' : World} {u : Nat} {s : Except Nat (List Nat)} (h : SAt w u s) (hB : Below w.heap.size w w') : SAt w' u s := h.keep fun k hk => hB.block k (by have := h.lt; omega)
theorem SAt.put {w : World} {u : Nat} {s : Except Nat (List Nat)} (h : SAt w u s) {p : Addr} (hp : u < p.block) (v : Value) : SAt (w.setCell p v) u s := h.keep fun k hk => Below.heap_setCell w p v k (by omega)
theorem SAt.alloc {w : World} {u : Nat} {s : Except Nat (List Nat)} (h : SAt w u s) (o : Obj) : SAt (w.alloc o) u s := h.below ((Below.refl _ _).alloc (Nat.le_refl _) o)
theorem SAt.lt256 {w : World} {u : Nat} {s : Except Nat (List Nat)} (h : SAt w u s) : ∀ l, s = .ok l → ∀ c ∈ l, c < 256 := fun l hl => by obtain ⟨A, n, c, _, _, h2⟩ := h; exact (h2 l hl).2.1.2.2.1
theorem SAt.err {w : World} {u : Nat} {s : Except Nat (List Nat)} (h : SAt w u s) : w.cell? ⟨u, 1, none⟩ = some (.int .i64 (er s)) := by
  obtain ⟨A, n, c, h1, _⟩ := h
  exact h1.cell (i := 1) (by omega)
theorem SAt.frozen {w : World} {u : Nat} {s : Except Nat (List Nat)} (h : SAt w u s) (i : Nat) : w.frozen? ⟨u, i, none⟩ = false := by obtain ⟨A, n, c, h1, _⟩ := h; exact h1.frozen i
theorem SAt.nz {w : World} {u k : Nat} (h : SAt w u (.error k)) : k ≠ 0 := by obtain ⟨A, n, c, _, h2, _⟩ := h; exact h2 k rfl
/-- a fault is laid -/
theorem SAt.stop {w : World} {u : Nat} {l : List Nat} (h : SAt w u (.ok l)) {k : Nat} (hk : k ≠ 0) : SAt (w.setCell ⟨u, 1, none⟩ (.int .i64 k)) u (.error k) := by
  obtain ⟨A, n, c, h1, _⟩ := h
  refine ⟨A, n, c, (h1.set 1 (.int .i64 k)).congr (fun i hi => ?_), fun k' e => by cases e; exact hk, fun l' e => by cases e⟩
  have : i = 0 ∨ i = 1 := by omega
  rcases this with rfl | rfl <;> rfl
/-- what is left, cut -/
theorem SAt.open_ {w : World} {u : Nat} {l : List Nat} (h : SAt w u (.ok l)) : ∃ A c, w.cell? ⟨u, 0, none⟩ = some (.slice A l.length c) ∧ BL w A l.length l ∧ l.length ≤ c ∧ c ≤ 9223372036854775807 ∧
    ∀ k, k ≤ l.length → (c = k → SAt (w.setCell ⟨u, 0, none⟩ (.slice A (l.length - k) 0)) u (.ok (l.drop k))) ∧ SAt (w.setCell ⟨u, 0, none⟩ (.slice (A.map (fun x => x.add k)) (l.length - k) (c - k))) u (.ok (l.drop k)) := by
  obtain ⟨A, n, c, h1, -, h2⟩ := h
  obtain ⟨rfl, hb, hc, h9, h5⟩ := h2 l rfl
  refine ⟨A, c, h1.cell (i := 0) (by omega), hb, hc, h9, fun k hs => ?_⟩
  have hS : ∀ A' c', (l.length - k ≤ c' ∧ c' ≤ 9223372036854775807 ∧ BL w A' (l.length - k) (l.drop k) ∧ (l.length - k = 0 ∨ A' = none ∨ ∃ b off, A' = some ⟨b, off, none⟩ ∧ b < u)) → SAt (w.setCell ⟨u, 0, none⟩ (.slice A' (l.length - k) c')) u (.ok (l.drop k)) := by
    rintro A' c' ⟨g1, g2, g3, g4⟩
    have hg := Gr.set (u := u) w 0 (.slice A' (l.length - k) c')
    have hbl : BL (w.setCell ⟨u, 0, none⟩ (.slice A' (l.length - k) c')) A' (l.length - k) (l.drop k) := by
      rcases g4 with h0 | hB
      · exact ⟨g3.1, g3.2.1, g3.2.2.1, .inl h0⟩
      refine ⟨g3.1, g3.2.1, g3.2.2.1, g3.2.2.2.imp id ?_⟩
      rintro ⟨b, off, rfl, hlt, hc⟩
      have hb : b < u := by
        rcases hB with h5 | ⟨b', off', e, hb⟩
        · cases h5
        · cases e; exact hb
      refine ⟨b, off, rfl, by rw [World.size_setCell]; exact hlt, fun i hi => ?_⟩
      rw [World.cell?_of_block (a := ⟨b, off + i, none⟩) (hg.block b hlt (by omega))]
      exact hc i hi
    refine ⟨A', l.length - k, c', (h1.set 0 _).congr (fun i hi => ?_), (fun _ e => by cases e), fun l' e => ?_⟩
    · have : i = 0 ∨ i = 1 := by omega
      rcases this with rfl | rfl <;> rfl
    · cases e
      rw [List.length_drop]
      exact ⟨rfl, hbl, g1, g2, g4⟩
  constructor
  · rintro rfl
    exact hS A 0 ⟨by omega, by omega, by rw [show l.length - c = 0 by omega, List.drop_eq_nil_of_le (by omega)]; exact BL.none_ w A, .inl (by omega)⟩
  · refine hS _ _ ⟨by omega, by omega, ?_, ?_⟩
    · rcases h5 with h0 | rfl | ⟨b, off, rfl, hb'⟩
      · rw [show l.length - k = 0 by omega, List.drop_eq_nil_of_le (by omega)]; exact BL.none_ w _
      · have h0 : l.length = 0 := by
          rcases hb.2.2.2 with h0 | ⟨b, off, e, _⟩
          · exact h0
          · cases e
        rw [show l.length - k = 0 by omega, List.drop_eq_nil_of_le (by omega)]; exact BL.none_ w _
      · have := hb.drop k
        simpa [add_plain] using this
    · rcases h5 with h0 | rfl | ⟨b, off, rfl, hb'⟩
      · exact .inl (by omega)
      · exact .inr (.inl rfl)
      · exact .inr (.inr ⟨b, off + k, by simp [add_plain], hb'⟩)
/-- What a call of the reader's does: it answers what was read, or nought. -/
def Sd {α : Type} (u : Nat) (val : α → Value) (d : α) (w : World) (x : Except Nat (α × List Nat)) (e : Ending) (w' : World) : Prop :=
  e = .returned (val (vl d x)) ∧ SAt w' u (stt x) ∧ Gr u w w'
theorem sd_ok {α : Type} {u : Nat} {val : α → Value} {d : α} {w w' : World} {r : Except Nat (α × List Nat)} {x : α} {t : List Nat} (h : r = .ok (x, t)) (hs : SAt w' u (.ok t)) (hg : Gr u w w') : Sd u val d w r (.returned (val x)) w' := by subst h; exact ⟨rfl, hs, hg⟩
theorem sd_no {α : Type} {u : Nat} {val : α → Value} {d : α} {w w' : World} {r : Except Nat (α × List Nat)} {k : Nat} (h : r = .error k) (hs : SAt w' u (.error k)) (hg : Gr u w w') : Sd u val d w r (.returned (val d)) w' := by subst h; exact ⟨rfl, hs, hg⟩

/-! ### stop -/
theorem stop_s {u : Nat} {l : List Nat} (k : Nat) (w : World) (h : SAt w u (.ok l)) : Calls Try.prog 40 #[.pointer (some ⟨u, 0, none⟩), .int .i64 k] w fun e w' => e = .returned (.tuple #[]) ∧ w' = w.setCell ⟨u, 1, none⟩ (.int .i64 k) := by
  have h0 : w.cell? ⟨u, 1, none⟩ = some (.int .i64 0) := h.err
  have hf := h.frozen 1
  clear h
  go_enter Try.func40, Try.ntmps40
  go_wp2
  go_end0
  exact ⟨rfl, rfl⟩
def vU (n : Nat) : Value := .int .u64 n
def vS (s : ByteArray) : Value := .string s
def vN (n : Nat) : Value := .int .i64 n
set_option maxRecDepth 100000 in
theorem wide_s {u : Nat} {s : Except Nat (List Nat)} (k : Nat) (w : World) (h : SAt w u s) (h1 : 1 ≤ k) (h8 : k ≤ 8) : Calls Try.prog 39 #[.pointer (some ⟨u, 0, none⟩), .int .i64 k] w (Sd u vU 0 w (on s (rWide k))) := by
  have he := h.err
  cases s with
  | error j =>
    have hj : ((j : Int) != 0) = true := by rw [bne_iff_ne]; have := h.nz; omega
    replace he : w.cell? ⟨u, 1, none⟩ = some (.int .i64 j) := he
    have hE := Lib.hid (sd_no (val := vU) (d := 0) (r := on (.error j) (rWide k)) rfl h (Gr.refl _ _))
    clear h
    go_enter Try.func39, Try.ntmps39
    go_wp2
    go_ret
    exact hE.out
  | ok l =>
    replace he : w.cell? ⟨u, 1, none⟩ = some (.int .i64 0) := he
    have hf := h.frozen 0
    have hst := Lib.hid (fun (k : Nat) => stop_s k w h)
    have hSt := Lib.hid (fun (k : Nat) (hk : k ≠ 0) => h.stop (k := k) hk)
    obtain ⟨A, c, h0, hb, hc, h9, hcut⟩ := h.open_
    have ht := rtfixed_any A l.length c k l w hb
    have ev : tfv l k = if l.length < k then 0 else bv (l.take k) := by unfold tfv; rw [if_neg (by omega), Int.toNat_natCast]
    have ee : tfe l k = if l.length < k then 2 else 0 := by unfold tfe; rw [if_neg (by omega), Int.toNat_natCast]
    rw [ev, ee] at ht
    clear ev ee
    by_cases hs : l.length < k
    · rw [if_pos hs, if_pos hs] at ht
      replace ht := Lib.hid ht
      have hr : on (.ok l) (rWide k) = .error 2 := if_pos hs
      have hE := Lib.hid (sd_no (val := vU) (d := 0) hr (hSt.out 2 (by decide)) (Gr.set w 1 (.int .i64 (2 : Nat))))
      clear h hb hs hcut hr hSt
      generalize l.length = n at *
      go_enter Try.func39, Try.ntmps39
      go_wp2_with (fail)
      refine ht.out.mono ?_
      rintro e w' ⟨rfl, rfl⟩
      go_wp2_with (fail)
      refine (hst.out 2).mono ?_
      rintro e w' ⟨rfl, rfl⟩
      go_wp2
      go_ret
      exact hE.out
    · rw [if_neg hs, if_neg hs] at ht
      replace ht := Lib.hid ht
      have hr : on (.ok l) (rWide k) = .ok (bv (l.take k), l.drop k) := if_neg hs
      obtain ⟨hc1, hc2⟩ := hcut k (by omega)
      have hE1 := Lib.hid (fun q => sd_ok (val := vU) (d := 0) hr (hc1 q) (Gr.set w 0 _))
      have hE2 := Lib.hid (sd_ok (val := vU) (d := 0) hr hc2 (Gr.set w 0 _))
      clear h hb hcut hr hSt hst hc1 hc2
      generalize bv (l.take k) = N at *
      generalize l.length = n at *
      go_enter Try.func39, Try.ntmps39
      go_wp2_with (fail)
      refine ht.out.mono ?_
      rintro e w' ⟨rfl, rfl⟩
      go_wp2
      all_goals
        go_ret
        first
          | exact hE1.out (by assumption)
          | exact hE2.out
set_option maxRecDepth 100000 in
theorem short_s {u : Nat} {s : Except Nat (List Nat)} (w : World) (h : SAt w u s) : Calls Try.prog 91 #[.pointer (some ⟨u, 0, none⟩)] w (Sd u vU 0 w (on s rShort)) := by
  have he := h.err
  cases s with
  | error j =>
    have hj : ((j : Int) != 0) = true := by rw [bne_iff_ne]; have := h.nz; omega
    replace he : w.cell? ⟨u, 1, none⟩ = some (.int .i64 j) := he
    have hE := Lib.hid (sd_no (val := vU) (d := 0) (r := on (.error j) rShort) rfl h (Gr.refl _ _))
    clear h
    go_enter Try.func91, Try.ntmps91
    go_wp2
    go_ret
    exact hE.out
  | ok l =>
    replace he : w.cell? ⟨u, 1, none⟩ = some (.int .i64 0) := he
    have hf := h.frozen 0
    have hst := Lib.hid (fun (k : Nat) => stop_s k w h)
    have hSt := Lib.hid (fun (k : Nat) (hk : k ≠ 0) => h.stop (k := k) hk)
    obtain ⟨A, c, h0, hb, hc, h9, hcut⟩ := h.open_
    have ht := Lib.hid (rtuv_any A l.length c l w hb)
    by_cases hs : tke l = 0
    · obtain ⟨-, -, hnl, -⟩ := tk_yes hb.lt hs
      have hr : on (.ok l) rShort = .ok (tkv l, l.drop (tkn l)) := if_pos hs
      obtain ⟨hc1, hc2⟩ := hcut (tkn l) hnl
      have hE1 := Lib.hid (fun q => sd_ok (val := vU) (d := 0) hr (hc1 q) (Gr.set w 0 _))
      have hE2 := Lib.hid (sd_ok (val := vU) (d := 0) hr hc2 (Gr.set w 0 _))
      rw [hs] at ht
      clear h hb hcut hr hSt hst hc1 hc2 hs
      generalize tkv l = N at *
      generalize tkn l = k at *
      generalize l.length = n at *
      go_enter Try.func91, Try.ntmps91
      go_wp2_with (fail)
      refine ht.out.mono ?_
      rintro e w' ⟨rfl, rfl⟩
      go_wp2
      all_goals
        go_ret
        first
          | exact hE1.out (by assumption)
          | exact hE2.out
    · have hr : on (.ok l) rShort = .error (tke l) := if_neg hs
      have hne : ((tke l : Int) != 0) = true := by rw [bne_iff_ne]; omega
      have hE := Lib.hid (sd_no (val := vU) (d := 0) hr (hSt.out _ hs) (Gr.set w 1 _))
      replace hst := Lib.hid (hst.out (tke l))
      clear h hb hs hcut hr hSt
      generalize tkv l = N at *
      generalize tkn l = T at *
      generalize tke l = E at *
      generalize l.length = n at *
      go_enter Try.func91, Try.ntmps91
      go_wp2_with (fail)
      refine ht.out.mono ?_
      rintro e w' ⟨rfl, rfl⟩
      go_wp2_with (fail)
      refine hst.out.mono ?_
      rintro e w' ⟨rfl, rfl⟩
      go_wp2
      go_ret
      exact hE.out
set_option maxRecDepth 100000 in
theorem most_s {u : Nat} {s : Except Nat (List Nat)} (n lim k : Nat) (hk : k ≠ 0) (hl : lim ≤ 9223372036854775807) (w : World) (h : SAt w u s) : Calls Try.prog 76 #[.pointer (some ⟨u, 0, none⟩), .int .u64 n, .int .u64 lim, .int .i64 k] w (Sd u vN 0 w (on s (rMost n lim k))) := by
  have he := h.err
  cases s with
  | error j =>
    have hj : ((j : Int) != 0) = true := by rw [bne_iff_ne]; have := h.nz; omega
    replace he : w.cell? ⟨u, 1, none⟩ = some (.int .i64 j) := he
    have hE := Lib.hid (sd_no (val := vN) (d := 0) (r := on (.error j) (rMost n lim k)) rfl h (Gr.refl _ _))
    clear h
    go_enter Try.func76, Try.ntmps76
    go_wp2
    go_ret
    exact hE.out
  | ok l =>
    replace he : w.cell? ⟨u, 1, none⟩ = some (.int .i64 0) := he
    by_cases hs : lim < n
    · have hr : on (.ok l) (rMost n lim k) = .error k := by unfold on rMost R.seq R.no; simp [hs]
      have hst := Lib.hid (stop_s k w h)
      have hE := Lib.hid (sd_no (val := vN) (d := 0) hr (h.stop hk) (Gr.set w 1 _))
      clear h hr
      go_enter Try.func76, Try.ntmps76
      go_wp2_with (fail)
      refine hst.out.mono ?_
      rintro e w' ⟨rfl, rfl⟩
      go_wp2
      go_ret
      exact hE.out
    · have hr : on (.ok l) (rMost n lim k) = .ok (n, l) := by unfold on rMost R.seq R.no R.ret; simp [hs]
      have hw2 : IntKind.i64.wrap (n : Int) = n := IntWalk.i64_in _ ⟨by omega, by omega⟩
      have hE := Lib.hid (sd_ok (val := vN) (d := 0) hr h (Gr.refl _ _))
      clear h hr
      go_enter Try.func76, Try.ntmps76
      go_wp2
      go_ret
      exact hE.out
set_option maxRecDepth 100000 in
theorem bytes_s {u : Nat} {s : Except Nat (List Nat)} (k : Nat) (w : World) (h : SAt w u s) (h9' : k ≤ 9223372036854775807) : Calls Try.prog 92 #[.pointer (some ⟨u, 0, none⟩), .int .i64 k] w (Sd u vS ⟨#[]⟩ w (on s (rStr k))) := by
  have he := h.err
  cases s with
  | error j =>
    have hj : ((j : Int) != 0) = true := by rw [bne_iff_ne]; have := h.nz; omega
    replace he : w.cell? ⟨u, 1, none⟩ = some (.int .i64 j) := he
    have hE := Lib.hid (sd_no (val := vS) (d := ⟨#[]⟩) (r := on (.error j) (rStr k)) rfl h (Gr.refl _ _))
    clear h
    go_enter Try.func92, Try.ntmps92
    go_wp2
    go_ret
    exact hE.out
  | ok l =>
    replace he : w.cell? ⟨u, 1, none⟩ = some (.int .i64 0) := he
    have hf := h.frozen 0
    obtain ⟨A, c, h0, hb, hc, h9, hcut⟩ := h.open_
    by_cases hs : l.length < k
    · have hst := Lib.hid (stop_s 2 w h)
      have hr : on (.ok l) (rStr k) = .error 2 := if_pos hs
      have hE := Lib.hid (sd_no (val := vS) (d := ⟨#[]⟩) hr (h.stop (k := 2) (by decide)) (Gr.set w 1 _))
      clear h hb hcut hr
      generalize l.length = n at *
      go_enter Try.func92, Try.ntmps92
      go_wp2_with (fail)
      refine hst.out.mono ?_
      rintro e w' ⟨rfl, rfl⟩
      go_wp2
      go_ret
      exact hE.out
    · have hr : on (.ok l) (rStr k) = .ok (strOf (l.take k), l.drop k) := if_neg hs
      obtain ⟨hc1, hc2⟩ := hcut k (by omega)
      have hE1 := Lib.hid (fun q => sd_ok (val := vS) (d := ⟨#[]⟩) hr (hc1 q) (Gr.set w 0 _))
      have hE2 := Lib.hid (sd_ok (val := vS) (d := ⟨#[]⟩) hr hc2 (Gr.set w 0 _))
      have e1 := run_str (P := Try.prog) 31 5 9 Try.underlying31 Try.underlying5 Try.underlying9 c (hb.take k (by omega))
      clear h hb hcut hr hc1 hc2
      generalize strOf (l.take k) = N at *
      generalize l.length = n at *
      go_enter Try.func92, Try.ntmps92
      go_wp2
      all_goals
        go_ret
        first
          | exact hE1.out (by assumption)
          | exact hE2.out
end Go.Proofs.Ytkbhmeajgmecoaa.wirRb
