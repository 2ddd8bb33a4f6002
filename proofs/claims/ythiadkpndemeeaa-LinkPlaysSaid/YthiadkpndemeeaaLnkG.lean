/- The contracts of slices.Delete at rows of bytes from their head on, and of acknowledge. -/
import Derived.Test.YthiadkpndemeeaaLnkE
import Derived.Deep.Upon
import Derived.Lib.SliceRun
namespace Go.Proofs.Ythiadkpndemeeaa.lnkG
open Go.ChangeShapes Go.WideShapes Go.ChangeAt Go.RowKit Go.Deep
open numM rowA byt numA numB numC lnkA lnkB lnkC lnkD lnkE

/-! ### Rows by index -/
theorem rowIs_setCells {b : Nat} {t : TypeId} {n : Nat} : ∀ (vs : List Value) (o : Nat) (w : World) (f : Nat → Value), w.rowIs b t n f →
    (w.setCells b o vs).rowIs b t n (fun j => if o ≤ j ∧ j < o + vs.length then vs.getD (j - o) undef else f j)
  | [], o, w, f, h => h.congr fun i _ => by rw [if_neg (by simp)]
  | v :: r, o, w, f, h => by
    refine (rowIs_setCells r (o + 1) _ _ (h.set o v)).congr fun i _ => ?_
    by_cases h1 : i = o
    · subst h1
      rw [if_neg (by omega), if_pos rfl, if_pos (by simp)]
      simp
    · by_cases h2 : o ≤ i ∧ i < o + (v :: r).length
      · have h3 : o + 1 ≤ i ∧ i < o + 1 + r.length := by simp at h2; omega
        rw [if_pos h2, if_pos h3]
        obtain ⟨d, rfl⟩ : ∃ d, i = o + 1 + d := ⟨i - (o + 1), by omega⟩
        rw [show o + 1 + d - (o + 1) = d by omega, show o + 1 + d - o = d + 1 by omega]
        simp
      · have h3 : ¬ (o + 1 ≤ i ∧ i < o + 1 + r.length) := by simp at h2 ⊢; omega
        rw [if_neg h2, if_neg h3, if_neg h1]
theorem row_of_own {w : World} {base n cap g : Nat} {t : TypeId} {xs : List Value} (h : w.ownsRow base t 1 (.slice (some ⟨g, 0, none⟩) n cap) n xs) :
    ∃ f, w.rowIs g t cap f ∧ n ≤ cap ∧ cap ≤ maxLen ∧ ∀ i, i < n → xs[i]? = some (f i) := by
  rcases h.2 with ⟨e, _⟩ | ⟨g', cap', cur, e, h1, h2, h3, h4, h5, h6⟩
  · cases e
  · cases e
    refine ⟨fun i => cur.getD i undef, ⟨cur, h2, by omega, fun i hi => ?_⟩, h3, h4, fun i hi => ?_⟩
    · have : i < cur.size := by omega
      simp [this]
    · have : i < cur.size := by omega
      rw [← h6, List.getElem?_take_of_lt (by omega)]
      simp [this]
theorem own_of_row {w : World} {n cap g : Nat} {t : TypeId} {xs : List Value} {f : Nat → Value} (h : w.rowIs g t cap f) (hn : n ≤ cap) (hm : cap ≤ maxLen) (hl : xs.length = n) (hx : ∀ i, i < n → xs[i]? = some (f i)) :
    w.ownsRow 0 t 1 (.slice (some ⟨g, 0, none⟩) n cap) n xs := by
  obtain ⟨cs, h1, h2, h3⟩ := h
  refine ⟨by omega, .inr ⟨g, cap, cs, rfl, Nat.zero_le _, h1, hn, hm, by omega, ?_⟩⟩
  apply List.ext_getElem?
  intro i
  by_cases hi : i < n
  · rw [List.getElem?_take_of_lt (by omega), hx i hi, Array.getElem?_toList, h3 i (by omega)]
  · rw [List.getElem?_eq_none (by simp; omega), List.getElem?_eq_none (by omega)]
theorem tape_setCells (g : Nat) : ∀ (vs : List Value) (o : Nat) (w : World), (w.setCells g o vs).tape = w.tape ∧ (w.setCells g o vs).heap.size = w.heap.size
  | [], _, _ => ⟨rfl, rfl⟩
  | v :: r, o, w => by
    have h := tape_setCells g r (o + 1) (w.setCell ⟨g, o, none⟩ v)
    exact ⟨h.1.trans rfl, h.2.trans (World.size_setCell ..)⟩
theorem grown_setCells (w : World) (g o : Nat) (vs : List Value) : w.grownBy (w.setCells g o vs) (some g) :=
  ⟨World.os_setCells w g o vs, (tape_setCells g vs o w).1, World.output_setCells w g o vs, Nat.le_of_eq (tape_setCells g vs o w).2.symm, fun k hk hne => World.heap_setCells_other w g o vs hk (fun e => hne (by rw [e]))⟩

/-! ### Delete -/
/-- What Delete answers. -/
def Deld (g n cap k : Nat) (xs : List Value) (w : World) (e : Ending) (w' : World) : Prop :=
  e = .returned (.slice (some ⟨g, 0, none⟩) (n - k) cap) ∧ w'.ownsRow 0 29 1 (.slice (some ⟨g, 0, none⟩) (n - k) cap) (n - k) (xs.drop k) ∧ w.grownBy w' (some g)
set_option maxRecDepth 100000 in
set_option maxHeartbeats 1000000 in
theorem del_any (g n cap k : Nat) (xs : List Value) (w : World) (h : w.ownsRow 0 29 1 (.slice (some ⟨g, 0, none⟩) n cap) n xs) (h1 : ∀ u ∈ xs, u.oneCell' = true) (hk0 : 0 < k) (hk : k ≤ n) (hn : n ≤ 4096) :
    Calls Try.prog 35 #[.slice (some ⟨g, 0, none⟩) n cap, .int .i64 0, .int .i64 k] w (Deld g n cap k xs w) := by
  obtain ⟨f, hr, hnc, hcm, hx⟩ := row_of_own h
  obtain ⟨i0, hi0, hz0, hz1, hz2⟩ := info_parts info24
  have hxl : xs.length = n := by have := h.1; omega
  have hc9 : cap ≤ 9223372036854775807 := hcm
  have hnl : (xs.drop k).length = n - k := by rw [List.length_drop, hxl]
  have hnews : ∀ t, t < n - k → (xs.drop k)[t]? = some (f (k + t)) := by
    intro t ht
    rw [List.getElem?_drop, hx _ (by omega)]
  obtain ⟨A, hA, hsrc⟩ : ∃ A : Addr, (if cap = k then some (⟨g, 0, none⟩ : Addr) else some ⟨g, k, none⟩) = some A ∧ Hid (∀ t u, (xs.drop k)[t]? = some u → w.drew.cell? (A.add t) = some u) := by
    by_cases e : cap = k
    · refine ⟨⟨g, 0, none⟩, by simp [e], fun t u hu => ?_⟩
      have := (List.getElem?_eq_some_iff.1 hu).1
      omega
    · refine ⟨⟨g, k, none⟩, by simp [e], fun t u hu => ?_⟩
      have ht := (List.getElem?_eq_some_iff.1 hu).1
      rw [hnews t (by omega)] at hu
      rw [add_plain, ← hu]
      exact hr.cell (i := k + t) (by omega)
  have s1 : Hid ((xs.drop k).length = (n - k) * 1) := by rw [Nat.mul_one]; exact hnl
  have s2 : Hid (∀ u ∈ xs.drop k, u.oneCell' = true) := fun u hu => h1 u (List.mem_of_mem_drop hu)
  have s3 : Hid (∀ t, t < (xs.drop k).length → (w.drew.cell? ⟨g, 0 + 0 * 1 + t, none⟩).isSome = true ∧ w.drew.frozen? ⟨g, 0 + 0 * 1 + t, none⟩ = false) := by
    intro t ht
    rw [Nat.zero_mul, Nat.zero_add]
    have := hr.cell (i := t) (by omega)
    exact ⟨by show (w.cell? _).isSome = true; rw [this]; rfl, hr.frozen t⟩
  obtain ⟨W1, hW1⟩ : ∃ W1, W1 = w.drew.setCells g (0 + 0 * 1) (xs.drop k) := ⟨_, rfl⟩
  have hr1 : W1.rowIs g 29 cap (fun j => if 0 ≤ j ∧ j < 0 + (xs.drop k).length then (xs.drop k).getD (j - 0) undef else f j) := by rw [hW1]; exact rowIs_setCells _ _ _ _ hr
  have hcl : ∀ ty, (Builtin.clear_ #[25] ty #[.slice (some ⟨g, n - k, none⟩) (n - (n - k)) (cap - (n - k))]).run Try.prog W1 = .ok (.tuple #[]) (W1.setCells g (n - k) (List.replicate (n - (n - k)) (.slice none 0 0))) :=
    fun ty => Lib.run_clear_slice W1 25 29 ty (.slice none 0 0) Try.underlying25 (fun w => by kernel_rfl) rfl rfl g (n - k) _ _ (by omega) (fun t ht => by rw [hr1.cell (i := n - k + t) (by omega)]; rfl) (fun t ht => hr1.frozen _)
  have hfin : Hid (Deld g n cap k xs w (.returned (.slice (some ⟨g, 0, none⟩) (n - k) cap)) (W1.setCells g (n - k) (List.replicate (n - (n - k)) (.slice none 0 0)))) := by
    refine ⟨rfl, own_of_row (rowIs_setCells _ _ _ _ hr1) (by omega) hcm hnl (fun i hi => ?_), ?_⟩
    · rw [if_neg (by omega), if_pos (by omega), hnews i hi]
      simp [List.getD, hnews i hi]
    · have g1 : w.grownBy W1 (some g) := by
        rw [hW1]
        have := grown_setCells w.drew g (0 + 0 * 1) (xs.drop k)
        exact ⟨this.os, this.tape, this.output, this.size, this.block⟩
      exact g1.trans (grown_setCells W1 g _ _)
  have hW : Hid (W1 = w.drew.setCells g (0 + 0 * 1) (xs.drop k)) := hW1
  have hkc : k ≤ cap := by omega
  clear hW1 hr1 hr hnews hnl hx h h1 hxl hcm
  go_enter Try.func35, Try.ntmps35
  go_wp2_with fail
  go_region_law (refine step_append_room rfl (.tmp 22) (.tmp 25) 25 rfl 29 i0 1 Try.underlying25 hi0 hz1 g 0 0 cap (by simp [Act.eval, Act.put]) A (n - k) (cap - k) (xs.drop k) (by simp [Act.eval, Act.put]) s1.out hsrc.out s2.out (by omega) s3.out ?_; rw [← hW.out])
  go_wp2
  go_ret
  exact hfin.out

/-! ### acknowledge -/
def ackS (s : St) (a : Int) : St := if a ≤ s.acked then s else { s with acked := a.toNat, wait := s.wait.drop (a.toNat - s.acked) }
theorem ok_ack {s : St} (h : s.ok) (a : Int) (ha : a ≤ s.acked + s.wait.length) : (ackS s a).ok := by
  unfold ackS
  by_cases e : a ≤ s.acked
  · rw [if_pos e]; exact h
  · rw [if_neg e]
    exact
      { cnt := h.cnt
        sent := by have := h.sent; simp only [List.length_drop]; omega
        got := h.got
        wait := by have := h.wait; simp only [List.length_drop]; omega
        body := fun x hx => h.body x (List.mem_of_mem_drop hx)
        ear := h.ear }
/-- An end behind Delete and its two stores. -/
theorem end_acked {col : Nat → Nat} {c : Nat} {w w2 : World} {p g cap k : Nat} {s : St} {m : Nat} {xs : List Value} {n : Nat} {D : DataW Value} (h : EndIs col c w p s (.slice (some ⟨g, 0, none⟩) s.wait.length cap) m xs n D) (hc : c ≠ 0) (hk : k ≤ s.wait.length)
    (ho : w2.ownsRow 0 29 1 (.slice (some ⟨g, 0, none⟩) (s.wait.length - k) cap) (s.wait.length - k) (xs.drop k)) (hg : w.grownBy w2 (some g)) :
    Chg col c w ((w2.setCell ⟨p, 2, none⟩ (.slice (some ⟨g, 0, none⟩) (s.wait.length - k) cap)).setCell ⟨p, 1, none⟩ (.int .i64 ((s.acked + k : Nat) : Int))) ∧
    EndIs col c ((w2.setCell ⟨p, 2, none⟩ (.slice (some ⟨g, 0, none⟩) (s.wait.length - k) cap)).setCell ⟨p, 1, none⟩ (.int .i64 ((s.acked + k : Nat) : Int))) p { s with acked := s.acked + k, wait := s.wait.drop k } (.slice (some ⟨g, 0, none⟩) (s.wait.length - k) cap) m (xs.drop k) n D := by
  have hpv : some p ≠ some g := fun e => row_apart h.row h.own (by decide) e.symm
  have hr2 : w2.rowIs p 64 5 (cE s (.slice (some ⟨g, 0, none⟩) s.wait.length cap) m) := h.row.of_block (hg.block p h.row.lt hpv)
  have hm2 := map_block h.map (hg.block m h.mlt (map_own h.map h.own))
  have hmp := map_row hm2 hr2
  have hgp : g ≠ p := fun e => hpv (by rw [e])
  have hch : Chg col c w ((w2.setCell ⟨p, 2, none⟩ (.slice (some ⟨g, 0, none⟩) (s.wait.length - k) cap)).setCell ⟨p, 1, none⟩ (.int .i64 ((s.acked + k : Nat) : Int))) :=
    ((Chg.grown hg (fun k e => by cases e; exact h.cv g rfl)).setCell h.cp _).setCell h.cp _
  refine ⟨hch, ?_⟩
  exact
    { row := ((hr2.set 2 _).set 1 _).congr (fun i hi => by
        have : i = 0 ∨ i = 1 ∨ i = 2 ∨ i = 3 ∨ i = 4 := by omega
        rcases this with rfl | rfl | rfl | rfl | rfl <;> rfl)
      own := by
        show World.ownsRow _ 0 29 1 _ (s.wait.drop k).length _
        rw [List.length_drop]
        exact own_block ho (fun k' e => by
          cases e
          rw [Below.heap_setCell _ _ _ _ hgp, Below.heap_setCell _ _ _ _ hgp])
      dat := (h.dat.drop k).go hch hc (Ext.refl _ _)
      map := map_block hm2 (by rw [Below.heap_setCell _ _ _ _ hmp, Below.heap_setCell _ _ _ _ hmp])
      nle := h.nle
      ear := h.ear.go hch hc (Ext.refl _ _)
      cp := h.cp
      cm := h.cm
      cv := h.cv
      ok := by
        have h1 := ok_ack h.ok ((s.acked + k : Nat) : Int) (by omega)
        unfold ackS at h1
        by_cases e : k = 0
        · subst e; exact h.ok
        · rw [if_neg (by omega)] at h1
          rw [show (((s.acked + k : Nat) : Int).toNat) = s.acked + k by omega, show s.acked + k - s.acked = k by omega] at h1
          exact h1 }
def Ackd (col : Nat → Nat) (c p : Nat) (s : St) (a : Int) (w : World) (e : Ending) (w' : World) : Prop := e = .returned (.tuple #[]) ∧ Chg col c w w' ∧ EndAt col c w' p (ackS s a)
theorem undrewG {w w' : World} {x : Option Nat} (h : w.drew.grownBy w' x) : w.grownBy w' x := ⟨h.os, h.tape, h.output, h.size, h.block⟩
theorem far2 {w : World} {p : Nat} {s : St} {v : Value} {m : Nat} (h : w.rowIs p 64 5 (cE s v m)) : w.cell? ⟨p, 2, none⟩ = some v ∧ w.frozen? ⟨p, 2, none⟩ = false := ⟨h.cell (i := 2) (by omega), h.frozen 2⟩
theorem far1 {w : World} {p : Nat} {s : St} {v : Value} {m : Nat} (h : w.rowIs p 64 5 (cE s v m)) (x : Value) : (w.setCell ⟨p, 2, none⟩ x).cell? ⟨p, 1, none⟩ = some (.int .i64 s.acked) ∧ (w.setCell ⟨p, 2, none⟩ x).frozen? ⟨p, 1, none⟩ = false := ⟨(h.set 2 x).cell (i := 1) (by omega), (h.set 2 x).frozen 1⟩
set_option maxRecDepth 100000 in
set_option maxHeartbeats 1000000 in
theorem ack_any {col : Nat → Nat} {c p : Nat} {s : St} (a : Int) (w : World) (h : EndAt col c w p s) (hc : c ≠ 0) (ha0 : 0 ≤ a) (ha : a ≤ s.acked + s.wait.length) :
    Calls Try.prog 29 #[.pointer (some ⟨p, 0, none⟩), .int .i64 a] w (Ackd col c p s a w) := by
  obtain ⟨v, m, xs, n, D, hI⟩ := h
  obtain ⟨h0, h1, h2, h3, h4⟩ := hI.cells
  have hac : s.acked ≤ 1000000 := by have := hI.ok.sent; have := hI.ok.cnt; omega
  by_cases hle : a ≤ s.acked
  · have hS : Hid (Ackd col c p s a w (.returned (.tuple #[])) w) := Lib.hid ⟨rfl, Chg.refl _ _ _, by unfold ackS; rw [if_pos hle]; exact ⟨v, m, xs, n, D, hI⟩⟩
    clear hI h0 h2 h3 h4 ha
    generalize s.acked = q at *
    go_enter Try.func29, Try.ntmps29
    go_wp2
    go_end0
    exact hS.out
  · obtain ⟨k, hka⟩ : ∃ k : Nat, a = ((s.acked + k : Nat) : Int) := ⟨(a - s.acked).toNat, by omega⟩
    have hk0 : 0 < k := by omega
    have hkn : k ≤ s.wait.length := by omega
    have hwn := hI.ok.wait
    obtain ⟨g, cap, rfl⟩ : ∃ g cap, v = .slice (some ⟨g, 0, none⟩) s.wait.length cap := by
      rcases hI.own.2 with ⟨_, e⟩ | ⟨g, cap, cur, rfl, _⟩
      · omega
      · exact ⟨g, cap, rfl⟩
    have hdel := Lib.hid (del_any g s.wait.length cap k xs w.drew hI.own (Dats.one hI.dat) hk0 hkn hwn)
    have hS : Hid (∀ w2, w2.ownsRow 0 29 1 (.slice (some ⟨g, 0, none⟩) (s.wait.length - k) cap) (s.wait.length - k) (xs.drop k) → w.grownBy w2 (some g) →
        Ackd col c p s a w (.returned (.tuple #[])) ((w2.setCell ⟨p, 2, none⟩ (.slice (some ⟨g, 0, none⟩) (s.wait.length - k) cap)).setCell ⟨p, 1, none⟩ (.int .i64 a))) := by
      intro w2 q1 q2
      have q3 := end_acked hI hc hkn q1 q2
      rw [hka]
      refine ⟨rfl, q3.1, ?_⟩
      unfold ackS
      rw [if_neg (by omega), show (((s.acked + k : Nat) : Int).toNat) = s.acked + k by omega, show s.acked + k - s.acked = k by omega]
      exact ⟨_, _, _, _, _, q3.2⟩
    have hfar : Hid (∀ w2, w.grownBy w2 (some g) → w2.rowIs p 64 5 (cE s (.slice (some ⟨g, 0, none⟩) s.wait.length cap) m)) := by
      intro w2 q2
      exact hI.row.of_block (q2.block p hI.row.lt (fun e => row_apart hI.row hI.own (by decide) e.symm))
    have e1 := wrap_in (a - s.acked) (by omega) (by omega)
    rw [show a - (s.acked : Int) = (k : Int) by omega] at e1
    have e2 : IntKind.i64.wrap (a - s.acked) = (k : Int) := by rw [show a - (s.acked : Int) = (k : Int) by omega]; exact e1
    clear e1 hka hI h0 h3 h4 ha hk0 hkn hwn
    generalize s.wait.length = n9 at *
    generalize hq : s.acked = q at *
    replace hq := Lib.hid hq
    replace e2 := Lib.hid e2
    go_enter Try.func29, Try.ntmps29
    go_wp2
    have e3 := e2.out
    go_region_law (go_simp; go_at_call 35; (with_reducible refine (hdel.out).mono ?_); rintro e w2 ⟨rfl, ho2, hg2⟩; have ho2' := Lib.hid ho2; have hg2' := Lib.hid (undrewG hg2); obtain ⟨q1, q2⟩ := far2 (hfar.out _ (undrewG hg2)); clear ho2 hg2)
    all_goals
      clear q1 q2 h1 h2
      obtain ⟨q1, q2⟩ := far1 (hfar.out _ hg2'.out) (.slice (some ⟨g, 0, none⟩) (n9 - k) cap)
      clear e3
      go_wp2
      go_end0
      exact hS.out _ ho2'.out hg2'.out
end Go.Proofs.Ythiadkpndemeeaa.lnkG
