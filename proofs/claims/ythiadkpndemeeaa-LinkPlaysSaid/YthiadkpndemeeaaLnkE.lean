/- The contract of Send. -/
import Derived.Test.YthiadkpndemeeaaLnkD
import Derived.Deep.AppendLies
import Derived.Deep.RegionLaw
namespace Go.Proofs.Ythiadkpndemeeaa.lnkE
open Go.ChangeShapes Go.WideShapes Go.ChangeAt Go.RowKit Go.Deep
open numM rowA byt numA numB numC lnkA lnkB lnkC lnkD

def Fresh (col : Nat → Nat) (w : World) : Prop := ∀ k, w.heap.size ≤ k → col k = 0
theorem Fresh.size {col : Nat → Nat} {w w1 : World} (h : Fresh col w) (hs : w.heap.size ≤ w1.heap.size) : Fresh col w1 := fun k hk => h k (by omega)
theorem Fresh.below {col : Nat → Nat} {w w1 : World} (h : Fresh col w) (hB : Below w.heap.size w w1) : Fresh col w1 := h.size hB.size
/-- A block has one type. -/
theorem row_apart {w : World} {p n k base sz : Nat} {t e : TypeId} {f : Nat → Value} {v : Value} {xs : List Value} (h : w.rowIs p t n f) (ho : w.ownsRow base e sz v k xs) (hne : t ≠ e) : v.ownBlock ≠ some p := by
  obtain ⟨c, hc, -, -⟩ := h
  rcases ho.2 with ⟨rfl, _⟩ | ⟨g, cap, cur, rfl, _, hg, _⟩
  · intro e; cases e
  · intro e1
    have e2 : g = p := by simpa [Value.ownBlock] using e1
    subst e2
    rw [hc] at hg
    simp at hg
    exact hne hg.2
theorem map_row {H : Type} {w : World} {P : Program} {K : TypeId} {R : Value → Option (DataW H × List MemPlace)} {m n k p : Nat} {D : DataW H} {t : TypeId} {f : Nat → Value} (hm : w.ownsMap P K R m n D) (h : w.rowIs p t k f) : m ≠ p := by
  obtain ⟨c, hc, -, -⟩ := h
  obtain ⟨es, clock, hb, -⟩ := hm
  rintro rfl
  rw [hc] at hb
  cases hb
theorem map_own {H : Type} {w : World} {P : Program} {K : TypeId} {R : Value → Option (DataW H × List MemPlace)} {m n k base sz : Nat} {D : DataW H} {e : TypeId} {v : Value} {xs : List Value} (hm : w.ownsMap P K R m n D) (ho : w.ownsRow base e sz v k xs) : some m ≠ v.ownBlock := by
  obtain ⟨es, clock, hb, -⟩ := hm
  rcases ho.2 with ⟨rfl, _⟩ | ⟨g, cap, cur, rfl, _, hg, _⟩
  · intro e; cases e
  · intro e1
    have e2 : m = g := by simpa [Value.ownBlock] using e1
    subst e2
    rw [hb] at hg
    cases hg

def sendE (s : St) (l : List Nat) : Nat := if 1048576 < l.length then 6 else if 4096 ≤ s.wait.length then 9 else 0
def stPut (s : St) (l : List Nat) : St := { s with wait := s.wait ++ [l], cnt := s.cnt + 1 }
def sendS (s : St) (l : List Nat) : St := if 1048576 < l.length then s else if 4096 ≤ s.wait.length then s else stPut s l
/-- What Send answers. -/
def Sent (col : Nat → Nat) (c p : Nat) (s : St) (l : List Nat) (w : World) (e : Ending) (w' : World) : Prop :=
  e = .returned (.int .i64 (sendE s l)) ∧ ∃ col', Ext w col col' ∧ Fresh col' w' ∧ Chg col c w w' ∧ EndAt col' c w' p (sendS s l)
theorem ok_put {s : St} (h : s.ok) (hc : s.cnt < 1000000) (hw : s.wait.length < 4096) {l : List Nat} (hl : l.length ≤ 1048576) : (stPut s l).ok where
  cnt := by show s.cnt + 1 ≤ _; omega
  sent := by have := h.sent; simp [stPut]; omega
  got := by have := h.got; simp [stPut]; omega
  wait := by simp [stPut]; omega
  body := fun x hx => by
    simp only [stPut, List.mem_append, List.mem_singleton] at hx
    rcases hx with hx | rfl
    · exact h.body x hx
    · exact hl
  ear := h.ear
theorem Dats.map {c1 c2 : Nat → Nat} {w1 w2 : World} (f : ∀ v l, Dat c1 w1 v l → Dat c2 w2 v l) : ∀ {vs : List Value} {ls : List (List Nat)}, Dats c1 w1 vs ls → Dats c2 w2 vs ls
  | [], [], _ => trivial
  | _ :: _, _ :: _, h => ⟨f _ _ h.1, Dats.map f h.2⟩
  | [], _ :: _, h => h.elim
  | _ :: _, [], h => h.elim
theorem end_sent {col : Nat → Nat} {c : Nat} {w w1 w4 : World} {p : Nat} {s : St} {v : Value} {m : Nat} {xs : List Value} {n : Nat} {D : DataW Value} (h : EndIs col c w p s v m xs n D) (hc : c ≠ 0) (hf : Fresh col w) {l : List Nat} {A : Option Addr} {cap : Nat}
    (hB : Below w.heap.size w w1) (ho : Own w1 w.heap.size (.slice A l.length cap) l.length l) {v' : Value} (hrow : w4.ownsRow 0 29 1 v' (s.wait.length + 1) (xs ++ [.slice A l.length cap]))
    (hg : (w1.alloc (.cells #[.slice A l.length cap] 29)).grownBy w4 v.ownBlock) (hat : v'.ownBlock = v.ownBlock ∨ v'.ownBlock = some (w1.heap.size + 1)) (hcn : s.cnt < 1000000) (hw : s.wait.length < 4096) (hl : l.length ≤ 1048576) :
    ∃ col', Ext w col col' ∧ Fresh col' (w4.setCell ⟨p, 2, none⟩ v') ∧ Chg col c w (w4.setCell ⟨p, 2, none⟩ v') ∧ EndAt col' c (w4.setCell ⟨p, 2, none⟩ v') p (stPut s l) := by
  have hB2 : Below w.heap.size w (w1.alloc (.cells #[.slice A l.length cap] 29)) := trans0 hB (al0 _ _)
  have h2 := h.below hB2
  have hpv : v.ownBlock ≠ some p := row_apart h2.row h2.own (by decide)
  have hmv := map_own h2.map h2.own
  have hr4 : w4.rowIs p 64 5 (cE s v m) := h2.row.of_block (hg.block p h2.row.lt (fun e => hpv e.symm))
  have hm4 := map_block h2.map (hg.block m h2.mlt hmv)
  have hpv' : v'.ownBlock ≠ some p := row_apart hr4 hrow (by decide)
  have hmp : m ≠ p := map_row hm4 hr4
  have hs1 : (w1.alloc (.cells #[.slice A l.length cap] 29)).heap.size = w1.heap.size + 1 := by simp
  have hs4 := hg.size
  have hsz := hB.size
  have hplt := h.row.lt
  have hmlt := h.mlt
  have hnew : ∀ k, v'.ownBlock = some k → k < w.heap.size → col k = c := by
    intro k e hk
    rcases hat with h1 | h1
    · rw [h1] at e; exact h.cv k e
    · rw [h1] at e; cases e; omega
  have hext : Ext w col (fun k => if v'.ownBlock = some k then c else col k) := by
    intro k hk
    show (if v'.ownBlock = some k then c else col k) = col k
    by_cases e : v'.ownBlock = some k
    · rw [if_pos e]; exact (hnew k e hk).symm
    · rw [if_neg e]
  have hv'lt := fun k (e : v'.ownBlock = some k) => (hrow.lt k e).2
  have hchg1 : Chg col c w w1 := Chg.of_below _ _ hB
  have hchg4 : Chg col c w w4 := ((Chg.of_below _ _ hB2).tran (Chg.grown hg h.cv))
  have hchg : Chg col c w (w4.setCell ⟨p, 2, none⟩ v') := hchg4.setCell h.cp v'
  -- what bytes there are stay: their blocks are neither p nor the row
  have hkeep : ∀ {u : Value} {x : List Nat}, Dat col w u x → Dat (fun k => if v'.ownBlock = some k then c else col k) (w4.setCell ⟨p, 2, none⟩ v') u x := fun hd => by
    obtain ⟨B, cB, rfl, hb, hy⟩ := hd
    rcases hy with h0 | hy
    · exact ⟨B, cB, rfl, ⟨hb.1, hb.2.1, hb.2.2.1, .inl h0⟩, .inl h0⟩
    refine ⟨B, cB, rfl, ⟨hb.1, hb.2.1, hb.2.2.1, hb.2.2.2.imp id ?_⟩, .inr fun y e => ?_⟩
    · rintro ⟨b, off, rfl, hlt, hcell⟩
      have h0 := (hy _ rfl).1
      refine ⟨b, off, rfl, by have := hchg.size; omega, fun i hi => ?_⟩
      rw [World.cell?_of_block (hchg.block b hlt (by rw [h0]; exact fun e => hc e.symm))]
      exact hcell i hi
    · have h1 := hy y e
      exact ⟨by rw [hext _ h1.2]; exact h1.1, by have := hchg.size; omega⟩
  have hdnew : Dat (fun k => if v'.ownBlock = some k then c else col k) (w4.setCell ⟨p, 2, none⟩ v') (.slice A l.length cap) l := by
    have hd := Dat.of_makes ho hf
    obtain ⟨B, cB, e0, hb, hy⟩ := hd
    cases e0
    rcases hy with h0 | hy
    · exact ⟨A, cap, rfl, ⟨hb.1, hb.2.1, hb.2.2.1, .inl h0⟩, .inl h0⟩
    have hbk : ∀ y, A = some y → (w4.setCell ⟨p, 2, none⟩ v').heap[y.block]? = w1.heap[y.block]? ∧ w.heap.size ≤ y.block := fun y e => by
      subst e
      have hlt := (hy y rfl).2
      obtain ⟨A', cap', e0, _, _, _, hya, _⟩ := ho.form
      cases e0
      obtain ⟨g, rfl⟩ := hya _ rfl
      have hge : w.heap.size ≤ g := (ho.2.2.2.lt g rfl).1
      refine ⟨?_, hge⟩
      rw [Below.heap_setCell _ _ _ _ (by simp; omega)]
      refine (hg.block g (by rw [hs1]; simp at hlt; omega) ?_).trans (Below.heap_alloc _ _ _ hlt)
      intro e
      have := (h.own.lt g e.symm).2
      omega
    refine ⟨A, cap, rfl, ⟨hb.1, hb.2.1, hb.2.2.1, hb.2.2.2.imp id ?_⟩, .inr fun y e => ?_⟩
    · rintro ⟨b, off, rfl, hlt, hcell⟩
      refine ⟨b, off, rfl, by rw [World.size_setCell]; omega, fun i hi => ?_⟩
      rw [World.cell?_of_block (a := ⟨b, off + i, none⟩) (hbk _ rfl).1]
      exact hcell i hi
    · have h1 := hy y e
      have h2' := (hbk y e).2
      refine ⟨?_, by rw [World.size_setCell]; omega⟩
      show (if v'.ownBlock = some y.block then c else col y.block) = 0
      rw [if_neg ?_]
      · exact h1.1
      · intro e2
        rcases hat with h3 | h3
        · rw [h3] at e2; have := (h.own.lt _ e2).2; omega
        · rw [h3] at e2; have := Option.some.inj e2; have := h1.2; omega
  refine ⟨_, hext, fun k hk => ?_, hchg, v', m, xs ++ [.slice A l.length cap], n, D, ?_⟩
  · rw [World.size_setCell] at hk
    show (if v'.ownBlock = some k then c else col k) = 0
    rw [if_neg (fun e => by have := hv'lt k e; omega)]
    exact hf k (by omega)
  · exact
      { row := (hr4.set 2 v').congr (fun i hi => by
          have : i = 0 ∨ i = 1 ∨ i = 2 ∨ i = 3 ∨ i = 4 := by omega
          rcases this with rfl | rfl | rfl | rfl | rfl <;> rfl)
        own := by
          rw [show (stPut s l).wait.length = s.wait.length + 1 by simp [stPut]]
          exact own_block hrow (fun k e => Below.heap_setCell _ _ _ _ (by rintro rfl; exact hpv' e))
        dat := (Dats.map (fun _ _ hd => hkeep hd) h.dat).snoc hdnew
        map := map_block hm4 (Below.heap_setCell _ _ _ _ hmp)
        nle := by have := h.nle; simp [stPut]; omega
        ear := fun k => ⟨(h.ear k).1, fun x e => by
          obtain ⟨u, h1, h2⟩ := (h.ear k).2 x e
          exact ⟨u, h1, hkeep h2⟩⟩
        cp := (hext p hplt).trans h.cp
        cm := (hext m hmlt).trans h.cm
        cv := fun k e => if_pos e
        ok := ok_put h.ok hcn hw hl }
theorem info24 : (Try.prog.info? 29).map (fun i => (i.zero, i.size, i.bytes)) = some (some (.slice none 0 0), 1, 24) := by kernel_rfl
theorem se_grown {p : Nat} {s : St} {v : Value} {m : Nat} {w w1 : World} {x : Option Nat} (h : SE p s v m w) (hg : w.grownBy w1 x) (hx : some p ≠ x) : SE p s v m w1 := by
  have hlt := World.block_lt_of_cell? _ _ h.1
  have e : ∀ i, w1.cell? ⟨p, i, none⟩ = w.cell? ⟨p, i, none⟩ := fun i => World.cell?_of_block (hg.block p hlt hx)
  unfold SE
  rw [e, e, e, e, e]; exact h
theorem undrew {w w' : World} (h : Below w.drew.heap.size w.drew w') : Below w.heap.size w w' := ⟨h.os, h.tape, h.output, h.size, h.block⟩
theorem end_far {col : Nat → Nat} {c : Nat} {w w2 w9 : World} {p : Nat} {s : St} {v : Value} {m : Nat} {xs : List Value} {n : Nat} {D : DataW Value} (h : EndIs col c w p s v m xs n D) (hB : Below w.heap.size w w2) (hg : w2.grownBy w9 v.ownBlock) :
    w9.cell? ⟨p, 2, none⟩ = some v ∧ w9.frozen? ⟨p, 2, none⟩ = false := by
  have h2 := h.below hB
  have hr : w9.rowIs p 64 5 (cE s v m) := h2.row.of_block (hg.block p h2.row.lt (fun e => row_apart h2.row h2.own (by decide) e.symm))
  exact ⟨hr.cell (i := 2) (by omega), hr.frozen 2⟩
set_option maxRecDepth 100000 in
set_option maxHeartbeats 1000000 in
theorem send_any {col : Nat → Nat} {c p : Nat} {s : St} (A : Option Addr) (cap : Nat) (l : List Nat) (w : World) (h : EndAt col c w p s) (hb : BL w A l.length l) (hc : c ≠ 0) (hf : Fresh col w) (hcn : s.cnt < 1000000) :
    Calls Try.prog 12 #[.pointer (some ⟨p, 0, none⟩), .slice A l.length cap] w (Sent col c p s l w) := by
  obtain ⟨v, m, xs, n, D, hI⟩ := h
  obtain ⟨h0, h1, h2, h3, h4⟩ := hI.cells
  have hll := hb.2.1
  by_cases hlong : 1048576 < l.length
  · have hS : Sent col c p s l w (.returned (.int .i64 6)) w := ⟨by unfold sendE; rw [if_pos hlong]; rfl, col, Ext.refl _ _, hf, Chg.refl _ _ _, by unfold sendS; rw [if_pos hlong]; exact ⟨v, m, xs, n, D, hI⟩⟩
    replace hS := Lib.hid hS
    clear hI hb h0 h1 h2 h3 h4
    go_enter Try.func12, Try.ntmps12
    go_wp2
    go_ret
    exact hS.out
  · by_cases hfull : 4096 ≤ s.wait.length
    · have hS : Sent col c p s l w (.returned (.int .i64 9)) w := ⟨by unfold sendE; rw [if_neg hlong, if_pos hfull]; rfl, col, Ext.refl _ _, hf, Chg.refl _ _ _, by unfold sendS; rw [if_neg hlong, if_pos hfull]; exact ⟨v, m, xs, n, D, hI⟩⟩
      replace hS := Lib.hid hS
      obtain ⟨A0, c0, rfl, -, -⟩ := own_form hI.own
      have hw9 := hI.ok.wait
      clear hI hb h0 h1 h3 h4
      generalize s.wait.length = k at *
      go_enter Try.func12, Try.ntmps12
      go_wp2
      go_ret
      exact hS.out
    · have hS : ∀ w5 v', (∃ col', Ext w col col' ∧ Fresh col' (World.setCell w5 ⟨p, 2, none⟩ v') ∧ Chg col c w (w5.setCell ⟨p, 2, none⟩ v') ∧ EndAt col' c (w5.setCell ⟨p, 2, none⟩ v') p (stPut s l)) → Sent col c p s l w (.returned (.int .i64 0)) (w5.setCell ⟨p, 2, none⟩ v') :=
        fun w5 v' hh => ⟨by unfold sendE; rw [if_neg hlong, if_neg hfull]; rfl, by unfold sendS; rw [if_neg hlong, if_neg hfull]; exact hh⟩
      replace hS := Lib.hid hS
      obtain ⟨i0, hi, hz0, hz1, hz2⟩ := info_parts info24
      obtain ⟨A0, c0, rfl, h5, h6⟩ := own_form hI.own
      have hw0 : s.wait.length < 4096 := by omega
      have hl0 : l.length ≤ 1048576 := by omega
      have hplt := hI.row.lt
      have hfz := hI.frozen 2
      replace hI := Lib.hid hI
      have hbd : Hid (BL w.drew A l.length l) := Lib.hid hb
      have hls := Lib.hid (show s.wait.length + 1 ≤ maxLen by unfold maxLen; omega)
      have hO : Hid (∀ w2, Below w.heap.size w w2 → w2.ownsRow 0 29 1 (.slice A0 s.wait.length c0) s.wait.length xs) := Lib.hid fun w2 h => (hI.out.below h).own
      clear hlong hfull hb h0 h1 h3 h4
      generalize hk : s.wait.length = k at *
      replace hk := Lib.hid hk
      go_enter Try.func12, Try.ntmps12
      go_wp2
      go_region_law (first
        | (go_simp; go_at_call 27; (with_reducible refine (copy_any A l.length cap l _ hbd.out (by omega)).mono ?_); rintro e w' ⟨A2, c2, rfl, ho, hB⟩; have hB' := Lib.hid (undrew hB); have ho' := Lib.hid ho; have hpw := Nat.lt_of_lt_of_le hplt (undrew hB).size; have hp2 := (hB.cell (p := ⟨p, 2, none⟩) hplt).trans h2; clear hB ho)
        | (refine step_append_lies _ rfl (.tmp 23) (.tmp 26) 25 rfl 0 29 i0 (.slice none 0 0) 1 24 Try.underlying25 hi hz0 hz1 hz2 rfl (by decide) _ k xs (by rfl) (hO.out _ (trans0 hB'.out (al0 _ _))) _ 1 1 [_] (by rfl) rfl (cell_one_new _ _ _) (by simp; rfl) (by omega) hls.out (by omega) (Nat.zero_le _) _ rfl ?_; intro g cap9 w9 hr9 hg9 hat9 hlt9; obtain ⟨q2, q3⟩ := end_far hI.out (trans0 hB'.out (al0 _ _)) hg9))
      all_goals
        go_wp2
        go_ret
        refine hS.out _ _ (end_sent (A := A2) (cap := c2) hI.out hc hf hB'.out ho'.out (by rw [hk.out]; exact hr9) hg9 ?_ hcn (by rw [hk.out]; exact hw0) hl0)
        rcases hat9 with e | e
        · exact .inl e.symm
        · exact .inr (by rw [e]; simp [Value.ownBlock])
end Go.Proofs.Ythiadkpndemeeaa.lnkE
