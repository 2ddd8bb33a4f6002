/- The contract of Out. -/
import Derived.Test.YthiadkpndemeeaaLnkC
import Derived.IntWalk
namespace Go.Proofs.Ythiadkpndemeeaa.lnkD
open Go.ChangeShapes Go.WideShapes Go.ChangeAt Go.RowKit Go.Deep
open numM rowA byt numA numB numC lnkA lnkB lnkC

def outF (s : St) (i : Nat) : Fm := ⟨0, s.ep, s.acked + 1 + i, s.got, lth s.wait i⟩
def outN (s : St) : Nat := min s.wait.length 16
/-- Of n frames in block g the first k are fs; their bodies are the call's own. -/
def FRk (w : World) (g n k : Nat) (fs : Nat → Fm) : Prop :=
  ∃ F : Nat → Value, w.rowIs g 31 (n * 5) F ∧ ∀ j, j < k → ∃ B c, (∀ i, i < 5 → F (j * 5 + i) = (cf (fs j) B c).getD i undef) ∧ Own w (g + 1) (.slice B (fs j).body.length c) (fs j).body.length (fs j).body
theorem FRk.below {w w1 : World} {g n k : Nat} {fs : Nat → Fm} (h : FRk w g n k fs) (hB : Below w.heap.size w w1) : FRk w1 g n k fs := by
  obtain ⟨F, h1, h2⟩ := h
  refine ⟨F, h1.of_block (hB.block _ h1.lt), fun j hj => ?_⟩
  obtain ⟨B, c, h3, h4⟩ := h2 j hj
  exact ⟨B, c, h3, h4.below hB (Nat.le_refl _)⟩
theorem row5 {w : World} {g : Nat} {t : TypeId} {n : Nat} {F : Nat → Value} (h : w.rowIs g t n F) (o : Nat) (x0 x1 x2 x3 x4 : Value) :
    (((((w.setCell ⟨g, o, none⟩ x0).setCell ⟨g, o + 1, none⟩ x1).setCell ⟨g, o + 2, none⟩ x2).setCell ⟨g, o + 3, none⟩ x3).setCell ⟨g, o + 4, none⟩ x4).rowIs g t n
      (fun j => if j = o + 4 then x4 else if j = o + 3 then x3 else if j = o + 2 then x2 else if j = o + 1 then x1 else if j = o then x0 else F j) :=
  ((((h.set o x0).set (o + 1) x1).set (o + 2) x2).set (o + 3) x3).set (o + 4) x4
theorem own5' {base b n o0 o1 o2 o3 o4 : Nat} {v : Value} {l : List Nat} {w : World} (h : Own w base v n l) (hb : b < base) (x0 x1 x2 x3 x4 : Value) :
    Own (((((w.setCell ⟨b, o0, none⟩ x0).setCell ⟨b, o1, none⟩ x1).setCell ⟨b, o2, none⟩ x2).setCell ⟨b, o3, none⟩ x3).setCell ⟨b, o4, none⟩ x4) base v n l := by
  refine ⟨h.1, h.2.1, h.2.2.1, h.2.2.2.1, ?_⟩
  rcases h.2.2.2.2 with h | ⟨g, cap, cur, rfl, h2, h3, h4⟩
  · exact .inl h
  · refine .inr ⟨g, cap, cur, rfl, h2, ?_, h4⟩
    rw [Below.heap_setCell _ _ _ _ (by simp; omega), Below.heap_setCell _ _ _ _ (by simp; omega), Below.heap_setCell _ _ _ _ (by simp; omega), Below.heap_setCell _ _ _ _ (by simp; omega), Below.heap_setCell _ _ _ _ (by simp; omega)]
    exact h3
theorem below5' {B b o0 o1 o2 o3 o4 : Nat} {w0 w : World} (h : Below B w0 w) (hb : B ≤ b) (x0 x1 x2 x3 x4 : Value) :
    Below B w0 (((((w.setCell ⟨b, o0, none⟩ x0).setCell ⟨b, o1, none⟩ x1).setCell ⟨b, o2, none⟩ x2).setCell ⟨b, o3, none⟩ x3).setCell ⟨b, o4, none⟩ x4) :=
  ((((h.setCell (p := ⟨b, o0, none⟩) hb x0).setCell (p := ⟨b, o1, none⟩) hb x1).setCell (p := ⟨b, o2, none⟩) hb x2).setCell (p := ⟨b, o3, none⟩) hb x3).setCell (p := ⟨b, o4, none⟩) hb x4
theorem FRk.more {w : World} {g n k : Nat} {fs : Nat → Fm} (h : FRk w g n k fs) {B : Option Addr} {c : Nat} (ho : Own w (g + 1) (.slice B (fs k).body.length c) (fs k).body.length (fs k).body) :
    FRk (((((w.setCell ⟨g, k * 5, none⟩ (.int .i64 (fs k).v)).setCell ⟨g, k * 5 + 1, none⟩ (.int .i64 (fs k).e)).setCell ⟨g, k * 5 + 2, none⟩ (.int .i64 (fs k).s)).setCell ⟨g, k * 5 + 3, none⟩ (.int .i64 (fs k).a)).setCell ⟨g, k * 5 + 4, none⟩ (.slice B (fs k).body.length c)) g n (k + 1) fs := by
  obtain ⟨F, h1, h2⟩ := h
  refine ⟨_, row5 h1 (k * 5) _ _ _ _ _, fun j hj => ?_⟩
  by_cases e : j = k
  · subst e
    refine ⟨B, c, fun i hi => ?_, own5' ho (by omega) _ _ _ _ _⟩
    have : i = 0 ∨ i = 1 ∨ i = 2 ∨ i = 3 ∨ i = 4 := by omega
    rcases this with rfl | rfl | rfl | rfl | rfl <;> simp [cf]
  · obtain ⟨B', c', h3, h4⟩ := h2 j (by omega)
    refine ⟨B', c', fun i hi => ?_, own5' h4 (by omega) _ _ _ _ _⟩
    rw [if_neg (by omega), if_neg (by omega), if_neg (by omega), if_neg (by omega), if_neg (by omega)]
    exact h3 i hi
def FR (w : World) (lo : Nat) (v : Value) (n : Nat) (fs : Nat → Fm) : Prop := ∃ g, v = .slice (some ⟨g, 0, none⟩) n n ∧ lo ≤ g ∧ FRk w g n n fs
theorem infoF : (Try.prog.info? 31).map (fun i => (i.zero, i.size, i.bytes)) = some (some (.agg #[.int .i64 0, .int .i64 0, .int .i64 0, .int .i64 0, .slice none 0 0]), 5, 56) := by kernel_rfl
/-- What Out answers. -/
def Outs (w : World) (s : St) (e : Ending) (w' : World) : Prop := ∃ v, e = .returned v ∧ FR w' w.heap.size v (outN s) (outF s) ∧ Below w.heap.size w w'
abbrev SO (b : Nat) (p : Nat) (s : St) (v : Value) (m : Nat) (gv i : Nat) (u : Value) (w : World) : Prop := SE p s v m w ∧ w.cell? ⟨gv, i, none⟩ = some u ∧ p < b ∧ gv < b
theorem SO.below {b p : Nat} {s : St} {v : Value} {m gv i : Nat} {u : Value} {w w1 : World} (h : SO b p s v m gv i u w) (hB : Below w.heap.size w w1) : SO b p s v m gv i u w1 :=
  ⟨h.1.below hB, by rw [hB.cell (p := ⟨gv, i, none⟩) (World.block_lt_of_cell? _ _ h.2.1)]; exact h.2.1, h.2.2⟩
theorem SO.set {b p : Nat} {s : St} {v : Value} {m gv i : Nat} {u : Value} {w : World} (h : SO b p s v m gv i u w) (o : Nat) (x : Value) : SO b p s v m gv i u (w.setCell ⟨b, o, none⟩ x) := by
  have e : ∀ j, (w.setCell ⟨b, o, none⟩ x).cell? ⟨p, j, none⟩ = w.cell? ⟨p, j, none⟩ := fun j => World.cell?_of_block (Below.heap_setCell w ⟨b, o, none⟩ x p (by have := h.2.2.1; simp; omega))
  have e' : ∀ j, (w.setCell ⟨b, o, none⟩ x).cell? ⟨gv, j, none⟩ = w.cell? ⟨gv, j, none⟩ := fun j => World.cell?_of_block (Below.heap_setCell w ⟨b, o, none⟩ x gv (by have := h.2.2.2; simp; omega))
  unfold SO SE
  rw [e, e, e, e, e, e']; exact h
theorem SO.set5 {b p : Nat} {s : St} {v : Value} {m gv i : Nat} {u : Value} {w : World} (h : SO b p s v m gv i u w) {o0 o1 o2 o3 o4 : Nat} (x0 x1 x2 x3 x4 : Value) :
    SO b p s v m gv i u (((((w.setCell ⟨b, o0, none⟩ x0).setCell ⟨b, o1, none⟩ x1).setCell ⟨b, o2, none⟩ x2).setCell ⟨b, o3, none⟩ x3).setCell ⟨b, o4, none⟩ x4) :=
  ((((h.set o0 x0).set o1 x1).set o2 x2).set o3 x3).set o4 x4
/-- frame, its answer written out -/
theorem frame_out {col : Nat → Nat} {c p : Nat} {s : St} (q : Int) (A : Option Addr) (n cap : Nat) (l : List Nat) (w : World) (h : EndAt col c w p s) (hb : BL w A n l) (hn : n ≤ 140737488355328) :
    Calls Try.prog 34 #[.pointer (some ⟨p, 0, none⟩), .int .i64 q, .slice A n cap] w fun e w' =>
      ∃ A2 c2, e = .returned (.agg #[.int .i64 0, .int .i64 s.ep, .int .i64 q, .int .i64 s.got, .slice A2 l.length c2]) ∧ Own w' w.heap.size (.slice A2 l.length c2) l.length l ∧ Below w.heap.size w w' :=
  frame_any q A n cap l w h hb hn
theorem rowc5 {w : World} {g : Nat} {t : TypeId} {n : Nat} {F : Nat → Value} (h : w.rowIs g t n F) (o : Nat) (ho : o + 5 ≤ n) :
    (w.cell? ⟨g, o, none⟩ = some (F o) ∧ w.cell? ⟨g, o + 1, none⟩ = some (F (o + 1)) ∧ w.cell? ⟨g, o + 2, none⟩ = some (F (o + 2)) ∧ w.cell? ⟨g, o + 3, none⟩ = some (F (o + 3)) ∧ w.cell? ⟨g, o + 4, none⟩ = some (F (o + 4))) ∧
    w.frozen? ⟨g, o, none⟩ = false ∧ w.frozen? ⟨g, o + 1, none⟩ = false ∧ w.frozen? ⟨g, o + 2, none⟩ = false ∧ w.frozen? ⟨g, o + 3, none⟩ = false ∧ w.frozen? ⟨g, o + 4, none⟩ = false :=
  ⟨⟨h.cell (by omega), h.cell (by omega), h.cell (by omega), h.cell (by omega), h.cell (by omega)⟩, h.frozen _, h.frozen _, h.frozen _, h.frozen _, h.frozen _⟩
theorem wrap_in (n : Int) (h1 : -9223372036854775808 ≤ n) (h2 : n ≤ 9223372036854775807) : IntKind.i64.wrap n = n := IntWalk.i64_in _ ⟨h1, h2⟩
set_option maxRecDepth 100000 in
set_option maxHeartbeats 1000000 in
theorem out_n {col : Nat → Nat} {c p : Nat} {s : St} (N : Nat) (hNe : N = outN s) (w : World) (h : EndAt col c w p s) :
    Calls Try.prog 20 #[.pointer (some ⟨p, 0, none⟩)] w (fun e w' => ∃ v, e = .returned v ∧ FR w' w.heap.size v N (outF s) ∧ Below w.heap.size w w') := by
  obtain ⟨i0, hi, hz0, hz1, hz2⟩ := info_parts infoF
  have hn16 : N ≤ 16 := by rw [hNe]; unfold outN; omega
  have hN : Hid (N ≤ s.wait.length) := Lib.hid (by rw [hNe]; unfold outN; omega)
  have hwin := window_any w h
  change Calls _ _ _ _ (fun e w' => e = .returned (.int .i64 (outN s : Nat)) ∧ w = w') at hwin
  rw [← hNe] at hwin
  replace hwin := Lib.hid hwin
  have hE := Lib.hid h
  obtain ⟨v, m, xs, n, D, hI⟩ := h
  have hac : s.acked ≤ 1000000 := by have := hI.ok.sent; have := hI.ok.cnt; omega
  have hwl : s.wait.length ≤ 4096 := hI.ok.wait
  replace hI := Lib.hid hI
  clear hNe
  go_enter Try.func20, Try.ntmps20
  go_wp2_with (fail)
  refine hwin.out.mono ?_
  rintro e w' ⟨rfl, rfl⟩
  go_wp2_with (refine wpList_make_full _ rfl _ _ 43 rfl w.heap.size 31 i0 _ 5 Try.underlying43 hi hz0 hz1 .i64 .i64 _ _ N rfl rfl rfl rfl ?c1 ?c2 ?c3 ?_)
  case c1 => rw [hz2]; omega
  case c2 => unfold maxLen; omega
  case c3 => exact Nat.le_refl _
  intro w1 hown hgrow
  have hB1 := (Below.refl w.heap.size w).grown hgrow (Nat.le_refl _) (fun k e => by cases e)
  have hR1 : FRk w1 w.heap.size N 0 (outF s) := by
    rcases hown.2 with ⟨h, _⟩ | ⟨g, cap, cur, e, h1, h2, h3, h4, h5, h6⟩
    · cases h
    · cases e
      refine ⟨fun i => cur.getD i undef, ⟨cur, h2, h5, fun i hi => ?_⟩, fun j hj => by omega⟩
      have : i < cur.size := by rw [h5]; omega
      simp [this]
  replace hB1 := Lib.hid hB1
  replace hR1 := Lib.hid hR1
  clear hown hgrow hwin
  go_wp2
  go_loopw [12] (fun i wr => ∃ k : Nat, k ≤ N ∧ i = .int .i64 k ∧ Hid (FRk wr w.heap.size N k (outF s)) ∧ Hid (Below w.heap.size w wr)) (fun i _ => N - (intOf i).toNat)
  case atStart => exact ⟨0, by omega, rfl, hR1, hB1⟩
  case round =>
    clear hR1 hB1
    obtain ⟨k, hk, rfl, hR, hB⟩ := hrel
    by_cases hlt : k < N
    · have hkw : k < s.wait.length := by have := hN.out; omega
      obtain ⟨gv, cv, rfl, hgv, hcell⟩ : ∃ gv cv, v = .slice (some ⟨gv, 0, none⟩) s.wait.length cv ∧ gv < w.heap.size ∧ ∀ u, xs[k]? = some u → w.cell? ⟨gv, k, none⟩ = some u := by
        rcases hI.out.own.2 with ⟨_, e⟩ | ⟨g, cap, cur, rfl, h1, h2, h3, h4, h5, h6⟩
        · omega
        · refine ⟨g, cap, rfl, (hI.out.own.lt g rfl).2, fun u hu => ?_⟩
          have := hI.out.own.cells (g := g) rfl k u hu
          rwa [add_plain, Nat.zero_add] at this
      obtain ⟨u, hu, hdat⟩ := hI.out.dat.get hkw
      have hcu := hcell u hu
      obtain ⟨Bu, cu, rfl, hbl, -⟩ := hdat
      have hEr := Lib.hid (show EndAt col c wr.drew p s from hE.out.below hB.out.drew)
      have hblr := Lib.hid (show BL wr.drew Bu (lth s.wait k).length (lth s.wait k) from hbl.below hB.out.drew)
      have hln := Lib.hid (show (lth s.wait k).length ≤ 140737488355328 from by have := hI.out.ok.body _ (lth_mem hkw); omega)
      have hSr : Hid (SO w.heap.size p s (.slice (some ⟨gv, 0, none⟩) s.wait.length cv) m gv k (.slice Bu (lth s.wait k).length cu) wr.drew) :=
        Lib.hid ⟨SE.below hI.out.cells hB.out.drew, by rw [hB.out.drew.cell (p := ⟨gv, k, none⟩) hgv]; exact hcu, hI.out.row.lt, hgv⟩
      obtain ⟨F, hF, -⟩ := hR.out
      have hFz : Hid (wr.drew.rowIs w.heap.size 31 (N * 5) F) := Lib.hid hF
      have e1 := wrap_in ((s.acked : Int) + 1) (by omega) (by omega)
      have e2 := wrap_in ((s.acked : Int) + 1 + k) (by omega) (by omega)
      have b1 : (0 : Int) ≤ (k : Int) := by omega
      have b2 : (k : Int) < (N : Int) := by omega
      have b3 : (k : Int) < (s.wait.length : Int) := by omega
      clear hF hbl hcu hu hcell hI hE
      go_wp2
      go_region_held3 (SO w.heap.size p s (.slice (some ⟨gv, 0, none⟩) s.wait.length cv) m gv k (.slice Bu (lth s.wait k).length cu))
        (first | with_reducible exact hSr.out | with_reducible assumption | with_reducible exact SO.below (by assumption) (by assumption) | with_reducible exact SO.set5 (by assumption) _ _ _ _ _ | fail)
        (first
          | (go_at_call 34; ((with_reducible refine (frame_out _ Bu _ cu (lth s.wait k) _ hEr.out hblr.out hln.out).mono ?_); rintro e w' ⟨A2, c2, rfl, ho, hB2⟩; obtain ⟨⟨z0, z1, z2, z3, z4⟩, z5, z6, z7, z8, z9⟩ := rowc5 (hFz.out.of_block (hB2.block _ hFz.out.lt)) (k * 5) (by omega))) | fail)
      have hgl := Lib.hid (show w.heap.size + 1 ≤ wr.drew.heap.size from hFz.out.lt)
      have hR2 := Lib.hid ((FRk.below (w := wr.drew) hR.out hB2).more (ho.more hgl.out))
      have hB3 := Lib.hid (below5' (b := w.heap.size) (o0 := k * 5) (o1 := k * 5 + 1) (o2 := k * 5 + 2) (o3 := k * 5 + 3) (o4 := k * 5 + 4) (hB.out.drew.trans (hB2.mono (by have := hgl.out; omega))) (Nat.le_refl _) (.int .i64 0) (.int .i64 s.ep) (.int .i64 (s.acked + 1 + k)) (.int .i64 s.got) (.slice A2 (lth s.wait k).length c2))
      clear ho hB2 e1 e2
      go_wp2
      go_roundw
      case rel => exact ⟨k + 1, by omega, by go_num, hR2, hB3⟩
      case measure => simp [intOf]; omega
    · obtain rfl : k = N := by omega
      go_wp2
      go_ret
      exact ⟨_, rfl, ⟨_, rfl, Nat.le_refl _, hR.out⟩, hB.out⟩
theorem out_any {col : Nat → Nat} {c p : Nat} {s : St} (w : World) (h : EndAt col c w p s) : Calls Try.prog 20 #[.pointer (some ⟨p, 0, none⟩)] w (Outs w s) := out_n _ rfl w h
end Go.Proofs.Ythiadkpndemeeaa.lnkD
