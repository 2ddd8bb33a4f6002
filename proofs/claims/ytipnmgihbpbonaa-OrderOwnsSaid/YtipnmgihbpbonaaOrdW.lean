/- The program's calls, said of a log whatever its rows; awake. -/
import Derived.Test.YtipnmgihbpbonaaOrdRl
set_option linter.unusedVariables false
set_option linter.unusedSimpArgs false
set_option maxRecDepth 100000
namespace Go.Proofs.Ytipnmgihbpbonaa.ordW
open Go.ChangeShapes Go.WideShapes Go.ChangeAt Go.RowKit Go.Deep
open opV chnM gen chnA chnR chnE ordA ordB ordC ordM ordL ordD ordH ordK ordRl

/-- What a call leaves: blocks of the log's color alone have changed, and the log is L. -/
def Lv (T : TypeId) (col : Nat → Nat) (c : Nat) (p : Nat) (L : Lg) (w w' : World) : Prop := ∃ col', Cn c col w col' w' ∧ LogAt T col' c w' p L
theorem lv_of {T : TypeId} {col : Nat → Nat} {c p : Nat} {L : Lg} {w w' : World} (h : DecP T col c p L w w') : Lv T col c p L w w' := by
  obtain ⟨col', g1, g2, g3, h⟩ := h
  exact ⟨col', ⟨g1, g2, g3⟩, h⟩
/-- A log from whose color nothing else is. -/
def colP (col : Nat → Nat) (p c k : Nat) : Nat := if k = p then c else col k
section
variable {col : Nat → Nat} {c p : Nat} {L : Lg}
theorem at_len {T : TypeId} {w : World} {A1 A2 : Option Addr} {c1 c2 : Nat} {ms mw : List MR} (h : LogIs T col c w p L A1 c1 A2 c2 ms mw) : ms.length = L.st.length ∧ mw.length = L.wt.length := ⟨by rw [← h.e1, List.length_map], by rw [← h.e2, List.length_map]⟩
theorem decide_at (w : World) (h : LogAt T1 col c w p L) (hok : L.ok) (hc : c ≠ 0) (hf : Fresh col w) (m : MR) (hm : HV w m.A m.c m.vs) (hs : Sm m.vs) (hl : L.st.length + L.wt.length ≤ 90) :
    Calls Try.prog 9 #[.pointer (some ⟨p, 0, none⟩), rv m] w fun e w' => e = .returned (.int .i64 (dE L m.r)) ∧ Lv T1 col c p (dS L m.r) w w' := by
  obtain ⟨A1, c1, A2, c2, ms, mw, h⟩ := h
  have hq := at_len h
  refine (decide_any w h hok hc hf m hm hs (by omega)).mono ?_
  rintro e w' ⟨rfl, hD⟩
  exact ⟨rfl, lv_of hD⟩
theorem release_at (w : World) (h : LogAt T1 col c w p L) (hok : L.ok) (hc : c ≠ 0) (hf : Fresh col w) (t : Int) (hl : L.st.length + L.wt.length ≤ 90) :
    Calls Try.prog 12 #[.pointer (some ⟨p, 0, none⟩), .int .u64 t] w fun e w' => e = .returned (.int .i64 (cnt L t)) ∧ Lv T1 col c p (rS L t) w w' := by
  obtain ⟨A1, c1, A2, c2, ms, mw, h⟩ := h
  have hq := at_len h
  refine (release_any w h hok hc hf t (by omega)).mono ?_
  rintro e w' ⟨rfl, hD⟩
  exact ⟨rfl, lv_of hD⟩
theorem len_at (w : World) (h : LogAt T1 col c w p L) : Calls Try.prog 14 #[.pointer (some ⟨p, 0, none⟩)] w fun e w' => e = .returned (.int .i64 L.st.length) ∧ w = w' := by
  obtain ⟨A1, c1, A2, c2, ms, mw, h⟩ := h
  exact len_any w h
theorem waiting_at (w : World) (h : LogAt T1 col c w p L) : Calls Try.prog 15 #[.pointer (some ⟨p, 0, none⟩)] w fun e w' => e = .returned (.int .i64 L.wt.length) ∧ w = w' := by
  obtain ⟨A1, c1, A2, c2, ms, mw, h⟩ := h
  exact waiting_any w h
end
theorem at_new {T : TypeId} {col : Nat → Nat} {c : Nat} (w : World) (hT : T ≠ 32) (hf : Fresh col w) : LogAt T (colP col w.heap.size c) c (w.alloc (.cells #[.slice none 0 0, .slice none 0 0, .int .u64 0] T)) w.heap.size L0 ∧ Fresh (colP col w.heap.size c) (w.alloc (.cells #[.slice none 0 0, .slice none 0 0, .int .u64 0] T)) ∧ Ext w col (colP col w.heap.size c) := by
  refine ⟨⟨_, _, _, _, _, _, log_new w (if_pos rfl) hT⟩, fun k hk => ?_, fun k hk => if_neg (by omega)⟩
  rw [World.size_alloc] at hk
  unfold colP
  rw [if_neg (by omega)]
  exact hf k (by omega)
/-- a commit of a time alone -/
def tR (t : Int) : MR := ⟨t, 0, 0, [], none, 0⟩
theorem hv_nil (w : World) : HV w none 0 [] := (GV.nil_ w 0).hv (by simp)
theorem sm_nil : Sm [] := fun v hv => by cases hv
theorem awake_any (w : World) : Calls Try.prog 17 #[] w fun e w' => e = .returned (.bool true) ∧ Below w.heap.size w w' := by
  obtain ⟨hA, hfA, heA⟩ := at_new (T := T1) (col := fun _ => 0) (c := 1) w (by decide) (fun _ _ => rfl)
  have hB1 := al0 w (.cells #[.slice none 0 0, .slice none 0 0, .int .u64 0] T1)
  obtain ⟨W, hW⟩ : ∃ W, w.alloc (.cells #[.slice none 0 0, .slice none 0 0, .int .u64 0] T1) = W := ⟨_, rfl⟩
  rw [hW] at hA hfA hB1
  have hcol : ∀ k, k < w.heap.size → colP (fun _ => 0) w.heap.size 1 k ≠ 1 := fun k hk => by unfold colP; rw [if_neg (by omega)]; exact (by decide : (0 : Nat) ≠ 1)
  generalize colP (fun _ => 0) w.heap.size 1 = col at *
  replace hW := Lib.hid hW
  have hd1 := Lib.hid (decide_at W hA ok0 (by decide) hfA (tR 9) (hv_nil W) sm_nil (by simp [L0]))
  have e1 : dE L0 (tR 9).r = 0 := by decide
  have s1 : dS L0 (tR 9).r = ⟨[], [(tR 9).r], 0⟩ := rfl
  have e2 : dE ⟨[], [(tR 9).r], 0⟩ (tR 4).r = 0 := by decide
  have s2 : dS ⟨[], [(tR 9).r], 0⟩ (tR 4).r = ⟨[], [(tR 4).r, (tR 9).r], 0⟩ := rfl
  have e3 : cnt ⟨[], [(tR 4).r, (tR 9).r], 0⟩ 5 = 1 := by decide
  have s3 : rS ⟨[], [(tR 4).r, (tR 9).r], 0⟩ 5 = ⟨[(tR 4).r], [(tR 9).r], 5⟩ := rfl
  have o1 := ok_dS ok0 (tR 9).r
  rw [s1] at o1
  have o2 := ok_dS o1 (tR 4).r
  rw [s2] at o2
  rw [e1, s1] at hd1
  have hf1 := Lib.hid (new_any w)
  have hx := Lib.hid (fun w1 (h : Lv T1 col 1 w.heap.size ⟨[], [(tR 9).r], 0⟩ W w1) => (by
    obtain ⟨c2, g, h⟩ := h
    have hd := decide_at w1 h o1 (by decide) g.2.1 (tR 4) (hv_nil w1) sm_nil (by simp)
    rw [e2, s2] at hd
    exact hd.mono fun e w2 ⟨he, c3, g3, h3⟩ => ⟨he, c3, g.trans g3, h3⟩ : Calls Try.prog 9 #[.pointer (some ⟨w.heap.size, 0, none⟩), rv (tR 4)] w1 fun e w2 => e = .returned (.int .i64 (0 : Nat)) ∧ Lv T1 col 1 w.heap.size ⟨[], [(tR 4).r, (tR 9).r], 0⟩ W w2))
  have hy := Lib.hid (fun w1 (h : Lv T1 col 1 w.heap.size ⟨[], [(tR 4).r, (tR 9).r], 0⟩ W w1) => (by
    obtain ⟨c2, g, h⟩ := h
    have hd := release_at w1 h o2 (by decide) g.2.1 5 (by simp)
    rw [e3, s3] at hd
    exact hd.mono fun e w2 ⟨he, c3, g3, h3⟩ => ⟨he, c3, g.trans g3, h3⟩ : Calls Try.prog 12 #[.pointer (some ⟨w.heap.size, 0, none⟩), .int .u64 5] w1 fun e w2 => e = .returned (.int .i64 (1 : Nat)) ∧ Lv T1 col 1 w.heap.size ⟨[(tR 4).r], [(tR 9).r], 5⟩ W w2))
  have hz := Lib.hid (fun w1 (h : Lv T1 col 1 w.heap.size ⟨[(tR 4).r], [(tR 9).r], 5⟩ W w1) => (by
    obtain ⟨c2, g, h⟩ := h
    exact ⟨len_at w1 h, waiting_at w1 h, hB1.trans (g.2.2.below hB1.size hcol)⟩ : Calls Try.prog 14 #[.pointer (some ⟨w.heap.size, 0, none⟩)] w1 (fun e w' => e = .returned (.int .i64 ([(tR 4).r].length : Nat)) ∧ w1 = w') ∧ Calls Try.prog 15 #[.pointer (some ⟨w.heap.size, 0, none⟩)] w1 (fun e w' => e = .returned (.int .i64 ([(tR 9).r].length : Nat)) ∧ w1 = w') ∧ Below w.heap.size w w1))
  clear hA hfA heA e1 s1 e2 s2 e3 s3 o1 o2 hcol hB1
  go_enter Try.func17, Try.ntmps17
  go_wp2_with (fail)
  with_reducible refine hf1.out.mono ?_
  rintro e w1 ⟨rfl, rfl⟩
  rw [hW.out]
  go_wp2_with (fail)
  refine hd1.out.mono ?_
  rintro e w2 ⟨rfl, h2⟩
  replace h2 := Lib.hid h2
  go_wp2_with (fail)
  refine (hx.out w2 h2.out).mono ?_
  rintro e w3 ⟨rfl, h3⟩
  replace h3 := Lib.hid h3
  go_wp2_with (fail)
  refine (hy.out w3 h3.out).mono ?_
  rintro e w4 ⟨rfl, h4⟩
  obtain ⟨q1, q2, q3⟩ := hz.out w4 h4
  replace h4 := Lib.hid h4
  replace q1 := Lib.hid q1
  replace q2 := Lib.hid q2
  replace q3 := Lib.hid q3
  go_wp2_with (fail)
  refine q1.out.mono ?_
  rintro e w5 ⟨rfl, rfl⟩
  go_wp2_with (fail)
  refine q2.out.mono ?_
  rintro e w6 ⟨rfl, rfl⟩
  go_wp2
  go_ret
  exact ⟨rfl, q3.out⟩
end Go.Proofs.Ytipnmgihbpbonaa.ordW
