/- The contract of the program's Release. -/
import Derived.Test.YtipnmgihbpbonaaOrdK
import Derived.Test.YtipnmgihbpbonaaOrdI
set_option linter.unusedVariables false
set_option linter.unusedSimpArgs false
set_option maxRecDepth 100000
namespace Go.Proofs.Ytipnmgihbpbonaa.ordRl
open Go.ChangeShapes Go.WideShapes Go.ChangeAt Go.RowKit Go.Deep
open opV chnM gen chnA chnR chnE ordA ordB ordC ordM ordL ordD ordH ordI ordK

/-- what a call changes: blocks of the log's color alone -/
def Cn (c : Nat) (col : Nat → Nat) (w : World) (col' : Nat → Nat) (w' : World) : Prop := Ext w col col' ∧ Fresh col' w' ∧ Chg col c w w'
theorem Cn.trans {c : Nat} {c0 c1 c2 : Nat → Nat} {w w1 w2 : World} (h : Cn c c0 w c1 w1) (k : Cn c c1 w1 c2 w2) : Cn c c0 w c2 w2 :=
  ⟨Ext.trans h.1 h.2.2.size k.1, k.2.1, Chg.trans h.2.2 h.1 k.2.2⟩
theorem Cn.below {c : Nat} {col : Nat → Nat} {w w1 : World} (hf : Fresh col w) (hB : Below w.heap.size w w1) : Cn c col w col w1 := ⟨Ext.refl _ _, hf.up hB.size, Chg.of_below _ _ hB⟩
section
variable {T : TypeId} {col : Nat → Nat} {c p : Nat} {L : Lg} {A1 A2 A' : Option Addr} {c1 c2 c' n : Nat} {ms mw : List MR} {w w3 : World}
theorem rel0 (h : LogIs T col c w p L A1 c1 A2 c2 ms mw) (hc : c ≠ 0) (hf : Fresh col w) (b : Int) : Cn c col w col (w.setCell ⟨p, 2, none⟩ (.int .u64 b)) ∧ LogIs T col c (w.setCell ⟨p, 2, none⟩ (.int .u64 b)) p ⟨L.st, L.wt, b⟩ A1 c1 A2 c2 ms mw := by
  obtain ⟨h1, h2⟩ := h.setB hc b
  exact ⟨⟨Ext.refl _ _, hf.up h1.size, h1⟩, h2⟩
theorem rel1 (h : LogIs T col c w p L A1 c1 A2 c2 ms mw) (hc : c ≠ 0) (hf : Fresh col w) (hn : n ≤ mw.length) (hl : ms.length + mw.length ≤ 100) (hg : w.drew.grownBy w3 (Value.slice A1 ms.length c1).ownBlock)
    (ho : w3.ownsRow 0 32 4 (.slice A' (ms.length + n) c') (ms.length + n) (gl ms ++ gl (mw.take n))) (hat : (Value.slice A' (ms.length + n) c').ownBlock = (Value.slice A1 ms.length c1).ownBlock ∨ (Value.slice A' (ms.length + n) c').ownBlock = some w.drew.heap.size) :
    w3.cell? ⟨p, 0, none⟩ = some (.slice A1 ms.length c1) ∧ w3.frozen? ⟨p, 0, none⟩ = false ∧ ∃ col', Cn c col w col' (w3.setCell ⟨p, 0, none⟩ (.slice A' (ms.length + n) c')) ∧ LogIs T col' c (w3.setCell ⟨p, 0, none⟩ (.slice A' (ms.length + n) c')) p ⟨L.st ++ L.wt.take n, L.wt, L.bd⟩ A' c' A2 c2 (ms ++ mw.take n) mw := by
  have hnl : (ms ++ mw.take n).length = ms.length + n := by simp; omega
  have hG : GR w3 0 A' c' (ms ++ mw.take n) := by unfold GR; rw [hnl, gl_app]; exact ho
  have hnp : (Value.slice A1 ms.length c1).ownBlock ≠ some p := row_apart h.row h.o1 h.tne
  have hp6 : w3.heap[p]? = w.heap[p]? := hg.block p h.row.lt (fun e => hnp e.symm)
  have hp := h.put1 (l' := ms ++ mw.take n) (A' := A') (c' := c') hc hf (below_drew w) hg hG (fun k e => by
    rw [hnl] at e
    rcases hat with h1 | h1
    · rw [h1] at e; exact .inl e
    · rw [h1] at e; cases e; exact .inr (Nat.le_refl _)) (fun x hx => .inl (by
      rcases List.mem_append.1 hx with hx | hx
      · exact h.d1 x hx
      · exact h.d2 x (List.mem_of_mem_take hx))) (by rw [hnl]; omega)
  rw [hnl] at hp
  obtain ⟨g1, g2, g3, g4⟩ := hp
  rw [List.map_append, List.map_take, h.e1, h.e2] at g4
  exact ⟨(World.cell?_of_block (a := ⟨p, 0, none⟩) hp6).trans h.cells.1, (World.frozen?_of_block (a := ⟨p, 0, none⟩) hp6).trans h.fz.1, _, ⟨g1, g2, g3⟩, g4⟩
theorem rel2 (h : LogIs T col c w p L A1 c1 A2 c2 ms mw) (hc : c ≠ 0) (hf : Fresh col w) (hn : n ≤ mw.length) (hB : Below w.heap.size w w3) (hG : GR w3 w.heap.size A' c' (mw.drop n)) :
    w3.cell? ⟨p, 1, none⟩ = some (.slice A2 mw.length c2) ∧ w3.frozen? ⟨p, 1, none⟩ = false ∧ ∃ col', Cn c col w col' (w3.setCell ⟨p, 1, none⟩ (.slice A' (mw.length - n) c')) ∧ LogIs T col' c (w3.setCell ⟨p, 1, none⟩ (.slice A' (mw.length - n) c')) p ⟨L.st, L.wt.drop n, L.bd⟩ A1 c1 A' c' ms (mw.drop n) := by
  have hnl : (mw.drop n).length = mw.length - n := by simp
  have h3 := h.below hB
  have hp := h.put2 (l' := mw.drop n) (A' := A') (c' := c') hc hf hB ⟨rfl, rfl, rfl, Nat.le_refl _, fun _ _ _ => rfl⟩ (hG.more (Nat.zero_le _)) (fun k e => .inr (World.ownsRow.lt hG k e).1) (fun x hx => .inl (h.d2 x (List.mem_of_mem_drop hx))) (by have := h.len; omega)
  rw [hnl] at hp
  obtain ⟨g1, g2, g3, g4⟩ := hp
  rw [List.map_drop, h.e2] at g4
  exact ⟨h3.cells.2.1, h3.fz.2.1, _, ⟨g1, g2, g3⟩, g4⟩
end
section
variable {col : Nat → Nat} {c p : Nat} {L : Lg} {A1 A2 : Option Addr} {c1 c2 : Nat} {ms mw : List MR}
/-- Concat of the one row that is left. -/
theorem concat_one (A : Option Addr) (cp : Nat) (l : List MR) (w : World) (h : HR w A cp l) :
    Calls Try.prog 29 #[.slice (some ⟨w.heap.size, 0, none⟩) 1 1] (w.alloc (.cells #[.slice A l.length cp] 26)) (RR l (w.alloc (.cells #[.slice A l.length cp] 26))) := by
  have hal := al0 w (.cells #[.slice A l.length cp] 26)
  have := concat_any w.heap.size 0 [⟨A, cp, l⟩] (w.alloc (.cells #[.slice A l.length cp] 26)) ⟨fun i hi => by
      obtain rfl : i = 0 := by simp at hi; omega
      exact cell_of_row _ _ 0 #[.slice A l.length cp] 26 (0, 0) (heap_alloc_new w _), fun i hi => by
      obtain rfl : i = 0 := by simp at hi; omega
      exact h.below hal⟩ (by simp) (by simp [cat]; have := h.sm; omega)
  have hc : cat [⟨A, cp, l⟩] = l := by simp [cat]
  rw [hc] at this
  exact this
set_option maxHeartbeats 4000000 in
theorem release_any (w : World) (h : LogIs T1 col c w p L A1 c1 A2 c2 ms mw) (hok : L.ok) (hc : c ≠ 0) (hf : Fresh col w) (t : Int) (hl : ms.length + mw.length ≤ 100) :
    Calls Try.prog 12 #[.pointer (some ⟨p, 0, none⟩), .int .u64 t] w fun e w' => e = .returned (.int .i64 (cnt L t)) ∧ DecP T1 col c p (rS L t) w w' := by
  obtain ⟨b, hb⟩ : ∃ b, mx L.bd t = b := ⟨_, rfl⟩
  obtain ⟨n, hn⟩ : ∃ n, cntB b L.wt = n := ⟨_, rfl⟩
  have hcn : cnt L t = n := by rw [← hn, ← hb]; rfl
  have hnl : n ≤ mw.length := by rw [← hcn]; have := cnt_le L t; rwa [← h.e2, List.length_map] at this
  have hrS : rS L t = ⟨L.st ++ L.wt.take n, L.wt.drop n, b⟩ := by unfold rS; rw [hcn, hb]
  rw [hcn, hrS]
  obtain ⟨hC0, h1⟩ := rel0 h hc hf b
  have hdue := Lib.hid (due_any _ h1 hok.upW)
  rw [show cntB b L.wt = n from hn] at hdue
  obtain ⟨k0, k1, k2⟩ := h.cells
  obtain ⟨f0, f1, f2⟩ := h.fz
  have hmx : max L.bd t = b := by rw [← hb]; unfold mx; split <;> omega
  have hmx2 : (if L.bd < t then t else L.bd) = b := by rw [← hb]; rfl
  obtain ⟨W1, hW1⟩ : ∃ W1, w.setCell ⟨p, 2, none⟩ (.int .u64 b) = W1 := ⟨_, rfl⟩
  rw [hW1] at hC0 h1 hdue
  replace hW1 := Lib.hid hW1
  clear hok hcn hrS hn
  go_enter Try.func12, Try.ntmps12
  go_wp2_with (fail)
  rw [hW1.out]
  with_reducible refine hdue.out.mono ?_
  rintro e w2 ⟨rfl, hB2⟩
  have h2 := h1.below hB2
  have hC2 := hC0.trans (Cn.below hC0.2.1 hB2)
  clear h h1 hdue hC0 hB2 k0 k1 k2 f0 f1 f2 hW1 hmx hmx2 hf
  have hlen := h2.len
  by_cases hn0 : n = 0
  · subst hn0
    have hfin : Hid (DecP T1 col c p ⟨L.st ++ L.wt.take 0, L.wt.drop 0, b⟩ w w2) := Lib.hid ⟨col, hC2.1, hC2.2.1, hC2.2.2, by
      rw [List.take_zero, List.append_nil, List.drop_zero]
      exact ⟨_, _, _, _, _, _, h2⟩⟩
    clear hC2 h2
    go_wp2
    go_ret
    exact ⟨rfl, hfin.out⟩
  · have hnI : (0 : Int) < (n : Int) := by omega
    obtain ⟨iV, hiV, hzV0, hzV1, hzV2⟩ := info_parts infoR
    have hw := (log_hw h2)
    have hs1 := slice_to A2 mw.length c2 n (Nat.le_trans hnl hw.le)
    have hc9 : c2 ≤ 9223372036854775807 := hw.top
    have hnc : n ≤ c2 := Nat.le_trans hnl hw.le
    have hst : Hid (Stand w2.drew A2 n (gl (mw.take n))) := Lib.hid (by have := (hv_to (hw.below (below_drew w2)) hnl).stand; rwa [show (mw.take n).length = n by simp; omega] at this)
    have hgl : Hid ((gl (mw.take n)).length = n * 4) := Lib.hid (by rw [gl_len, List.length_take, Nat.min_eq_left hnl])
    have hone := Lib.hid (gl_all (mw.take n))
    have hown := Lib.hid (GR.drew h2.o1)
    have hls : Hid (ms.length + n ≤ maxLen ∧ (ms.length + n) * 48 ≤ 140737488355328) := Lib.hid ⟨by unfold maxLen; omega, by omega⟩
    have hr1 := Lib.hid (fun w3 A' c' => rel1 (w3 := w3) (A' := A') (c' := c') h2 hc hC2.2.1 hnl hl)
    obtain ⟨k0, k1, k2⟩ := (h2.below (below_drew w2)).cells
    obtain ⟨f0, f1, f2⟩ := (h2.below (below_drew w2)).fz
    replace hC2 := Lib.hid hC2
    clear h2 hw
    go_upto_region 6 with (fail)
    go_region_law (refine step_gen rfl (.tmp 25) (.tmp 31) 26 rfl 0 32 iV _ 4 48 Try.underlying26 hiV hzV0 hzV1 hzV2 rfl (by decide) (.slice A1 ms.length c1) ms.length (gl ms) (by rfl) hown.out A2 n c2 (gl (mw.take n)) (by rfl) hgl.out hst.out hone.out hls.out.1 hls.out.2 (Nat.zero_le _) ?_; intro A3 c3 w3 hr3 hg3 hat3; obtain ⟨z1, z2, hD⟩ := hr1.out w3 A3 c3 hg3 hr3 hat3; replace hD := Lib.hid hD; clear hr3 hg3 hat3)
    all_goals
      obtain ⟨W4, hW4⟩ : ∃ W4, w3.setCell ⟨p, 0, none⟩ (.slice A3 (ms.length + n) c3) = W4 := ⟨_, rfl⟩
      rw [hW4] at hD ⊢
      obtain ⟨col4, hC4, h4⟩ := hD.out
      have hC4' := hC2.out.trans hC4
      clear k0 k1 k2 f0 f1 f2 z1 z2 hown hst hgl hone hls hr1 hW4 hs1 hiV hzV0 hzV1 hzV2 hC2 hD
      obtain ⟨k0, k1, k2⟩ := h4.cells
      have hw4 := log_hw h4
      have hs2 := slice_from A2 mw.length c2 n hnl
      have hcat := Lib.hid (concat_one (fromA A2 c2 n) (c2 - n) (mw.drop n) W4 (hv_from hw4 hnl))
      rw [show (mw.drop n).length = mw.length - n by simp] at hcat
      have hr2 := Lib.hid (fun w5 A' c' => rel2 (w3 := w5) (A' := A') (c' := c') h4 hc hC4.2.1 hnl)
      have hal := Lib.hid (al0 W4 (.cells #[.slice (fromA A2 c2 n) (mw.length - n) (c2 - n)] 26))
      have hnm : n ≤ mw.length := hnl
      generalize fromA A2 c2 n = A9 at *
      replace hC4' := Lib.hid hC4'
      have hpl := h4.row.lt
      clear h4 hw4 hC4
      go_wp2_with (go_at_call 29; ((with_reducible refine (hcat.out).mono ?_); rintro e w5 ⟨A5, c5, rfl, hG5, hB5⟩; rw [show (mw.drop n).length = mw.length - n by simp]; obtain ⟨z1, z2, hD⟩ := hr2.out w5 A5 c5 (trans0 hal.out hB5) (hG5.more hal.out.size); replace hD := Lib.hid hD; clear hG5 hB5))
      go_ret
      obtain ⟨col6, hC6, h6⟩ := hD.out
      obtain ⟨g1, g2, g3⟩ := hC4'.out.trans hC6
      exact ⟨rfl, col6, g1, g2, g3, _, _, _, _, _, _, h6⟩
end
end Go.Proofs.Ytipnmgihbpbonaa.ordRl
