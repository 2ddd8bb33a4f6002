/- One call of both: what is asked of the walk. -/
import Derived.Test.YtggoaglcffdcnaaNetRe
namespace Go.Proofs.Ytggoaglcffdcnaa.netSa
open Go.ChangeShapes Go.WideShapes Go.ChangeAt Go.RowKit Go.Deep
open numM rowA byt numA numB numC netA netB netC netD netE netG netS netT netL netP netQ netR netRa netRb netRc netRd netRe

section
variable {col : Nat → Nat} {c p : Nat} {s : Ns} {f t : Int}
/-- What Take answers, and whose its bytes were. -/
def Took2 (col : Nat → Nat) (c p : Nat) (s' : Ns) (x : List Nat × Bool) (w : World) (e : Ending) (w' : World) : Prop :=
  ∃ A cp, e = .returned (.tuple #[.agg #[.slice A x.1.length cp, .bool x.2], .int .i64 0]) ∧ (BL w' A x.1.length x.1 ∧ ∀ b, (Value.slice A x.1.length cp).ownBlock = some b → b < w.heap.size ∧ col b = c) ∧ Cg (fun b => col b = c) w w' ∧ NetAt (recol col w c) c w' p s'
set_option maxRecDepth 100000 in
set_option maxHeartbeats 400000 in
theorem take_ok2 (i : Nat) (w : World) (h : NetAt col c w p s) (hw : IsWay f t) (hi : i < (s.row (wn f t)).length) :
    Calls Try.prog 24 #[.pointer (some ⟨p, 0, none⟩), .int .i64 f, .int .i64 t, .int .i64 i] w (Took2 col c p (delS s (wn f t) i) (pkt s (wn f t) i) w) := by
  have hal := al0 w (.cells #[.slice none 0 0, .bool false] 45)
  have hz := Z2.new w
  have h1 := h.below hal
  have hwi := Lib.hid (with_ok i _ h1 hw hi)
  have hk := wn_lt hw
  have hplt := h.lt
  generalize wn f t = k at *
  obtain ⟨vs, ms, m, hI, he, hm, hpk, hln⟩ := at_open h hk hi
  rw [hpk]
  have hto := Lib.hid (takeOut_is (hI.mid hal) hk hm)
  have hplt := h.lt
  have hmem := List.mem_of_getElem? hm
  have hblt : ∀ b, m.v.ownBlock = some b → b < w.heap.size := fun b e => hI.blt hk hmem e
  have hbc : ∀ b, m.v.ownBlock = some b → b < w.heap.size ∧ col b = c := fun b e => ⟨hI.blt hk hmem e, hI.cb k hk m hmem b e⟩
  have hS : Hid (∀ w3, Taken (mid col w c) c p vs ms s.lost k i m (w.alloc (.cells #[.slice none 0 0, .bool false] 45)) (.returned (.agg #[.slice m.A m.b.length m.c, .bool m.sp])) w3 →
      Took2 col c p (delS s k i) (m.b, m.sp) w (.returned (.tuple #[.agg #[.slice m.A m.b.length m.c, .bool m.sp], .int .i64 0])) ((w3.setCell ⟨w.heap.size, 0, none⟩ (.slice m.A m.b.length m.c)).setCell ⟨w.heap.size, 1, none⟩ (.bool m.sp)) ∧ Z2 w.heap.size w3) := Lib.hid fun w3 ⟨_, q1, ⟨v', q2⟩, q3⟩ => by
    have hM : Cg (fun b => b = w.heap.size) w3 ((w3.setCell ⟨w.heap.size, 0, none⟩ (.slice m.A m.b.length m.c)).setCell ⟨w.heap.size, 1, none⟩ (.bool m.sp)) :=
      Cg.setCell (M := fun b => b = w.heap.size) (Cg.setCell (M := fun b => b = w.heap.size) (Cg.refl _ _) (p := ⟨w.heap.size, 0, none⟩) rfl _) (p := ⟨w.heap.size, 1, none⟩) rfl _
    have hsz : w.heap.size < (w.alloc (.cells #[.slice none 0 0, .bool false] 45)).heap.size := by simp
    refine ⟨⟨m.A, m.c, rfl, ⟨own_bl (own_blk q3 fun b e => hM.block b (own_ge q3 e).2 (by have := hblt b e; omega)), hbc⟩, (mid_cg hal q1).trans hM (fun b hb e => by omega), upd vs k v', upd ms k ((ms k).eraseIdx i), mid_back hal.size (q2.other hM (fun b hb hc e => ?_) (Ext.refl _ _)), map_del he hk i⟩, ?_⟩
    · subst e
      rw [rec_ext _ _ _ _ hsz] at hc
      exact mid_ne (Nat.le_refl _) hc
    · exact hz.of_block (q1.block _ hsz (mid_ne (Nat.le_refl _)))
  clear hI h1 h hal hm hpk hln hi he hz
  go_enter Try.func24, Try.ntmps24
  go_wp2_with (first
    | (go_at_call 35; ((with_reducible refine (hwi.out).mono ?_); rintro e w' ⟨rfl, rfl⟩))
    | (go_at_call 39; ((with_reducible refine (hto.out).mono ?_); rintro e w3 hT; obtain rfl := hT.1; have hQ := hS.out _ hT; obtain ⟨z0, z1, z2, z3⟩ := hQ.2.cells; have hQ' := Lib.hid hQ.1; clear hT hQ)))
  refine bodyPost_ret (v := .tuple #[.agg #[.slice m.A m.b.length m.c, .bool m.sp], .int .i64 0]) ?_ rfl hQ'.out
  simp [results, Try.results24, go_sem, z0, z1]
end

/-! ### The two side by side -/
section
variable {s : Ns} {d : Dn} {f t i : Int}
theorem three (h : Rel s d) (f t i : Int) : ¬ IsWay f t ∨ (IsWay f t ∧ (i < 0 ∨ ((s.row (wn f t)).length : Int) ≤ i)) ∨
    (IsWay f t ∧ ∃ n j : Nat, ∃ x, i = n ∧ n < (s.row (wn f t)).length ∧ idx f t d.row n = some j ∧ d.row[j]? = some x ∧ pkt s (wn f t) n = x.pk ∧ mt f t x = true ∧ (x.f : Int) = f ∧ (x.t : Int) = t) := by
  by_cases hw : IsWay f t
  · refine .inr ?_
    by_cases hi : i < 0 ∨ ((s.row (wn f t)).length : Int) ≤ i
    · exact .inl ⟨hw, hi⟩
    · have hn : i.toNat < (s.row (wn f t)).length := by omega
      obtain ⟨j, hj⟩ := idx_some (f := f) (t := t) (l := d.row) (i := i.toNat) (by rw [← h.len hw]; exact hn)
      obtain ⟨x, hx, hm, hp, -, hf, ht⟩ := h.pkt hw hj
      exact .inr ⟨hw, i.toNat, j, x, by omega, hn, hj, hx, hp, hm, hf, ht⟩
  · exact .inl hw
open Classical in
/-- a call at a packet that is there -/
noncomputable def atS (s : Ns) (f t i : Int) (g : Nat → Ns) : Ns := if IsWay f t ∧ 0 ≤ i ∧ i < ((s.row (wn f t)).length : Int) then g i.toNat else s
theorem atS_way {g : Nat → Ns} (h : ¬ IsWay f t) : atS s f t i g = s := if_neg fun e => h e.1
theorem atS_i {g : Nat → Ns} (h : i < 0 ∨ ((s.row (wn f t)).length : Int) ≤ i) : atS s f t i g = s := if_neg fun e => by omega
theorem atS_yes {g : Nat → Ns} {n : Nat} (hw : IsWay f t) (h : n < (s.row (wn f t)).length) : atS s f t n g = g n := if_pos ⟨hw, by omega, by omega⟩
open Classical in
noncomputable def sendS (s : Ns) (f t : Int) (l : List Nat) : Ns := if IsWay f t then sndS s (wn f t) l else s

theorem did_stay {col : Nat → Nat} {c p E : Nat} {w : World} (h : NetAt col c w p s) : ∀ e w', (e = .returned (.int .i64 E) ∧ w = w') → Did col c p E s w e w' := by
  rintro e w' ⟨rfl, rfl⟩
  exact ⟨rfl, Cg.refl _ _, h.ext (rec_ext col w c)⟩
theorem ddid_stay {col : Nat → Nat} {c q E : Nat} {w : World} (h : DocAt col c w q d) : ∀ e w', (e = .returned (.int .i64 E) ∧ Below w.heap.size w w') → DDid col c q E d w e w' := by
  rintro e w' ⟨rfl, hB⟩
  exact ⟨rfl, Cg.of_below _ hB, (h.ext (rec_ext col w c)).below hB⟩
theorem ddid_same {col : Nat → Nat} {c q E : Nat} {w : World} (h : DocAt col c w q d) : ∀ e w', (e = .returned (.int .i64 E) ∧ w = w') → DDid col c q E d w e w' := by
  rintro e w' ⟨rfl, rfl⟩
  exact ⟨rfl, Cg.refl _ _, h.ext (rec_ext col w c)⟩
def NCt (F : FuncId) (r : List Value) (K : World → Prop) (s : Ns) (E : Nat) (s' : Ns) : Prop := ∀ col c p w, K w → NetAt col c w p s → Calls Try.prog F (.pointer (some ⟨p, 0, none⟩) :: r).toArray w (Did col c p E s' w)
def DCt (F : FuncId) (r : List Value) (K : World → Prop) (d : Dn) (E : Nat) (d' : Dn) : Prop := ∀ col c q w, K w → DocAt col c w q d → Calls Try.prog F (.pointer (some ⟨q, 0, none⟩) :: r).toArray w (DDid col c q E d' w)
structure Pair (F G : FuncId) (r : List Value) (K : World → Prop) (s : Ns) (d : Dn) (s' : Ns) (d' : Dn) (E : Nat) : Prop where
  net : NCt F r K s E s'
  doc : DCt G r K d E d'
  rel : Rel s' d'
  len : d'.row.length ≤ d.row.length + 1
theorem lose_p (h : Rel s d) (hl : s.lost < 1000000) (b1 : -9223372036854775808 ≤ i) (b2 : i ≤ 9223372036854775807) (K : World → Prop) :
    ∃ E d', Pair 25 28 [.int .i64 f, .int .i64 t, .int .i64 i] K s d (atS s f t i fun n => lostS (delS s (wn f t) n)) d' E := by
  rcases three h f t i with hw | ⟨hw, hi⟩ | ⟨hw, n, j, x, rfl, hn, hj, hx, hp, hm, hf, ht⟩
  · rw [atS_way hw]
    exact ⟨1, d, fun col c p w _ hN => (lose_err w (werr_way _ f t i w (.inr ⟨⟨p, rfl⟩, hw⟩)) (by decide)).mono (did_stay hN), fun col c q w _ hD => (dlose_err w (ferr_way _ f t i w hw) (by decide)).mono (ddid_stay hD), h, by omega⟩
  · rw [atS_i hi]
    exact ⟨7, d, fun col c p w _ hN => (lose_err w (werr_i w hN hw hi) (by decide)).mono (did_stay hN), fun col c q w _ hD => (dlose_err w (ferr_i w hD hw (by rw [← h.len hw]; exact hi) b1 b2) (by decide)).mono (ddid_stay hD), h, by omega⟩
  · rw [atS_yes hw hn]
    exact ⟨0, lostD (delD d j), fun col c p w _ hN => lose_ok n w hN hw hn hl, fun col c q w _ hD => dlose_ok w hD hw hj hx b2 (by rw [← h.lost]; exact hl), (h.del hw hj).lose, by show (d.row.eraseIdx j).length ≤ _; rw [List.length_eraseIdx]; split <;> omega⟩
theorem twice_p (h : Rel s d) (hn9 : d.row.length < 100000) (b1 : -9223372036854775808 ≤ i) (b2 : i ≤ 9223372036854775807) (K : World → Prop) :
    ∃ E d', Pair 21 29 [.int .i64 f, .int .i64 t, .int .i64 i] K s d (atS s f t i fun n => twS s (wn f t) n) d' E := by
  rcases three h f t i with hw | ⟨hw, hi⟩ | ⟨hw, n, j, x, rfl, hn, hj, hx, hp, hm, hf, ht⟩
  · rw [atS_way hw]
    exact ⟨1, d, fun col c p w _ hN => (twice_err w (werr_way _ f t i w (.inr ⟨⟨p, rfl⟩, hw⟩)) (by decide)).mono (did_stay hN), fun col c q w _ hD => (dtwice_err w (ferr_way _ f t i w hw) (by decide)).mono (ddid_stay hD), h, by omega⟩
  · rw [atS_i hi]
    exact ⟨7, d, fun col c p w _ hN => (twice_err w (werr_i w hN hw hi) (by decide)).mono (did_stay hN), fun col c q w _ hD => (dtwice_err w (ferr_i w hD hw (by rw [← h.len hw]; exact hi) b1 b2) (by decide)).mono (ddid_stay hD), h, by omega⟩
  · rw [atS_yes hw hn]
    have hl := h.len hw
    have e1 : twDE d f t = twE s (wn f t) := by unfold twDE twE; rw [hl]
    refine ⟨twE s (wn f t), twD d f t x, fun col c p w _ hN => twice_ok n w hN hw hn, fun col c q w _ hD => ?_, ?_, ?_⟩
    · rw [← e1]; exact dtwice_ok w hD hw hj hx b2 hn9
    · unfold twS twD
      rw [hl]
      split
      · exact h
      · rw [hp]
        have := h.add x (by rw [hf, ht]; exact hw)
        rw [hf, ht] at this
        exact this
    · unfold twD
      split
      · omega
      · show (d.row ++ [x]).length ≤ _; simp
theorem back_p (h : Rel s d) (hn9 : d.row.length < 100000) (b1 : -9223372036854775808 ≤ i) (b2 : i ≤ 9223372036854775807) (K : World → Prop) :
    ∃ E d', Pair 22 30 [.int .i64 f, .int .i64 t, .int .i64 i] K s d (atS s f t i fun n => backS s (wn f t) n) d' E := by
  rcases three h f t i with hw | ⟨hw, hi⟩ | ⟨hw, n, j, x, rfl, hn, hj, hx, hp, hm, hf, ht⟩
  · rw [atS_way hw]
    exact ⟨1, d, fun col c p w _ hN => (back_err w (werr_way _ f t i w (.inr ⟨⟨p, rfl⟩, hw⟩)) (by decide)).mono (did_stay hN), fun col c q w _ hD => (dback_err w (ferr_way _ f t i w hw) (by decide)).mono (ddid_stay hD), h, by omega⟩
  · rw [atS_i hi]
    exact ⟨7, d, fun col c p w _ hN => (back_err w (werr_i w hN hw hi) (by decide)).mono (did_stay hN), fun col c q w _ hD => (dback_err w (ferr_i w hD hw (by rw [← h.len hw]; exact hi) b1 b2) (by decide)).mono (ddid_stay hD), h, by omega⟩
  · rw [atS_yes hw hn]
    refine ⟨0, backD d j x, fun col c p w _ hN => back_ok n w hN hw hn, fun col c q w _ hD => dback_ok w hD hw hj hx b2 hn9, ?_, ?_⟩
    · unfold backS backD
      rw [hp]
      have := (h.del hw hj).add x (by rw [hf, ht]; exact hw)
      rw [hf, ht] at this
      exact this
    · show (d.row.eraseIdx j ++ [x]).length ≤ _
      rw [List.length_append, List.length_eraseIdx]
      simp only [List.length_singleton]
      split <;> omega
theorem spoil_p (h : Rel s d) (a : Int) (y : Nat) (hy : y < 256) (b1 : -9223372036854775808 ≤ i) (b2 : i ≤ 9223372036854775807) (K : World → Prop) :
    ∃ E d', Pair 23 31 [.int .i64 f, .int .i64 t, .int .i64 i, .int .i64 a, .int .u8 y] K s d (atS s f t i fun n => spS s (wn f t) n a y) d' E := by
  rcases three h f t i with hw | ⟨hw, hi⟩ | ⟨hw, n, j, x, rfl, hn, hj, hx, hp, hm, hf, ht⟩
  · rw [atS_way hw]
    exact ⟨1, d, fun col c p w _ hN => (spoil_err _ _ w (werr_way _ f t i w (.inr ⟨⟨p, rfl⟩, hw⟩)) (by decide)).mono (did_stay hN), fun col c q w _ hD => (dspoil_err _ _ w (ferr_way _ f t i w hw) (by decide)).mono (ddid_same hD), h, by omega⟩
  · rw [atS_i hi]
    exact ⟨7, d, fun col c p w _ hN => (spoil_err _ _ w (werr_i w hN hw hi) (by decide)).mono (did_stay hN), fun col c q w _ hD => (dspoil_err _ _ w (ferr_i w hD hw (by rw [← h.len hw]; exact hi) b1 b2) (by decide)).mono (ddid_same hD), h, by omega⟩
  · rw [atS_yes hw hn]
    refine ⟨spE x.pk a y, spD d j x a y, fun col c p w _ hN => ?_, fun col c q w _ hD => dspoil_ok a y w hD hw hj hx b2 hy, ?_, ?_⟩
    · rw [← hp]; exact spoil_ok n a y w hN hw hn hy
    · unfold spS spD
      rw [hp]
      split
      · exact h.set hw hj (x := ⟨x.f, x.t, turned x.b a.toNat (y : Int).toNat, true⟩) hm
      · exact h
    · unfold spD
      split
      · show (d.row.set j _).length ≤ _; rw [List.length_set]; omega
      · omega
theorem send_p (h : Rel s d) (hl : s.lost < 1000000) (hn9 : d.row.length < 100000) (A : Option Addr) (cap : Nat) (l : List Nat) (hnone : A = none → l.length = 0) (hl9 : l.length ≤ 100000) :
    ∃ E d', Pair 20 26 [.int .i64 f, .int .i64 t, .slice A l.length cap] (fun w => BL w A l.length l) s d (sendS s f t l) d' E := by
  by_cases hw : IsWay f t
  · rw [show sendS s f t l = sndS s (wn f t) l from if_pos hw]
    have hlen := h.len hw
    obtain ⟨a, b, rfl, rfl, ha, hb, hab, hwn⟩ := hw.nat
    have e1 : sndDE d a b = sndE s (wn a b) := by unfold sndDE sndE; rw [hlen]
    refine ⟨sndE s (wn a b), sndD d a b ⟨a, b, l, false⟩, fun col c p w hK hN => send_ok A cap l w hN hw hK hnone hl9 hl, fun col c q w hK hD => ?_, ?_, ?_⟩
    · rw [← e1]; exact dsend_ok a b A cap l w hD hw hK hl9 (by rw [← h.lost]; exact hl) hn9
    · unfold sndS sndD
      rw [hlen]
      split
      · exact h.lose
      · exact h.add ⟨a, b, l, false⟩ hw
    · unfold sndD
      split
      · show d.row.length ≤ _; omega
      · show (d.row ++ [_]).length ≤ _; simp
  · rw [show sendS s f t l = s from if_neg hw]
    exact ⟨1, d, fun col c p w _ hN => (send_bad _ f t _ w (.inr ⟨⟨p, rfl⟩, hw⟩)).mono (did_stay hN), fun col c q w _ hD => (dsend_bad _ f t _ w hw).mono (ddid_same hD), h, by omega⟩
end
end Go.Proofs.Ytggoaglcffdcnaa.netSa
