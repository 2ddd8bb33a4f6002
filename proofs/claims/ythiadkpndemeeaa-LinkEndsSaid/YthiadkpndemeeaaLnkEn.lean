/- LinkEnds: behind any moves, all that was sent comes. -/
import Derived.Test.YthiadkpndemeeaaLnkOn
namespace Go.Proofs.Ythiadkpndemeeaa.lnkEn
open Go.ChangeShapes Go.WideShapes Go.ChangeAt Go.RowKit Go.Deep
open numM rowA byt numA numB numC lnkA lnkB lnkC lnkD lnkE lnkF lnkG lnkH lnkI lnkJ lnkP lnkL lnkQ lnkR lnkS lnkT lnkV lnkW lnkX lnkZ lnkY lnkN lnkU lnkOn

/-! ### Plainly -/
/-- all that is out has come, up to k -/
def xF (x : Tw) : Nat → Tw
  | 0 => x
  | k + 1 => { xF x k with b := inS (xF x k).b (outF x.a k), came := (xF x k).came ++ inL (xF x k).b (outF x.a k) }
theorem xF_same (x : Tw) : ∀ k, (xF x k).a = x.a ∧ (xF x k).sent = x.sent ∧ (xF x k).row = x.row
  | 0 => ⟨rfl, rfl, rfl⟩
  | k + 1 => xF_same x k
theorem out_mem {s : St} {k : Nat} (h : k < outN s) : outF s k ∈ outL s := List.mem_map.2 ⟨k, List.mem_range.2 h, rfl⟩
theorem xF_good {x : Tw} {n : Nat} (h : GoodT x n) : ∀ k, k ≤ outN x.a → GoodT (xF x k) (n + k) ∧ x.a.acked + k ≤ (xF x k).b.got ∨ k = 0 ∧ GoodT (xF x k) (n + k)
  | 0, _ => .inr ⟨rfl, h⟩
  | k + 1, hk => by
    have hx := xF_same x k
    have ih : GoodT (xF x k) (n + k) ∧ x.a.acked + k ≤ (xF x k).b.got := by
      rcases xF_good h k (by omega) with h1 | ⟨rfl, h1⟩
      · exact h1
      · exact ⟨h1, h.ab⟩
    have hf := out_first h (out_mem (show k < outN x.a by omega))
    have hf' : (outF x.a k).e = (xF x k).a.ep ∧ (outF x.a k).a = 0 ∧ ∃ q : Nat, (outF x.a k).s = q ∧ 1 ≤ q ∧ q ≤ (xF x k).sent.length ∧ q ≤ (xF x k).a.acked + 16 ∧ (outF x.a k).body = lth (xF x k).sent (q - 1) := by rw [hx.1, hx.2.1]; exact hf
    have hi := ih.1.inb hf'
    have hs : (outF x.a k).s = ((x.a.acked + 1 + k : Nat) : Int) := rfl
    have hN16 : outN x.a ≤ 16 := by unfold outN; omega
    have hgk := (hi.2.1 (by omega)).2 (by omega)
    refine .inl ⟨hi.1, ?_⟩
    show x.a.acked + (k + 1) ≤ (inS (xF x k).b (outF x.a k)).got
    omega
theorem xF_ok {x : Tw} {n : Nat} (h : GoodT x n) (hn : n ≤ 1000) {k : Nat} (hk : k < outN x.a) : inE (xF x k).b (outF x.a k) = 0 ∧ GoodT (xF x k) (n + k) ∧ (outF x.a k).s ≤ 9223372036854775807 ∧ (outF x.a k).body.length ≤ 1048576 := by
  have hx := xF_same x k
  have ih : GoodT (xF x k) (n + k) ∧ x.a.acked + k ≤ (xF x k).b.got := by
    rcases xF_good h k (by omega) with h1 | ⟨rfl, h1⟩
    · exact h1
    · exact ⟨h1, h.ab⟩
  have hf := out_first h (out_mem hk)
  have hf' : (outF x.a k).e = (xF x k).a.ep ∧ (outF x.a k).a = 0 ∧ ∃ q : Nat, (outF x.a k).s = q ∧ 1 ≤ q ∧ q ≤ (xF x k).sent.length ∧ q ≤ (xF x k).a.acked + 16 ∧ (outF x.a k).body = lth (xF x k).sent (q - 1) := by rw [hx.1, hx.2.1]; exact hf
  have hi := ih.1.inb hf'
  have hs : (outF x.a k).s = ((x.a.acked + 1 + k : Nat) : Int) := rfl
  have hN16 : outN x.a ≤ 16 := by unfold outN; omega
  obtain ⟨_, _, q, e1, e2, e3, _, e4⟩ := hf
  exact ⟨(hi.2.1 (by omega)).1, ih.1, by have := h.sl; have := ih.1.acn; have := h.aack; omega, by rw [e4]; exact h.body _ (lth_mem (by omega))⟩
/-- .. and the note that answers it -/
def xN (x : Tw) : Tw := { xF x (outN x.a) with a := inS (xF x (outN x.a)).a (noteF (xF x (outN x.a)).b), came := (xF x (outN x.a)).came ++ inL (xF x (outN x.a)).a (noteF (xF x (outN x.a)).b) }
theorem xN_good {x : Tw} {n : Nat} (h : GoodT x n) : inE (xF x (outN x.a)).a (noteF (xF x (outN x.a)).b) = 0 ∧ inL (xF x (outN x.a)).a (noteF (xF x (outN x.a)).b) = [] ∧ GoodT (xN x) (n + 17) ∧ (xN x).sent = x.sent ∧ min x.sent.length (x.a.acked + 16) ≤ (xN x).a.acked := by
  have hx := xF_same x (outN x.a)
  have hN16 : outN x.a ≤ 16 := by unfold outN; omega
  have ih : GoodT (xF x (outN x.a)) (n + outN x.a) ∧ x.a.acked + outN x.a ≤ (xF x (outN x.a)).b.got := by
    rcases xF_good h (outN x.a) (Nat.le_refl _) with h1 | ⟨e, h1⟩
    · exact h1
    · refine ⟨h1, ?_⟩
      have := h.ab
      rw [e]; show x.a.acked + 0 ≤ x.b.got; omega
  have hi := ih.1.ina (f := noteF (xF x (outN x.a)).b) ⟨ih.1.ep, rfl, rfl, by show (0 : Int) ≤ ((xF x (outN x.a)).b.got : Int); omega, Int.le_refl _⟩
  have hw : outN x.a = min (x.sent.length - x.a.acked) 16 := by unfold outN; rw [h.await, List.length_drop]
  have ha := h.aack
  refine ⟨hi.2.2.1, hi.1, hi.2.1.more (by omega), hx.2.1, ?_⟩
  have := hi.2.2.2 rfl
  show min x.sent.length (x.a.acked + 16) ≤ (inS (xF x (outN x.a)).a (noteF (xF x (outN x.a)).b)).acked
  omega
theorem addCame2 {col : Nat → Nat} {w0 w : World} {t : Nat} {x : Tw} {pa pb : Nat} {vr vs vc : Value} {css : List (List Value)} {xs xc : List Value} (h : TwoIs col w0 w t x pa pb vr vs vc css xs xc) {us : List Value} {ls : List (List Nat)} (hd : Dats col w us ls) {w3 : World} {v' : Value} (hr : w3.ownsRow 0 29 1 v' (x.came.length + ls.length) (xc ++ us)) (hg : w.grownBy w3 vc.ownBlock)
    (hat : v'.ownBlock = vc.ownBlock ∨ v'.ownBlock = some w.heap.size) : ∃ col', Ext w col col' ∧ (∀ k, k < w.heap.size → col k = 0 → (w3.setCell ⟨t, 4, none⟩ v').heap[k]? = w.heap[k]?) ∧ w.heap.size ≤ (w3.setCell ⟨t, 4, none⟩ v').heap.size ∧
    TwoIs col' w0 (w3.setCell ⟨t, 4, none⟩ v') t { x with came := x.came ++ ls } pa pb vr vs v' css xs (xc ++ us) := by
  obtain ⟨e1, e2, e3, e4⟩ := app_col h.fresh h.came.2 hg hr hat
  refine ⟨_, e1, fun k hk hc => ?_, by rw [World.size_setCell]; exact hg.size, h.stored (d := 6) (by decide) e3 e1 e2 ({ x with came := x.came ++ ls }) rfl rfl (h.row.other e3 (by decide) e1) (h.rowd.go e3 (by decide) e1) (h.sent.other e3 (by decide) e1) (h.sentd.go e3 (by decide) e1) ⟨?_, e4⟩ (Dats.app (hd.go e3 (by decide) e1) (h.camed.go e3 (by decide) e1)) 4 v' (fun j hj => ?_)⟩
  · have hkt : k ≠ t := by rintro rfl; rw [h.ct] at hc; cases hc
    rw [Below.heap_setCell _ _ _ _ hkt, e3.block k hk (by rw [hc]; decide)]
  · rw [List.length_append]; exact hr
  · have : j = 0 ∨ j = 1 ∨ j = 2 ∨ j = 3 ∨ j = 4 := by omega
    rcases this with rfl | rfl | rfl | rfl | rfl <;> rfl
theorem xF_all {x : Tw} {n : Nat} (h : GoodT x n) {k : Nat} (hk : k ≤ outN x.a) : GoodT (xF x k) (n + k) := by
  rcases xF_good h k hk with h1 | ⟨_, h1⟩
  · exact h1.1
  · exact h1
/-- A frame comes to the second end, rightly. -/
def Fed (w0 w : World) (col : Nat → Nat) (t : Nat) (X : Tw) (f : Fm) (pa pb : Nat) (vr vs vc : Value) (css : List (List Value)) (xs xc : List Value) (e : Ending) (w' : World) : Prop :=
  ∃ A c us, e = .returned (.tuple #[.slice A (inL X.b f).length c, .int .i64 0]) ∧ (inL X.b f).length ≤ c ∧ c ≤ 9223372036854775807 ∧ Stand w' A (inL X.b f).length us ∧ us.length = (inL X.b f).length * 1 ∧ Dats col w' us (inL X.b f) ∧
    (∀ q, q < w.heap.size → col q = 0 → w'.heap[q]? = w.heap[q]?) ∧ w.heap.size ≤ w'.heap.size ∧ TwoIs col w0 w' t { X with b := inS X.b f } pa pb vr vs vc css xs xc
theorem in_frame {col : Nat → Nat} {w0 w : World} {t : Nat} {X : Tw} {pa pb : Nat} {vr vs vc : Value} {css : List (List Value)} {xs xc : List Value} (h : TwoIs col w0 w t X pa pb vr vs vc css xs xc) (f : Fm) (B : Option Addr) (cB : Nat)
    (hd : Dat col w (.slice B f.body.length cB) f.body) (hl : f.body.length ≤ 1048576) (hcn : X.b.cnt + 2 ≤ 1000000) (hs : f.s ≤ 9223372036854775807) (hE : inE X.b f = 0) :
    Calls Try.prog 14 #[.pointer (some ⟨pb, 0, none⟩), .agg #[.int .i64 f.v, .int .i64 f.e, .int .i64 f.s, .int .i64 f.a, .slice B f.body.length cB]] w (Fed w0 w col t X f pa pb vr vs vc css xs xc) := by
  obtain ⟨_, _, ed, hb, hd⟩ := hd
  cases ed
  refine (in_any0 f B cB w h.b hb (by omega) (hd.imp id (fun h y e => by rw [(h y e).1]; decide)) (by decide) h.fresh hcn hs).mono ?_
  rintro e w' ⟨b, us, rfl, ho, hds, hg, hE'⟩
  obtain ⟨A, c, rfl, h1, h2⟩ := own_form ho
  refine ⟨A, c, us, by rw [hE]; rfl, h1, h2, ?_, ho.1, hds, fun q hq hc => hg.block q hq (by rw [hc]; decide), hg.size, h.setB hg (Ext.refl _ _) (h.fresh.size hg.size) hE'⟩
  rcases ho.2 with ⟨_, e0⟩ | ⟨g0, cap0, cur0, e0, _⟩
  · exact .inl e0
  · cases e0
    exact .inr ⟨_, rfl, ho.cells (g := g0) rfl⟩
/-- The note that answers comes to the first. -/
theorem in_note {col : Nat → Nat} {w0 w : World} {t : Nat} {X : Tw} {pa pb : Nat} {vr vs vc : Value} {css : List (List Value)} {xs xc : List Value} (h : TwoIs col w0 w t X pa pb vr vs vc css xs xc) (A2 : Option Addr) (c2 : Nat)
    (hcn : X.a.cnt + 2 ≤ 1000000) (hE : inE X.a (noteF X.b) = 0) (hL : inL X.a (noteF X.b) = []) :
    Calls Try.prog 14 #[.pointer (some ⟨pa, 0, none⟩), .agg #[.int .i64 0, .int .i64 X.b.ep, .int .i64 0, .int .i64 X.b.got, .slice A2 0 c2]] w fun e w' => ∃ A c, e = .returned (.tuple #[.slice A 0 c, .int .i64 0]) ∧ TwoAt w0 w' t { X with a := inS X.a (noteF X.b) } := by
  refine (in_any0 (noteF X.b) A2 c2 w h.a ⟨rfl, by simp [noteF], by simp [noteF], .inl rfl⟩ (by simp [noteF]) (.inl rfl) (by decide) h.fresh hcn (by simp [noteF])).mono ?_
  rintro e w' ⟨b, us, rfl, ho, -, hg, hE'⟩
  rw [hL] at ho
  obtain ⟨A, c, rfl, -, -⟩ := own_form ho
  exact ⟨A, c, by rw [hE]; rfl, _, _, _, _, _, _, _, _, _, h.setA hg (Ext.refl _ _) (h.fresh.size hg.size) hE'⟩
theorem all_came {x : Tw} {n : Nat} (h : GoodT x n) (hL : x.sent.length ≤ 150) (hA : min x.sent.length 192 ≤ x.a.acked) : x.a.wait.length = 0 ∧ outN x.a = 0 ∧ x.came = x.sent := by
  have h1 := h.aack
  have h2 := h.ab
  have hw : x.a.wait.length = 0 := by rw [h.await, List.length_drop]; omega
  refine ⟨hw, by unfold outN; omega, ?_⟩
  rw [h.came, List.take_of_length_le (by omega)]
end Go.Proofs.Ythiadkpndemeeaa.lnkEn
