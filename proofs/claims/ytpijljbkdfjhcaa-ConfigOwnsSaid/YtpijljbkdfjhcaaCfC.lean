/- The maps of a configuration in memory: of any, and of the call's own; what stores leave of them. join, speak. -/
import Derived.Test.YtpijljbkdfjhcaaCfB
import Derived.Test.YtpijljbkdfjhcaaSpnS
set_option linter.unusedVariables false
set_option maxRecDepth 100000
namespace Go.Proofs.Ytpijljbkdfjhcaa.cfC
open Go.ChangeShapes Go.WideShapes Go.ChangeAt Go.RowKit Go.Deep
open spnM spnA spnB spnD spnI spnS cfA cfB

abbrev TS : TypeId := 30
abbrev TR : TypeId := 34
/-- maps that may be read -/
def HS (w : World) (s : Cf) (a : Wh) : Prop := ∀ i, i < 4 → HM w (a i).A1 (a i).c1 (a i).A2 (a i).c2 (s.ms i)
def Sz (s : Cf) : Prop := ∀ i, i < 4 → (s.ms i).cs.length * 16 ≤ 140737488351232 ∧ (s.ms i).ns.length * 8 ≤ 140737488351232
/-- maps of the call's own -/
def GS (w : World) (base : Nat) (s : Cf) (a : Wh) : Prop := ∀ i, i < 4 → GM w base (a i).A1 (a i).c1 (a i).A2 (a i).c2 (s.ms i)
section
variable {w w1 : World} {s s' : Cf} {a a' : Wh} {base base' b : Nat} {T : TypeId}
theorem HS.below (h : HS w s a) (hB : Below w.heap.size w w1) : HS w1 s a := fun i hi => (h i hi).below hB
theorem HS.step {B : Nat} (h : HS w s a) (hb : Below B w w1) (hB : w.heap.size ≤ B) : HS w1 s a := fun i hi => (h i hi).step hb hB
theorem HS.sz (h : HS w s a) : Sz s := fun i hi => ⟨(h i hi).s1, (h i hi).s2⟩
theorem GS.below (h : GS w base s a) (hB : Below w.heap.size w w1) : GS w1 base s a := fun i hi => (h i hi).below hB
theorem GS.more (h : GS w base s a) (hb : base' ≤ base) : GS w base' s a := fun i hi => (h i hi).more hb
theorem GS.hs (h : GS w base s a) (hs : Sz s) : HS w s a := fun i hi => (h i hi).hm (hs i hi).1 (hs i hi).2
theorem HS.ms (h : HS w s a) (e : ∀ i, i < 4 → s'.ms i = s.ms i) : HS w s' a := fun i hi => by rw [e i hi]; exact h i hi
theorem GS.ms (h : GS w base s a) (e : ∀ i, i < 4 → s'.ms i = s.ms i) : GS w base s' a := fun i hi => by rw [e i hi]; exact h i hi
theorem HS.put (h : HS w s a) (j : Nat) {A1 A2 : Option Addr} {c1 c2 : Nat} {m : M} (hm : HM w A1 c1 A2 c2 m) (s' : Cf) (e : s'.ms = upd s.ms j m) : HS w s' (upd a j ⟨A1, c1, A2, c2⟩) := fun i hi => by
  rw [e]
  by_cases hij : i = j
  · subst hij; rw [upd_same, upd_same]; exact hm
  · rw [upd_other _ _ hij, upd_other _ _ hij]; exact h i hi
theorem GS.put (h : GS w base s a) (j : Nat) {A1 A2 : Option Addr} {c1 c2 : Nat} {m : M} (hm : GM w base A1 c1 A2 c2 m) (s' : Cf) (e : s'.ms = upd s.ms j m) : GS w base s' (upd a j ⟨A1, c1, A2, c2⟩) := fun i hi => by
  rw [e]
  by_cases hij : i = j
  · subst hij; rw [upd_same, upd_same]; exact hm
  · rw [upd_other _ _ hij, upd_other _ _ hij]; exact h i hi
theorem Sz.put (h : Sz s) (j : Nat) {m : M} (hm : m.cs.length * 16 ≤ 140737488351232 ∧ m.ns.length * 8 ≤ 140737488351232) (s' : Cf) (e : s'.ms = upd s.ms j m) : Sz s' := fun i hi => by
  rw [e]
  by_cases hij : i = j
  · subst hij; rw [upd_same]; exact hm
  · rw [upd_other _ _ hij]; exact h i hi
/-- a row and a box have not one block -/
theorem row_box {n k base sz : Nat} {e : TypeId} {v : Value} {xs : List Value} (hS : SB T b s a w) (ho : w.ownsRow base e sz v k xs) (hne : T ≠ e) : v.ownBlock ≠ some b := by
  rcases ho.2 with ⟨rfl, _⟩ | ⟨g, cap, cur, rfl, _, hg, _⟩
  · intro e; cases e
  · intro e1
    have e2 : g = b := by simpa [Value.ownBlock] using e1
    subst e2
    rw [hS.heap] at hg
    simp at hg
    exact hne hg.2
theorem GM.box {A1 A2 : Option Addr} {c1 c2 : Nat} {m : M} (h : GM w base A1 c1 A2 c2 m) (hS : SB T b s a w) (h1 : T ≠ 9) (h2 : T ≠ 3) (i : Nat) (x : Value) : GM (w.setCell ⟨b, i, none⟩ x) base A1 c1 A2 c2 m :=
  ⟨own_block h.cs fun k e => Below.heap_setCell _ _ _ _ (fun e1 => row_box (n := 0) hS h.cs h1 (by rw [e, e1])), own_block h.ns fun k e => Below.heap_setCell _ _ _ _ (fun e1 => row_box (n := 0) hS h.ns h2 (by rw [e, e1]))⟩
theorem GS.box (h : GS w base s' a') (hS : SB T b s a w) (h1 : T ≠ 9) (h2 : T ≠ 3) (i : Nat) (x : Value) : GS (w.setCell ⟨b, i, none⟩ x) base s' a' := fun k hk => GM.box (h k hk) hS h1 h2 i x
end
theorem ts1 : TS ≠ 9 := by decide
theorem ts2 : TS ≠ 3 := by decide
theorem tr1 : TR ≠ 9 := by decide
theorem tr2 : TR ≠ 3 := by decide
/-- what a call on a box leaves: the box holds s', its maps are the call's own, no block below base has changed -/
def Bx (T : TypeId) (b base : Nat) (s' : Cf) (w0 w : World) : Prop := ∃ a', SB T b s' a' w ∧ GS w base s' a' ∧ Below base w0 w
abbrev whole : M := ⟨[], [0]⟩
def joinM (s : Cf) (j : Nat) : Cf := { s with me := upd s.me j true, ms := upd s.ms j whole }
/-- a map stored into the box -/
theorem bx_mapT {T : TypeId} (ht1 : T ≠ 9) (ht2 : T ≠ 3) {b base j : Nat} {s : Cf} {a : Wh} {w0 w : World} {A1 A2 : Option Addr} {c1 c2 : Nat} {m : M} (hj : j < 4) (hS : SB T b s a w) (hG : GS w base s a) (hB : Below base w0 w) (hb : base ≤ b) (hm : GM w base A1 c1 A2 c2 m) :
    Bx T b base { s with ms := upd s.ms j m } w0 ((w.setCell ⟨b, 6 + j * 2, none⟩ (.slice A1 m.cs.length c1)).setCell ⟨b, 6 + j * 2 + 1, none⟩ (.slice A2 m.ns.length c2)) := by
  have g2 := hG.box hS ht1 ht2 (6 + j * 2) (.slice A1 m.cs.length c1)
  have g3 := GM.box hm hS ht1 ht2 (6 + j * 2) (.slice A1 m.cs.length c1)
  have q := hS.setMa hj A1 c1 A2 c2 m
  obtain ⟨cc, hcc⟩ : ∃ cc, (w.setCell ⟨b, 6 + j * 2, none⟩ (.slice A1 m.cs.length c1)).heap[b]? = some (.cells cc T (0, 0)) := ⟨_, heap_setCell_same w b (6 + j * 2) _ T (.slice A1 m.cs.length c1) hS⟩
  have hne : ∀ {v : Value} {sz k : Nat} {e : TypeId} {xs : List Value}, (w.setCell ⟨b, 6 + j * 2, none⟩ (.slice A1 m.cs.length c1)).ownsRow base e sz v k xs → T ≠ e → v.ownBlock ≠ some b := by
    intro v sz k e xs ho hne
    rcases ho.2 with ⟨rfl, _⟩ | ⟨g, cap, cur, rfl, _, hg, _⟩
    · intro e; cases e
    · intro e1
      have e2 : g = b := by simpa [Value.ownBlock] using e1
      subst e2
      rw [hcc] at hg
      simp at hg
      exact hne hg.2
  have again : ∀ {A1' A2' : Option Addr} {c1' c2' : Nat} {m' : M}, GM (w.setCell ⟨b, 6 + j * 2, none⟩ (.slice A1 m.cs.length c1)) base A1' c1' A2' c2' m' → GM ((w.setCell ⟨b, 6 + j * 2, none⟩ (.slice A1 m.cs.length c1)).setCell ⟨b, 6 + j * 2 + 1, none⟩ (.slice A2 m.ns.length c2)) base A1' c1' A2' c2' m' := fun h =>
    ⟨own_block h.cs fun k e => Below.heap_setCell _ _ _ _ (fun e1 => hne h.cs ht1 (by rw [e, e1])), own_block h.ns fun k e => Below.heap_setCell _ _ _ _ (fun e1 => hne h.ns ht2 (by rw [e, e1]))⟩
  exact ⟨_, q, GS.put (s := s) (fun i hi => again (g2 i hi)) j (again g3) _ rfl, (hB.setCell (p := ⟨b, 6 + j * 2, none⟩) hb _).setCell (p := ⟨b, 6 + j * 2 + 1, none⟩) hb _⟩
theorem bx_map {b base j : Nat} {s : Cf} {a : Wh} {w0 w : World} {A1 A2 : Option Addr} {c1 c2 : Nat} {m : M} (hj : j < 4) (hS : SB TS b s a w) (hG : GS w base s a) (hB : Below base w0 w) (hb : base ≤ b) (hm : GM w base A1 c1 A2 c2 m) :
    Bx TS b base { s with ms := upd s.ms j m } w0 ((w.setCell ⟨b, 6 + j * 2, none⟩ (.slice A1 m.cs.length c1)).setCell ⟨b, 6 + j * 2 + 1, none⟩ (.slice A2 m.ns.length c2)) := bx_mapT ts1 ts2 hj hS hG hB hb hm
theorem Bx.drew {T : TypeId} {b base : Nat} {s : Cf} {w0 w : World} (h : Bx T b base s w0 w) : Bx T b base s w0 w.drew := by
  obtain ⟨a', h1, h2, h3⟩ := h
  exact ⟨a', h1, fun i hi => ⟨(h2 i hi).cs, (h2 i hi).ns⟩, h3.drew⟩
theorem join_any (b base j : Nat) (s : Cf) (a : Wh) (w : World) (hj : j < 4) (hS : SB TS b s a w) (hG : GS w base s a) (hb : base ≤ b) (hbw : base ≤ w.heap.size) :
    Calls Try.prog 28 #[.pointer (some ⟨b, 0, none⟩), .int .i64 j] w fun e w' => e = .returned (.tuple #[]) ∧ Bx TS b base (joinM s j) w w' := by
  have hj0 : (0 : Int) ≤ (j : Int) := by omega
  have hj1 : (j : Int) < 4 := by omega
  have k0 := hS.me hj
  have f0 := hS.fz
  have hS1 := hS.setMe hj true
  have hG1 := hG.box hS ts1 ts2 (2 + j) (.bool true)
  have hB1 := (Below.refl base w).setCell (p := ⟨b, 2 + j, none⟩) hb (.bool true)
  have hz1 : base ≤ (w.setCell ⟨b, 2 + j, none⟩ (.bool true)).heap.size := by simp; exact hbw
  have hw := Lib.hid (fun w => whole_any 0 w)
  have hend := Lib.hid (fun (W w' : World) (A1 A2 : Option Addr) (c1 c2 : Nat) (h1 : SB TS b { s with me := upd s.me j true } a W) (h2 : GS W base s a) (h3 : Below base w W) (h4 : base ≤ W.heap.size) (hG' : GM w' W.heap.size A1 c1 A2 c2 whole) (hB' : Below W.heap.size W w') =>
    (bx_map (s := { s with me := upd s.me j true }) hj (h1.below hB') ((h2.below hB').ms fun _ _ => rfl) (h3.trans (hB'.mono h4)) hb (hG'.more h4) :
      Bx TS b base (joinM s j) w ((w'.setCell ⟨b, 6 + j * 2, none⟩ (.slice A1 0 c1)).setCell ⟨b, 6 + j * 2 + 1, none⟩ (.slice A2 1 c2))))
  go_enter Try.func28, Try.ntmps28
  go_wp2
  obtain ⟨W, hW⟩ : ∃ W, w.setCell ⟨b, 2 + j, none⟩ (.bool true) = W := ⟨_, rfl⟩
  rw [hW] at hS1 hG1 hB1 hz1 ⊢
  have hfin := Lib.hid (fun (w' : World) (A1 A2 : Option Addr) (c1 c2 : Nat) => hend.out W.drew w' A1 A2 c1 c2 hS1.drew (fun i hi => ⟨(hG1 i hi).cs, (hG1 i hi).ns⟩) hB1.drew hz1)
  replace hS1 := Lib.hid hS1.drew
  clear k0 f0 hS hG hG1 hB1 hz1 hend hW
  go_region_with (first | (go_at_call 39; ((with_reducible refine (hw.out _).mono ?_); rintro e w' ⟨A1, c1, A2, c2, rfl, hG', hB'⟩; have hS' := hS1.out.below hB'; have y0 := hS'.m1 hj; have y1 := hS'.m2 hj; have f := hS'.fz)) | fail)
  all_goals
    go_wp2
    go_end0
    exact ⟨rfl, hfin.out _ _ _ _ _ hG' hB'⟩
/-- the modes of a gate and of its first nodes -/
def spkF (mo : Nat → Int) (j : Nat) (n : Nat) (x : Int) : Nat → Int := fun p => if 1 + 5 * j ≤ p ∧ p < 1 + 5 * j + n then x else mo p
theorem spkF_0 (mo : Nat → Int) (j : Nat) (x : Int) : spkF mo j 0 x = mo := by funext p; unfold spkF; rw [if_neg (by omega)]
theorem spkF_up (mo : Nat → Int) (j n : Nat) (x : Int) : upd (spkF mo j n x) (1 + 5 * j + n) x = spkF mo j (n + 1) x := by
  funext p
  unfold upd spkF
  by_cases h : p = 1 + 5 * j + n
  · rw [if_pos h, if_pos (by omega)]
  · rw [if_neg h]
    by_cases h2 : 1 + 5 * j ≤ p ∧ p < 1 + 5 * j + n
    · rw [if_pos h2, if_pos (by omega)]
    · rw [if_neg h2, if_neg (by omega)]
def spkM (s : Cf) (j n : Nat) (x : Int) : Cf := { s with mo := spkF s.mo j n x }
theorem speak_any (b base j n : Nat) (x : Int) (s : Cf) (a : Wh) (w : World) (hj : j < 4) (hn : n ≤ 4) (hS : SB TS b s a w) (hG : GS w base s a) (hb : base ≤ b) :
    Calls Try.prog 29 #[.pointer (some ⟨b, 0, none⟩), .int .i64 j, .int .i64 n, .int .i64 x] w fun e w' => e = .returned (.tuple #[]) ∧ Bx TS b base (spkM s j (n + 1) x) w w' := by
  have hj0 : (0 : Int) ≤ (j : Int) := by omega
  have hj1 : (j : Int) ≤ 3 := by omega
  have hpl := Lib.hid (fun (n : Int) (w : World) (h1 : -1 ≤ n) (h2 : n ≤ 4) => place_any (j : Int) n w hj0 hj1 h1 h2)
  have hst : Hid (Bx TS b base (spkM s j 0 x) w w) := Lib.hid ⟨a, by unfold spkM; rw [spkF_0]; exact hS, hG.ms fun _ _ => rfl, Below.refl _ _⟩
  have hup := Lib.hid (fun (k : Nat) (hk : k < 5) (wx : World) (h : Bx TS b base (spkM s j k x) w wx) => (by
    obtain ⟨a', h1, h2, h3⟩ := h
    have hlt : 1 + 5 * j + k < 21 := by omega
    have e := spkF_up s.mo j k x
    have q := h1.setMo hlt x
    refine ⟨a', ?_, (h2.box h1 ts1 ts2 (14 + (1 + 5 * j + k)) (.int .i64 x)).ms fun _ _ => rfl, h3.setCell (p := ⟨b, 14 + (1 + 5 * j + k), none⟩) hb _⟩
    unfold spkM at q ⊢
    rw [← e]
    exact q :
    Bx TS b base (spkM s j (k + 1) x) w (wx.setCell ⟨b, 14 + (1 + 5 * j + k), none⟩ (.int .i64 x))))
  clear hS hG
  go_enter Try.func29, Try.ntmps29
  go_wp2
  go_loopw [8] (fun i wr => ∃ k : Nat, k ≤ n + 1 ∧ i = .int .i64 ((k : Int) - 1) ∧ Hid (Bx TS b base (spkM s j k x) w wr)) (fun i _ => (n + 1 : Int).toNat - (intOf i + 1).toNat)
  case atStart => exact ⟨0, by omega, rfl, hst⟩
  case round =>
    clear hst
    obtain ⟨k, hk, rfl, hX⟩ := hrel
    by_cases hlt : k < n + 1
    · have hlt' : (k : Int) - 1 < (n : Int) := by omega
      have hq := Lib.hid (hup.out k (by omega) wr.drew hX.out.drew)
      obtain ⟨a', hS, -, -⟩ := hX.out
      have hmo := hS.mo (j := 1 + 5 * j + k) (by omega)
      have f := hS.fz
      have g0 : (0 : Int) ≤ 1 + 5 * (j : Int) + ((k : Int) - 1) + 1 := by omega
      have g1 : 1 + 5 * (j : Int) + ((k : Int) - 1) + 1 < 21 := by omega
      have g2 : (1 + 5 * (j : Int) + ((k : Int) - 1) + 1).toNat = 1 + 5 * j + k := by omega
      have g3 : IntKind.i64.wrap ((k : Int) - 1 + 1) = (((k + 1 : Nat) : Int)) - 1 := by rw [wrap_in _ (by omega) (by omega)]; omega
      have hp := Lib.hid (fun w => hpl.out ((k : Int) - 1) w (by omega) (by omega))
      clear hS hX hup
      go_wp2
      go_region_with (first | (go_at_call 24; ((with_reducible refine (hp.out _).mono ?_); rintro e w' ⟨rfl, rfl⟩)) | fail)
      all_goals
        go_wp2
        go_roundw
        case rel => exact ⟨k + 1, by omega, by first | rfl | simp, hq⟩
        case measure => simp [intOf]; omega
    · obtain rfl : k = n + 1 := by omega
      go_wp2
      go_end0
      exact ⟨rfl, hX.out⟩
end Go.Proofs.Ytpijljbkdfjhcaa.cfC
