/- Both sessions side by side. -/
import Derived.Test.YtnicomhodnfggaaSeRi
import Derived.Test.YtnicomhodnfggaaSeY
set_option linter.unusedVariables false
set_option linter.unusedSimpArgs false
set_option maxRecDepth 100000
namespace Go.Proofs.Ytnicomhodnfggaa.seZ
open Go.ChangeShapes Go.WideShapes Go.ChangeAt Go.RowKit Go.Deep
open opV opO chnM gen chnA chnR chnE seM seI ordC seL seN seB seK seV seW seG seC seA seS seJ seRi seQ seR seU seX seY

/-- the document's session, of a color of its own -/
def XD (q : Nat) (S : Ss) : Wh := fun col V => DocAt col 2 V q S
theorem st_XD {d q : Nat} {S : Ss} (hd : d ≠ 0) (h2 : 2 ≠ d) : St d (XD q S) := fun _ _ _ _ hg he h => DocAt.other h hg hd h2 he
abbrev zD (w : World) : World := w.alloc (.cells #[.int .u64 0, .int .u64 0, .bool false, .slice none 0 0, .slice none 0 0] TD)
section
variable {w V V' : World} {p q B : Nat} {S Y Y' : Ss} {o : Oq} {X Z : Wh}
theorem j_rot (h : J w (X2 X (X2 (XD q Y) Z)) V) : J w (X2 (XD q Y) (X2 X Z)) V := by
  obtain ⟨col, h1, h2, h3, h4⟩ := h
  exact ⟨col, h1, h3, h2, h4⟩
theorem j_rot' (h : J w (X2 (XD q Y) (X2 X Z)) V) : J w (X2 X (X2 (XD q Y) Z)) V := by
  obtain ⟨col, h1, h2, h3, h4⟩ := h
  exact ⟨col, h1, h3, h2, h4⟩
theorem j_dlv {F : FuncId} {args : Array Value} {v : Value} (h : J w (X2 (XS p S) (X2 (XD q Y) Z)) V) (hZ : St 2 Z)
    (hcall : ∀ col, Fresh col V → DocAt col 2 V q Y → Calls Try.prog F args V (fun e w' => e = .returned v ∧ DLv col 2 q Y' V w')) : Calls Try.prog F args V fun e w' => e = .returned v ∧ J w (X2 (XS p S) (X2 (XD q Y') Z)) w' := by
  have h' := j_rot h
  obtain ⟨col, h1, h2, h3⟩ := h'
  refine (hcall col h1.fr h2).mono ?_
  rintro e w' ⟨hE, col', hC, hD⟩
  exact ⟨hE, j_rot' ⟨col', h1.go hC (by decide), hD, st_X2 (st_XS (by decide) (by decide)) hZ _ _ _ _ hC.2.2 hC.1 h3⟩⟩
theorem jd_begin (h : J w (X2 (XS p S) (X2 (XD q Y) Z)) V) (hZ : St 2 Z) (hok : Y.ok) (hcn : Y.cnt ≤ 10000) (t : Int) : Calls Try.prog 10 #[.pointer (some ⟨q, 0, none⟩), .int .u64 t] V fun e w' =>
    e = .returned (.tuple #[.int .u64 (beT Y t), .int .i64 (beE Y)]) ∧ J w (X2 (XS p S) (X2 (XD q (beS Y t)) Z)) w' :=
  j_dlv h hZ fun col hf hd => dbegin_at V hd (by decide) hf hok hcn t
theorem jd_write (h : J w (X2 (XS p S) (X2 (XD q Y) Z)) V) (hZ : St 2 Z) (hok : Y.ok) (key val : ByteArray) (gone : Bool) : Calls Try.prog 12 #[.pointer (some ⟨q, 0, none⟩), .string key, .string val, .bool gone] V fun e w' =>
    e = .returned (.int .i64 (wrE Y key val gone)) ∧ J w (X2 (XS p S) (X2 (XD q (wrS Y key val gone)) Z)) w' :=
  j_dlv h hZ fun col hf hd => dwrite_at V hd hok (by decide) hf key val gone
theorem jd_commit (h : J w (X2 (XS p S) (X2 (XD q Y) Z)) V) (hZ : St 2 Z) (hok : Y.ok) (ts dc tx : Int) (hcn : Y.cnt ≤ 10000) : Calls Try.prog 14 #[.pointer (some ⟨q, 0, none⟩), mk (ts, dc, tx)] V fun e w' =>
    e = .returned (.int .i64 (coE Y ts)) ∧ J w (X2 (XS p S) (X2 (XD q (coS Y ts dc tx)) Z)) w' :=
  j_dlv h hZ fun col hf hd => dcommit_at V hd hok (by decide) hf ts dc tx hcn
theorem jd_close (h : J w (X2 (XS p S) (X2 (XD q Y) Z)) V) (hZ : St 2 Z) (hok : Y.ok) : Calls Try.prog 16 #[.pointer (some ⟨q, 0, none⟩)] V fun e w' =>
    e = .returned (.int .i64 (clE Y)) ∧ J w (X2 (XS p S) (X2 (XD q (clS Y)) Z)) w' :=
  j_dlv h hZ fun col hf hd => dclose_at V hd (by decide) hf hok
theorem jd_look (h : J w (X2 (XS p S) (X2 (XD q Y) Z)) V) (hZ : St 9 Z) (k : ByteArray) : Calls Try.prog 18 #[.pointer (some ⟨q, 0, none⟩), .string k] V fun e w' =>
    e = .returned (.tuple #[vv (lkV Y k), .int .i64 (lkN Y k)]) ∧ Below V.heap.size V w' := by
  obtain ⟨col, h1, h2, h3, h4⟩ := h
  exact dlook_at V h3 k
theorem st9d (hZ : St 9 Z) : St 9 (X2 (XS p S) (X2 (XD q Y) Z)) := st_X2 (st_XS (by decide) (by decide)) (st_X2 (st_XD (by decide) (by decide)) hZ)
theorem jd_box (h : J w (X2 (XS p S) (X2 (XD q Y) Z)) V) (hZ : St 9 Z) (o : Oq) : J w (X2 (XS p S) (X2 (XD q Y) (X2 (XB V.heap.size o) Z))) (V.alloc (.cells (cO o) 33)) := by
  obtain ⟨col, h1, h2, h3, h4, h5⟩ := j_box h (st9d hZ) o
  exact ⟨col, h1, h3, h4, h2, h5⟩
theorem jd_o8 (h : J w (X2 (XS p S) (X2 (XD q Y) (X2 (XB B o) Z))) V) : O8 B 0 o V := by
  obtain ⟨col, h1, h2, h3, h4, h5⟩ := h
  exact h4.1
theorem jd_drop (h : J w (X2 (XS p S) (X2 (XD q Y) (X2 (XB B o) Z))) V) : J w (X2 (XS p S) (X2 (XD q Y) Z)) V := by
  obtain ⟨col, h1, h2, h3, h4, h5⟩ := h
  exact ⟨col, h1, h2, h3, h5⟩
theorem jd_start (h : J w (X2 (XS p S) XT) V) : J w (X2 (XS p S) (X2 (XD V.heap.size S0) XT)) (zD V) := by
  obtain ⟨col, h1, h2, -⟩ := h
  have hB := al0 V (.cells #[.int .u64 0, .int .u64 0, .bool false, .slice none 0 0, .slice none 0 0] TD)
  have hs : (zD V).heap.size = V.heap.size + 1 := by simp
  have hE : Ext V col (fun k => if k = V.heap.size then 2 else col k) := fun k hk => if_neg (by omega)
  have hg := Chg.of_below col 9 hB
  have hr := World.rowIs_alloc V #[.int .u64 0, .int .u64 0, .bool false, .slice none 0 0, .slice none 0 0] TD (cS 0 0 false (.slice none 0 0) (.slice none 0 0)) (fun i hi => by
    rcases five (i := i) (by simpa using hi) with rfl | rfl | rfl | rfl | rfl <;> simp [cS])
  refine ⟨_, h1.go ⟨hE, fun k hk => ?_, hg⟩ (by decide), h2.other hg (by decide) (by decide) hE, ⟨none, 0, none, 0, hr, DV.nil_ _ _, DV.nil_ _ _, if_pos rfl⟩, trivial⟩
  rw [hs] at hk
  show (if k = V.heap.size then 2 else col k) = 0
  rw [if_neg (by omega)]
  exact h1.fr k (by omega)
end
/-- both, and two boxes with what was looked up, while a round's last line is asked -/
def KK (w : World) (p q : Nat) (S : Ss) (Aw : Option Addr) (cw : Nat) (Ac : Option Addr) (cc b1 b2 : Nat) (lv : Ver) (X : World) : Prop :=
  ∃ col, LW w col X ∧ SesAt col 1 X p S ∧ DocM col 2 X q S.snap S.last S.op Aw cw S.ws Ac cc S.ca ∧ V6 b1 0 lv X ∧ V6 b2 0 lv X
abbrev SC (q : Nat) (S : Ss) (Aw : Option Addr) (cw b1 b2 : Nat) (lv : Ver) (X : World) : Prop :=
  (V6 b1 0 lv X ∧ V6 b2 0 lv X) ∧ X.cell? ⟨q, 0, none⟩ = some (.int .u64 S.snap) ∧ X.cell? ⟨q, 2, none⟩ = some (.bool S.op) ∧ X.cell? ⟨q, 3, none⟩ = some (.slice Aw S.ws.length cw)
section
variable {w X X' : World} {p q : Nat} {S : Ss} {Aw Ac : Option Addr} {cw cc b1 b2 : Nat} {lv : Ver}
theorem KK.below (h : KK w p q S Aw cw Ac cc b1 b2 lv X) (hB : Below X.heap.size X X') : KK w p q S Aw cw Ac cc b1 b2 lv X' := by
  obtain ⟨col, h1, h2, h3, h4, h5⟩ := h
  exact ⟨col, h1.go (Cn.below (c := 9) h1.fr hB) (by decide), h2.below hB, h3.below hB, h4.below hB, h5.below hB⟩
theorem KK.sc (h : KK w p q S Aw cw Ac cc b1 b2 lv X) : SC q S Aw cw b1 b2 lv X := by
  obtain ⟨col, h1, h2, h3, h4, h5⟩ := h
  exact ⟨⟨h4, h5⟩, h3.cells.1, h3.cells.2.2.1, h3.cells.2.2.2.1⟩
theorem KK.j (h : KK w p q S Aw cw Ac cc b1 b2 lv X) : J w (X2 (XS p S) (X2 (XD q S) XT)) X := by
  obtain ⟨col, h1, h2, h3, h4, h5⟩ := h
  exact ⟨col, h1, h2, ⟨_, _, _, _, h3⟩, trivial⟩
theorem kk_of (h : J w (X2 (XS p S) (X2 (XD q S) XT)) X) (h1 : V6 b1 0 lv X) (h2 : V6 b2 0 lv X) : ∃ Aw cw Ac cc, KK w p q S Aw cw Ac cc b1 b2 lv X := by
  obtain ⟨col, k1, k2, ⟨Aw, cw, Ac, cc, k3⟩, k4⟩ := h
  exact ⟨Aw, cw, Ac, cc, col, k1, k2, k3, h1, h2⟩
theorem k_open (h : KK w p q S Aw cw Ac cc b1 b2 lv X) : Calls Try.prog 19 #[.pointer (some ⟨p, 0, none⟩)] X fun e w' => e = .returned (.bool S.op) ∧ X = w' := by
  obtain ⟨col, h1, h2, h3, h4, h5⟩ := h
  exact open_at X h2
theorem k_snap (h : KK w p q S Aw cw Ac cc b1 b2 lv X) : Calls Try.prog 20 #[.pointer (some ⟨p, 0, none⟩)] X fun e w' => e = .returned (.int .u64 S.snap) ∧ X = w' := by
  obtain ⟨col, h1, h2, h3, h4, h5⟩ := h
  exact snap_at X h2
theorem k_low (h : KK w p q S Aw cw Ac cc b1 b2 lv X) : Calls Try.prog 21 #[.pointer (some ⟨p, 0, none⟩)] X fun e w' => e = .returned (.int .u64 (low S)) ∧ KK w p q S Aw cw Ac cc b1 b2 lv w' := by
  have hb := fun X' hB => KK.below (X' := X') h hB
  obtain ⟨col, h1, h2, h3, h4, h5⟩ := h
  refine (low_below X h2).mono ?_
  rintro e w' ⟨he, hB⟩
  exact ⟨he, hb _ hB⟩
theorem k_dlow (h : KK w p q S Aw cw Ac cc b1 b2 lv X) : Calls Try.prog 22 #[.pointer (some ⟨q, 0, none⟩)] X fun e w' => e = .returned (.int .u64 (low S)) ∧ KK w p q S Aw cw Ac cc b1 b2 lv w' := by
  have hb := fun X' hB => KK.below (X' := X') h hB
  obtain ⟨col, h1, h2, h3, h4, h5⟩ := h
  refine (dlow_at X ⟨_, _, _, _, h3⟩).mono ?_
  rintro e w' ⟨he, m, rfl⟩
  exact ⟨he, hb _ (bdrN m (Below.refl _ _))⟩
theorem k_writes (h : KK w p q S Aw cw Ac cc b1 b2 lv X) (hok : S.ok) : Calls Try.prog 24 #[.pointer (some ⟨p, 0, none⟩)] X fun e w' =>
    ∃ A c, e = .returned (.slice A S.ws.length c) ∧ HV w' A c S.ws ∧ KK w p q S Aw cw Ac cc b1 b2 lv w' := by
  have hb := fun X' hB => KK.below (X' := X') h hB
  obtain ⟨col, h1, h2, h3, h4, h5⟩ := h
  refine (writes_at X h2 hok).mono ?_
  rintro e w' ⟨A, c, he, hG, hB⟩
  exact ⟨A, c, he, hG.hv (by have := hok.le; omega), hb _ hB⟩
theorem k_same (h : KK w p q S Aw cw Ac cc b1 b2 lv X) {A : Option Addr} {c : Nat} (hv : HV X A c S.ws) : Calls Try.prog 23 #[.slice A S.ws.length c, .slice Aw S.ws.length cw] X fun e w' => e = .returned (.bool true) ∧ KK w p q S Aw cw Ac cc b1 b2 lv w' := by
  have hb := fun X' hB => KK.below (X' := X') h hB
  obtain ⟨col, h1, h2, h3, h4, h5⟩ := h
  refine (samevers A c S.ws Aw cw S.ws X hv h3.wd.hv).mono ?_
  rintro e w' ⟨he, hB⟩
  rw [decide_eq_true rfl] at he
  exact ⟨he, hb _ hB⟩
end
end Go.Proofs.Ytnicomhodnfggaa.seZ
