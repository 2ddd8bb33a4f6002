/- The document's Trim (for StorePlays). -/
import Derived.Test.YtlojmojmijklmaaStoRf
set_option linter.unusedVariables false
set_option maxRecDepth 100000
namespace Go.Proofs.Ytlojmojmijklmaa.stoRg
open Go.ChangeShapes Go.WideShapes Go.ChangeAt Go.RowKit Go.Deep
open opV chnM gen chnA chnB chnR chnE chnF chnG chnK chnT stoM stoA stoB stoC stoRa stoRb stoRc stoRd stoRe stoRf

theorem DIs.setF {B : Nat → Prop} {w : World} {M c : Nat} {s : St} {A : Option Addr} {R : List El} (h : DIs B w M s A c R) (f : Int) : DIs B (w.setCell ⟨M, 1, none⟩ (.int .u64 f)) M ⟨s.ch, f⟩ A c R := by
  have hC : Chg (fun k => k = M) w (w.setCell ⟨M, 1, none⟩ (.int .u64 f)) := Chg.setCell (K := fun k => k = M) (p := ⟨M, 1, none⟩) (Chg.refl _ _) rfl _
  refine ⟨(h.row.set 1 _).congr fun i hi => ?_, h.map, h.nil_, h.le, h.top, h.els.go hC (fun k e => e ▸ h.me), fun e he => (h.dv e he).go hC (fun k e => e ▸ h.me), h.me, fun k hk => by rw [World.size_setCell]; exact h.bd k hk⟩
  rcases (show i = 0 ∨ i = 1 by omega) with rfl | rfl <;> rfl
/-- .. and the row's own block -/
def BO (B : Nat → Prop) (v : Value) (k : Nat) : Prop := B k ∨ v.ownBlock = some k
structure SJ (B : Nat → Prop) (w : World) (P : List Ch) (wr : World) (A9 : Option Addr) (c9 : Nat) (R9 : List El) : Prop where
  map : R9.map (·.c) = P
  dv : ∀ e ∈ R9, DV (BO B (.slice A9 R9.length c9)) wr e.v e.c.l
  own : GE wr w.heap.size A9 c9 R9
  bel : Below w.heap.size w wr
section
variable {B : Nat → Prop} {w wr X1 w9 : World} {P : List Ch} {A9 A8 : Option Addr} {c9 c8 M c : Nat} {R9 R : List El} {s : St} {A : Option Addr}
theorem SJ.start (B : Nat → Prop) (w : World) : SJ B w [] w none 0 [] := ⟨rfl, fun e he => (by cases he), GE.nil_ w _, Below.refl _ _⟩
theorem SJ.len (h : SJ B w P wr A9 c9 R9) : R9.length = P.length := by rw [← h.map, List.length_map]
theorem SJ.below (h : SJ B w P wr A9 c9 R9) (hB : Below wr.heap.size wr w9) : SJ B w P w9 A9 c9 R9 :=
  ⟨h.map, fun e he => (h.dv e he).go (Chg.of_below (fun _ => False) hB) (fun k hk => hk.elim), h.own.below hB, trans0 h.bel hB⟩
theorem SJ.grow (h : SJ B w P wr A9 c9 R9) (x : El) (hx : DV (BO B (.slice A9 R9.length c9)) wr x.v x.c.l) (hB : Below wr.heap.size wr X1)
    (ho : w9.ownsRow w.heap.size 84 2 (.slice A8 (R9.length + 1) c8) (R9.length + 1) (fE R9 ++ [.string x.c.key, x.v])) (hg : X1.grownBy w9 (Value.slice A9 R9.length c9).ownBlock)
    (hat : (Value.slice A8 (R9.length + 1) c8).ownBlock = (Value.slice A9 R9.length c9).ownBlock ∨ (Value.slice A8 (R9.length + 1) c8).ownBlock = some X1.heap.size) : SJ B w (P ++ [x.c]) w9 A8 c8 (R9 ++ [x]) := by
  obtain ⟨h1, h2⟩ := grow_e h.bel h.own (Nat.le_refl _) hB ho hg
  have hC : Chg (fun k => (Value.slice A9 R9.length c9).ownBlock = some k) wr w9 := (Chg.of_below _ hB).trans (Chg.grown hg fun k e => e)
  have hdv : ∀ (v : Value) (l : List Ver), DV (BO B (.slice A9 R9.length c9)) wr v l → DV (BO B (.slice A8 (R9 ++ [x]).length c8)) w9 v l := by
    intro v l hv
    rw [len_e]
    have e1 : DV (fun k => BO B (.slice A9 R9.length c9) k ∨ (Value.slice A8 (R9.length + 1) c8).ownBlock = some k) wr v l := hv.wide fun k hk e => by
      rcases e with e | e
      · exact e
      · rcases hat with ha | ha
        · exact .inr (by rw [← ha]; exact e)
        · rw [ha] at e; cases e; exact absurd hB.size (by omega)
    exact (e1.go hC (fun k e => .inl (.inr e))).wide fun k _ e => by
      rcases e with e | e
      · exact .inl (.inl e)
      · exact .inr e
  refine ⟨by rw [List.map_append, h.map]; rfl, fun e he => ?_, h1, h2⟩
  rcases List.mem_append.1 he with he | he
  · exact hdv _ _ (h.dv e he)
  · rw [List.mem_singleton.1 he]; exact hdv _ _ hx
theorem SJ.done (h : DIs B w M s A c R) (hs : SJ B w P wr A9 c9 R9) :
    Chg (fun k => k = M) w (wr.setCell ⟨M, 0, none⟩ (.slice A9 R9.length c9)) ∧ DAt B (wr.setCell ⟨M, 0, none⟩ (.slice A9 R9.length c9)) M ⟨P, s.fl⟩ := by
  have h0 : DIs B wr M s A c R := h.below hs.bel
  have hC : Chg (fun k => k = M) wr (wr.setCell ⟨M, 0, none⟩ (.slice A9 R9.length c9)) := Chg.setCell (K := fun k => k = M) (p := ⟨M, 0, none⟩) (Chg.refl _ _) rfl _
  obtain ⟨q1, q2, q3, q4⟩ := hs.own.rowC (B := B) h.bd
  refine ⟨(Chg.of_below _ hs.bel).trans hC, A9, c9, R9, (h0.row.set 0 _).congr fun i hi => ?_, hs.map, q4, q2, q3, q1.go hC (fun k e => e ▸ h.me), fun e he => ((hs.dv e he).wide (fun k _ e => .inl e)).go hC (fun k e => e ▸ h.me), h.me, fun k hk => by have := h0.bd k hk; rw [World.size_setCell]; exact this⟩
  rcases (show i = 0 ∨ i = 1 by omega) with rfl | rfl <;> rfl
end
def tcJ (ch : List Ch) (f : Int) (j : Nat) : List Ch := tmC (ch.take j) f
def tnJ (ch : List Ch) (f : Int) (j : Nat) : Nat := tmN (ch.take j) f
theorem tcJ_step {ch : List Ch} {f : Int} {j : Nat} (hj : j < ch.length) : tcJ ch f (j + 1) = tcJ ch f j ++ [⟨(chnM.nt ch j).key, trm (chnM.nt ch j).l f⟩] := by
  unfold tcJ tmC
  rw [List.take_succ_eq_append_getElem hj, List.map_append]
  have e : chnM.nt ch j = ch[j] := by unfold chnM.nt; simp [List.getD, hj]
  rw [e]; rfl
theorem tnJ_step {ch : List Ch} {f : Int} {j : Nat} (hj : j < ch.length) : tnJ ch f (j + 1) = tnJ ch f j + ((chnM.nt ch j).l.length - (trm (chnM.nt ch j).l f).length) := by
  unfold tnJ tmN
  rw [List.take_succ_eq_append_getElem hj, List.map_append, List.sum_append]
  have e : chnM.nt ch j = ch[j] := by unfold chnM.nt; simp [List.getD, hj]
  rw [e]
  show _ + (wn1 f ch[j] + 0) = _
  rfl
theorem tnJ_le (ch : List Ch) (f : Int) (j : Nat) : tnJ ch f j ≤ ln ch := by
  unfold tnJ
  have h1 := tmN_le f (ch.take j)
  have h2 : ln (ch.take j) ≤ ln ch := by
    conv => rhs; rw [← List.take_append_drop j ch]
    rw [ln_app]; omega
  omega
end Go.Proofs.Ytlojmojmijklmaa.stoRg
