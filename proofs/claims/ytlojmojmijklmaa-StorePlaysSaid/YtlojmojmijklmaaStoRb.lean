/- The document's set (for StorePlays); made by gen10set.py. -/
import Derived.Test.YtlojmojmijklmaaStoRa
set_option linter.unusedVariables false
set_option maxRecDepth 100000
namespace Go.Proofs.Ytlojmojmijklmaa.stoRb
open Go.ChangeShapes Go.WideShapes Go.ChangeAt Go.RowKit Go.Deep
open opV chnM gen chnA chnB chnR chnG chnT stoM stoA stoB stoRa
attribute [local go_sem high] bin_slt bin_sle bin_sge bin_sgt bin_seq bin_sne

abbrev TC : TypeId := 84
theorem infoC : (Try.prog.info? 84).map (fun i => (i.zero, i.size, i.bytes)) = some (some (.agg #[.string { data := #[] }, .slice none 0 0]), 2, 40) := by kernel_rfl
def fE (R : List El) : List Value := R.flatMap cE
theorem fE_app (R : List El) (x : El) : fE (R ++ [x]) = fE R ++ [.string x.c.key, x.v] := by unfold fE; simp [cE]
theorem fE_len (R : List El) : (fE R).length = R.length * 2 := by unfold fE; induction R with | nil => rfl | cons x r ih => simp [cE] at ih ⊢; omega
/-- a row of them of the call's own -/
def GE (w : World) (base : Nat) (A : Option Addr) (c : Nat) (R : List El) : Prop := w.ownsRow base 84 2 (.slice A R.length c) R.length (fE R)
section
variable {B : Nat → Prop} {w w1 W X X1 w9 : World} {base c c9 : Nat} {A A9 : Option Addr} {R : List El}
theorem GE.nil_ (w : World) (base : Nat) : GE w base none 0 [] := World.ownsRow_nil _ _ _ 2
theorem GE.below (h : GE w base A c R) (hB : Below w.heap.size w w1) : GE w1 base A c R := own_block h fun k e => hB.block k (World.ownsRow.lt h k e).2
theorem grow_e {x : El} (hW : Below W.heap.size W X) (hG : GE X base A c R) (hb : W.heap.size ≤ base) (hB : Below X.heap.size X X1)
    (ho : w9.ownsRow base 84 2 (.slice A9 (R.length + 1) c9) (R.length + 1) (fE R ++ [.string x.c.key, x.v])) (hg : X1.grownBy w9 (Value.slice A R.length c).ownBlock) :
    GE w9 base A9 c9 (R ++ [x]) ∧ Below W.heap.size W w9 := by
  refine ⟨?_, (trans0 hW hB).grown hg (trans0 hW hB).size (fun b e => by have := (World.ownsRow.lt hG b e).1; omega)⟩
  unfold GE
  rw [List.length_append, fE_app]
  exact ho
theorem len_e {x : El} : (R ++ [x]).length = R.length + 1 := by simp
theorem two_one {v0 v1 : Value} (h0 : v0.oneCell' = true) (h1 : v1.oneCell' = true) : ∀ u ∈ [v0, v1], u.oneCell' = true := by
  intro u hu
  simp only [List.mem_cons, List.not_mem_nil, or_false] at hu
  rcases hu with rfl | rfl <;> assumption
theorem dv_one {v : Value} {l : List Ver} (h : DV B w v l) : v.oneCell' = true := by obtain ⟨A, c, rfl, -⟩ := h; rfl
theorem fE_get : ∀ (R : List El) (i : Nat), i < R.length → (fE R)[i * 2]? = some (.string (ne R i).c.key) ∧ (fE R)[i * 2 + 1]? = some (ne R i).v
  | [], i, h => by simp at h
  | x :: r, 0, _ => ⟨rfl, rfl⟩
  | x :: r, i + 1, h => by
    obtain ⟨h1, h2⟩ := fE_get r i (by simpa using h)
    have e : fE (x :: r) = .string x.c.key :: x.v :: fE r := rfl
    rw [e, show (i + 1) * 2 = i * 2 + 1 + 1 by omega, show i * 2 + 1 + 1 + 1 = (i * 2 + 1) + 1 + 1 by omega]
    exact ⟨h1, h2⟩
/-- a row of the call's own, given away -/
theorem GE.rowC (h : GE w base A c R) (hb : ∀ k, B k → k < base) : RowC B w A R ∧ R.length ≤ c ∧ c ≤ 9223372036854775807 ∧ (A = none → c = 0) := by
  rcases h.2 with ⟨e, h0⟩ | ⟨g, cap, cur, e, hg1, hg, hnc, hcm, hcs, htk⟩
  · simp only [Value.slice.injEq] at e
    obtain ⟨rfl, e2, rfl⟩ := e
    exact ⟨.inl e2, by omega, by omega, fun _ => rfl⟩
  · have h' := h
    simp only [Value.slice.injEq] at e
    obtain ⟨rfl, e2, rfl⟩ := e
    refine ⟨.inr ⟨g, 0, rfl, (Array.getElem?_eq_some_iff.1 hg).1, fun hk => by have := hb _ hk; omega, fun i hi => ?_⟩, hnc, by unfold maxLen at hcm; omega, fun h => by cases h⟩
    obtain ⟨q1, q2⟩ := fE_get R i hi
    unfold GE at h'
    rw [Nat.zero_add, h'.cellAt (i * 2) (by omega), h'.cellAt (i * 2 + 1) (by omega)]
    exact ⟨q1, q2⟩
end
theorem stO_len (ch : List Ch) (k : ByteArray) (l : List Ver) : ∀ j, (stO ch k l j).1.length ≤ 2 * j
  | 0 => Nat.le_refl _
  | j + 1 => by
    have := stO_len ch k l j
    show ((if _ then _ else _) ++ (if _ then _ else _) : List Ch).length ≤ _
    split <;> split <;> simp <;> omega
theorem stO_step (ch : List Ch) (k : ByteArray) (l : List Ver) (j : Nat) {L : List Ch} {y a b : Bool} {x : Ch} (h1 : stO ch k l j = (L, y)) (hx : chnM.nt ch j = x) (ha : sle k x.key = a) (hb : seq x.key k = b) :
    stO ch k l (j + 1) = ((if y = false ∧ a = true then L ++ [⟨k, l⟩] else L) ++ (if b = true then [] else [x]), y || a) := by
  subst ha hb hx
  have e : stO ch k l (j + 1) = ((if (stO ch k l j).2 = false ∧ sle k (chnM.nt ch j).key = true then (stO ch k l j).1 ++ [⟨k, l⟩] else (stO ch k l j).1) ++ (if seq (chnM.nt ch j).key k = true then [] else [chnM.nt ch j]), (stO ch k l j).2 || sle k (chnM.nt ch j).key) := rfl
  rw [e, h1]
/-- what stands ahead of a round -/
structure SI (B : Nat → Prop) (w : World) (P : List Ch) (wr : World) (A9 : Option Addr) (c9 : Nat) (R9 : List El) : Prop where
  map : R9.map (·.c) = P
  dv : ∀ e ∈ R9, DV B w e.v e.c.l
  own : GE wr w.heap.size A9 c9 R9
  bel : Below w.heap.size w wr
theorem SI.grow {B : Nat → Prop} {w wr X1 w9 : World} {P : List Ch} {A9 A8 : Option Addr} {c9 c8 : Nat} {R9 : List El} (h : SI B w P wr A9 c9 R9) (x : El) (hx : DV B w x.v x.c.l) (hB : Below wr.heap.size wr X1)
    (ho : w9.ownsRow w.heap.size 84 2 (.slice A8 (R9.length + 1) c8) (R9.length + 1) (fE R9 ++ [.string x.c.key, x.v])) (hg : X1.grownBy w9 (Value.slice A9 R9.length c9).ownBlock) : SI B w (P ++ [x.c]) w9 A8 c8 (R9 ++ [x]) := by
  obtain ⟨h1, h2⟩ := grow_e h.bel h.own (Nat.le_refl _) hB ho hg
  refine ⟨by rw [List.map_append, h.map]; rfl, fun e he => ?_, h1, h2⟩
  rcases List.mem_append.1 he with he | he
  · exact h.dv e he
  · rw [List.mem_singleton.1 he]; exact hx
theorem SI.len {B : Nat → Prop} {w wr : World} {P : List Ch} {A9 : Option Addr} {c9 : Nat} {R9 : List El} (h : SI B w P wr A9 c9 R9) : R9.length = P.length := by rw [← h.map, List.length_map]
theorem SI.start (B : Nat → Prop) (w : World) : SI B w [] w none 0 [] := ⟨rfl, fun e he => (by cases he), GE.nil_ w _, Below.refl _ _⟩
/-- the row laid into the box -/
theorem SI.done {B : Nat → Prop} {w wr : World} {M c : Nat} {s : St} {A A9 : Option Addr} {R R9 : List El} {c9 : Nat} {P : List Ch} (h : DIs B w M s A c R) (hs : SI B w P wr A9 c9 R9) :
    Chg (fun k => k = M) w (wr.setCell ⟨M, 0, none⟩ (.slice A9 R9.length c9)) ∧ DAt B (wr.setCell ⟨M, 0, none⟩ (.slice A9 R9.length c9)) M ⟨P, s.fl⟩ := by
  have hM := h.row.lt
  have h0 : DIs B wr M s A c R := h.below hs.bel
  have hC : Chg (fun k => k = M) wr (wr.setCell ⟨M, 0, none⟩ (.slice A9 R9.length c9)) := Chg.setCell (K := fun k => k = M) (p := ⟨M, 0, none⟩) (Chg.refl _ _) rfl _
  obtain ⟨q1, q2, q3, q4⟩ := hs.own.rowC (B := B) h.bd
  refine ⟨(Chg.of_below _ hs.bel).trans hC, A9, c9, R9, (h0.row.set 0 _).congr fun i hi => ?_, hs.map, q4, q2, q3, q1.go hC (fun k e => e ▸ h.me), fun e he => ((hs.dv e he).go (Chg.of_below (fun _ => False) hs.bel) (fun k hk => hk.elim)).go hC (fun k e => e ▸ h.me), h.me, fun k hk => by have := h0.bd k hk; rw [World.size_setCell]; exact this⟩
  rcases (show i = 0 ∨ i = 1 by omega) with rfl | rfl <;> rfl
set_option maxHeartbeats 8000000 in
theorem dset_any {B : Nat → Prop} {M : Nat} {s : St} (k : ByteArray) (l : List Ver) (v : Value) (w : World) (h : DAt B w M s) (hv : DV B w v l) (hn : s.ch.length ≤ 60000) :
    Calls Try.prog 42 #[.pointer (some ⟨M, 0, none⟩), .string k, v] w fun e w' => e = .returned (.tuple #[]) ∧ Chg (fun k => k = M) w w' ∧ DAt B w' M ⟨stC s.ch k l, s.fl⟩ := by
  obtain ⟨iC, hiC, hzC0, hzC1, hzC2⟩ := info_parts infoC
  obtain ⟨A, c, R, h⟩ := h
  have hle := h.le
  have htop := h.top
  have hnR : R.length ≤ 60000 := by rw [← h.len]; exact hn
  have hcM := Lib.hid (fun (X : World) (hB : Below w.heap.size w X) => (h.below hB).cells.1)
  have hat := Lib.hid (fun (X : World) (hB : Below w.heap.size w X) (i : Nat) (hi : i < R.length) => (h.below hB).at hi)
  have hst := Lib.hid (fun (j : Nat) (hj : j < R.length) (L : List Ch) (y a b : Bool) (h1 : stO s.ch k l j = (L, y)) (ha : sle k (ne R j).c.key = a) (hb : seq (ne R j).c.key k = b) => stO_step s.ch k l j h1 (h.nt hj) ha hb)
  have hdvR := Lib.hid (fun (j : Nat) (hj : j < R.length) => (show DV B w (ne R j).v (ne R j).c.l from h.dv _ (by unfold ne; simp [List.getD, hj])))
  have hsl := Lib.hid (fun j => stO_len s.ch k l j)
  have hen := Lib.hid (show stC s.ch k l = if (stO s.ch k l R.length).2 = true then (stO s.ch k l R.length).1 else (stO s.ch k l R.length).1 ++ [⟨k, l⟩] from by unfold stC; rw [h.len])
  have hdone := Lib.hid (fun (P : List Ch) (wr : World) (A9 : Option Addr) (c9 : Nat) (R9 : List El) (hs : SI B w P wr A9 c9 R9) => SI.done h hs)
  have hfz : Hid (∀ X, Below w.heap.size w X → X.frozen? ⟨M, 0, none⟩ = false) := Lib.hid (fun X hB => (h.below hB).row.frozen 0)
  have hv0 := hv
  obtain ⟨Av, cv, rfl, -, -⟩ := hv0
  have hv1 := dv_one hv
  replace hv := Lib.hid hv
  clear h hn
  go_enter Try.func42, Try.ntmps42
  go_wp2
  go_loopw [6, 7, 8] (fun o y i wr => ∃ (j : Nat) (A9 : Option Addr) (c9 : Nat) (R9 : List El) (L : List Ch) (z : Bool), j ≤ R.length ∧ o = .slice A9 R9.length c9 ∧ y = .bool z ∧ i = .int .i64 j ∧ Hid (stO s.ch k l j = (L, z)) ∧ Hid (SI B w L wr A9 c9 R9)) (fun _ _ i _ => R.length - (intOf i).toNat)
  case atStart => exact ⟨0, none, 0, [], [], false, by omega, rfl, rfl, rfl, Lib.hid rfl, Lib.hid (SI.start B w)⟩
  case round =>
    obtain ⟨j, A9, c9, R9, L, z, hj, rfl, rfl, rfl, hL, hI⟩ := hrel
    have c0 := hcM.out wr hI.out.bel
    by_cases hlt : j < R.length
    · obtain ⟨b, off, eA, k0, k1, -⟩ := hat.out w (Below.refl _ _) j hlt
      subst eA
      have hjI : (j : Int) < (R.length : Int) := by omega
      have hdx := Lib.hid (hdvR.out j hlt)
      have hs2 := Lib.hid (hst.out j hlt L z)
      have hR9 : R9.length ≤ 2 * j := by have h1 := hsl.out j; rw [hL.out] at h1; rw [hI.out.len]; exact h1
      generalize ne R j = x at *
      have hx1 := dv_one hdx.out
      have hkk := Lib.hid (fun (X : World) (hB : Below w.heap.size w X) => (show X.cell? ⟨M, 0, none⟩ = some (.slice (some ⟨b, off, none⟩) R.length c) ∧ X.cell? ⟨b, off + j * 2, none⟩ = some (.string x.c.key) ∧ X.cell? ⟨b, off + j * 2 + 1, none⟩ = some x.v from ⟨hcM.out X hB, keep_cell hB k0, keep_cell hB k1⟩))
      clear k0 k1 hst hsl hen hdone hfz hat hcM hdvR
      obtain ⟨c0, k0, k1⟩ := hkk.out wr hI.out.bel
      cases hb : seq x.c.key k <;> cases ha : sle k x.c.key <;> cases z
      · skip
        have e := Lib.hid (hs2.out false false hL.out ha hb)
        clear hs2 hL
        have hls3 : Hid (R9.length + 1 ≤ maxLen ∧ (R9.length + 1) * 40 ≤ 140737488355328 ∧ w.heap.size ≤ (wr.alloc (.cells #[.string x.c.key, x.v] 84)).heap.size) := Lib.hid ⟨by unfold maxLen; omega, by omega, (bal hI.out.bel _).size⟩
        go_wp2_with (at_builtin; refine wpList_gen rfl (.tmp 48) (.tmp 56) 26 rfl w.heap.size 84 iC _ 2 40 Try.underlying26 hiC hzC0 hzC1 hzC2 rfl (by decide) _ R9.length (fE R9) (by rfl) (World.ownsRow.alloc hI.out.own _) (some ⟨_, 0, none⟩) 1 1 [_, _] (by rfl) rfl (stand_at (by simp)) (two_one rfl hx1) hls3.out.1 hls3.out.2.1 hls3.out.2.2 ?_; intro A7 c7 w7 hr7 hg7 hat7; have hI7 := Lib.hid (SI.grow hI.out x hdx.out (al0 _ _) hr7 hg7); clear hr7 hg7 hat7)
        clear hls3 hI
        go_wp2
        go_roundw
        case rel => exact ⟨j + 1, A7, c7, R9 ++ [x], _, _, by omega, by rw [len_e], rfl, by go_num, Lib.hid e.out, hI7⟩
        case measure => simp [intOf]; omega
      · skip
        have e := Lib.hid (hs2.out false false hL.out ha hb)
        clear hs2 hL
        have hls3 : Hid (R9.length + 1 ≤ maxLen ∧ (R9.length + 1) * 40 ≤ 140737488355328 ∧ w.heap.size ≤ (wr.alloc (.cells #[.string x.c.key, x.v] 84)).heap.size) := Lib.hid ⟨by unfold maxLen; omega, by omega, (bal hI.out.bel _).size⟩
        go_wp2_with (at_builtin; refine wpList_gen rfl (.tmp 48) (.tmp 56) 26 rfl w.heap.size 84 iC _ 2 40 Try.underlying26 hiC hzC0 hzC1 hzC2 rfl (by decide) _ R9.length (fE R9) (by rfl) (World.ownsRow.alloc hI.out.own _) (some ⟨_, 0, none⟩) 1 1 [_, _] (by rfl) rfl (stand_at (by simp)) (two_one rfl hx1) hls3.out.1 hls3.out.2.1 hls3.out.2.2 ?_; intro A7 c7 w7 hr7 hg7 hat7; have hI7 := Lib.hid (SI.grow hI.out x hdx.out (al0 _ _) hr7 hg7); clear hr7 hg7 hat7)
        clear hls3 hI
        go_wp2
        go_roundw
        case rel => exact ⟨j + 1, A7, c7, R9 ++ [x], _, _, by omega, by rw [len_e], rfl, by go_num, Lib.hid e.out, hI7⟩
        case measure => simp [intOf]; omega
      · skip
        have e := Lib.hid (hs2.out true false hL.out ha hb)
        clear hs2 hL
        have hls : Hid (R9.length + 1 ≤ maxLen ∧ (R9.length + 1) * 40 ≤ 140737488355328 ∧ w.heap.size ≤ (wr.alloc (.cells #[.string k, .slice Av l.length cv] 84)).heap.size) := Lib.hid ⟨by unfold maxLen; omega, by omega, (bal hI.out.bel _).size⟩
        have hls2 : Hid ((R9 ++ [(⟨⟨k, l⟩, .slice Av l.length cv⟩ : El)]).length + 1 ≤ maxLen ∧ ((R9 ++ [(⟨⟨k, l⟩, .slice Av l.length cv⟩ : El)]).length + 1) * 40 ≤ 140737488355328) := Lib.hid ⟨by rw [len_e]; unfold maxLen; omega, by rw [len_e]; omega⟩
        have hle1 := Lib.hid (len_e (R := R9) (x := ⟨⟨k, l⟩, .slice Av l.length cv⟩))
        go_upto_region 7 with (at_builtin; refine wpList_gen rfl (.tmp 32) (.tmp 36) 26 rfl w.heap.size 84 iC _ 2 40 Try.underlying26 hiC hzC0 hzC1 hzC2 rfl (by decide) _ R9.length (fE R9) (by rfl) (World.ownsRow.alloc hI.out.own _) (some ⟨_, 0, none⟩) 1 1 [_, _] (by rfl) rfl (stand_at (by simp)) (two_one rfl hv1) hls.out.1 hls.out.2.1 hls.out.2.2 ?_; intro A8 c8 w9 hr9 hg9 hat9; have hI9 := Lib.hid (SI.grow hI.out ⟨⟨k, l⟩, .slice Av l.length cv⟩ hv.out (al0 _ _) hr9 hg9); clear hr9 hg9 hat9; obtain ⟨c0', k0', k1'⟩ := hkk.out w9 hI9.out.bel)
        clear hls hI c0 k0 k1
        rw [← hle1.out]
        generalize R9 ++ [(⟨⟨k, l⟩, .slice Av l.length cv⟩ : El)] = R8 at *
        have hls3 : Hid (R8.length + 1 ≤ maxLen ∧ (R8.length + 1) * 40 ≤ 140737488355328 ∧ w.heap.size ≤ (w9.alloc (.cells #[.string x.c.key, x.v] 84)).heap.size) := Lib.hid ⟨hls2.out.1, hls2.out.2, (bal hI9.out.bel _).size⟩
        go_wp2_with (at_builtin; refine wpList_gen rfl (.tmp 48) (.tmp 56) 26 rfl w.heap.size 84 iC _ 2 40 Try.underlying26 hiC hzC0 hzC1 hzC2 rfl (by decide) _ R8.length (fE R8) (by rfl) (World.ownsRow.alloc hI9.out.own _) (some ⟨_, 0, none⟩) 1 1 [_, _] (by rfl) rfl (stand_at (by simp)) (two_one rfl hx1) hls3.out.1 hls3.out.2.1 hls3.out.2.2 ?_; intro A7 c7 w7 hr7 hg7 hat7; have hI7 := Lib.hid (SI.grow hI9.out x hdx.out (al0 _ _) hr7 hg7); clear hr7 hg7 hat7)
        clear hls3 hI9
        go_wp2
        go_roundw
        case rel => exact ⟨j + 1, A7, c7, R8 ++ [x], _, _, by omega, by rw [len_e], rfl, by go_num, Lib.hid e.out, hI7⟩
        case measure => simp [intOf]; omega
      · skip
        have e := Lib.hid (hs2.out true false hL.out ha hb)
        clear hs2 hL
        have hls3 : Hid (R9.length + 1 ≤ maxLen ∧ (R9.length + 1) * 40 ≤ 140737488355328 ∧ w.heap.size ≤ (wr.alloc (.cells #[.string x.c.key, x.v] 84)).heap.size) := Lib.hid ⟨by unfold maxLen; omega, by omega, (bal hI.out.bel _).size⟩
        go_wp2_with (at_builtin; refine wpList_gen rfl (.tmp 48) (.tmp 56) 26 rfl w.heap.size 84 iC _ 2 40 Try.underlying26 hiC hzC0 hzC1 hzC2 rfl (by decide) _ R9.length (fE R9) (by rfl) (World.ownsRow.alloc hI.out.own _) (some ⟨_, 0, none⟩) 1 1 [_, _] (by rfl) rfl (stand_at (by simp)) (two_one rfl hx1) hls3.out.1 hls3.out.2.1 hls3.out.2.2 ?_; intro A7 c7 w7 hr7 hg7 hat7; have hI7 := Lib.hid (SI.grow hI.out x hdx.out (al0 _ _) hr7 hg7); clear hr7 hg7 hat7)
        clear hls3 hI
        go_wp2
        go_roundw
        case rel => exact ⟨j + 1, A7, c7, R9 ++ [x], _, _, by omega, by rw [len_e], rfl, by go_num, Lib.hid e.out, hI7⟩
        case measure => simp [intOf]; omega
      · skip
        have e := Lib.hid (hs2.out false true hL.out ha hb)
        clear hs2 hL
        go_wp2
        go_roundw
        case rel => exact ⟨j + 1, A9, c9, R9, _, _, by omega, rfl, rfl, by go_num, Lib.hid (e.out.trans (by simp)), hI⟩
        case measure => simp [intOf]; omega
      · skip
        have e := Lib.hid (hs2.out false true hL.out ha hb)
        clear hs2 hL
        go_wp2
        go_roundw
        case rel => exact ⟨j + 1, A9, c9, R9, _, _, by omega, rfl, rfl, by go_num, Lib.hid (e.out.trans (by simp)), hI⟩
        case measure => simp [intOf]; omega
      · skip
        have e := Lib.hid (hs2.out true true hL.out ha hb)
        clear hs2 hL
        have hls : Hid (R9.length + 1 ≤ maxLen ∧ (R9.length + 1) * 40 ≤ 140737488355328 ∧ w.heap.size ≤ (wr.alloc (.cells #[.string k, .slice Av l.length cv] 84)).heap.size) := Lib.hid ⟨by unfold maxLen; omega, by omega, (bal hI.out.bel _).size⟩
        have hls2 : Hid ((R9 ++ [(⟨⟨k, l⟩, .slice Av l.length cv⟩ : El)]).length + 1 ≤ maxLen ∧ ((R9 ++ [(⟨⟨k, l⟩, .slice Av l.length cv⟩ : El)]).length + 1) * 40 ≤ 140737488355328) := Lib.hid ⟨by rw [len_e]; unfold maxLen; omega, by rw [len_e]; omega⟩
        have hle1 := Lib.hid (len_e (R := R9) (x := ⟨⟨k, l⟩, .slice Av l.length cv⟩))
        go_upto_region 7 with (at_builtin; refine wpList_gen rfl (.tmp 32) (.tmp 36) 26 rfl w.heap.size 84 iC _ 2 40 Try.underlying26 hiC hzC0 hzC1 hzC2 rfl (by decide) _ R9.length (fE R9) (by rfl) (World.ownsRow.alloc hI.out.own _) (some ⟨_, 0, none⟩) 1 1 [_, _] (by rfl) rfl (stand_at (by simp)) (two_one rfl hv1) hls.out.1 hls.out.2.1 hls.out.2.2 ?_; intro A8 c8 w9 hr9 hg9 hat9; have hI9 := Lib.hid (SI.grow hI.out ⟨⟨k, l⟩, .slice Av l.length cv⟩ hv.out (al0 _ _) hr9 hg9); clear hr9 hg9 hat9; obtain ⟨c0', k0', k1'⟩ := hkk.out w9 hI9.out.bel)
        clear hls hI c0 k0 k1
        rw [← hle1.out]
        generalize R9 ++ [(⟨⟨k, l⟩, .slice Av l.length cv⟩ : El)] = R8 at *
        go_wp2
        go_roundw
        case rel => exact ⟨j + 1, A8, c8, R8, _, _, by omega, rfl, rfl, by go_num, Lib.hid (e.out.trans (by simp)), hI9⟩
        case measure => simp [intOf]; omega
      · skip
        have e := Lib.hid (hs2.out true true hL.out ha hb)
        clear hs2 hL
        go_wp2
        go_roundw
        case rel => exact ⟨j + 1, A9, c9, R9, _, _, by omega, rfl, rfl, by go_num, Lib.hid (e.out.trans (by simp)), hI⟩
        case measure => simp [intOf]; omega
    · obtain rfl : j = R.length := by omega
      have hR9 : R9.length ≤ 2 * R.length := by have h1 := hsl.out R.length; rw [hL.out] at h1; rw [hI.out.len]; exact h1
      have hen2 := hen.out
      rw [hL.out] at hen2
      cases z
      · have hls : Hid (R9.length + 1 ≤ maxLen ∧ (R9.length + 1) * 40 ≤ 140737488355328 ∧ w.heap.size ≤ (wr.alloc (.cells #[.string k, .slice Av l.length cv] 84)).heap.size) := Lib.hid ⟨by unfold maxLen; omega, by omega, (bal hI.out.bel _).size⟩
        have hen3 : Hid (stC s.ch k l = L ++ [⟨k, l⟩]) := Lib.hid (by rw [hen2]; rfl)
        clear hen hen2 hL hst hsl hat hdvR
        go_upto_region 11 with (at_builtin; refine wpList_gen rfl (.tmp 60) (.tmp 64) 26 rfl w.heap.size 84 iC _ 2 40 Try.underlying26 hiC hzC0 hzC1 hzC2 rfl (by decide) _ R9.length (fE R9) (by rfl) (World.ownsRow.alloc hI.out.own _) (some ⟨_, 0, none⟩) 1 1 [_, _] (by rfl) rfl (stand_at (by simp)) (two_one rfl hv1) hls.out.1 hls.out.2.1 hls.out.2.2 ?_; intro A8 c8 w9 hr9 hg9 hat9; have hI9 := Lib.hid (SI.grow hI.out ⟨⟨k, l⟩, .slice Av l.length cv⟩ hv.out (al0 _ _) hr9 hg9); clear hr9 hg9 hat9)
        have hd := Lib.hid (hdone.out _ w9 A8 c8 _ hI9.out)
        rw [len_e] at hd
        have c0' := hcM.out w9 hI9.out.bel
        have f0' := hfz.out w9 hI9.out.bel
        clear hls hI hI9 c0 hdone hcM hfz
        go_wp2
        go_end0
        exact ⟨rfl, hd.out.1, by rw [hen3.out]; exact hd.out.2⟩
      · have hen3 : Hid (stC s.ch k l = L) := Lib.hid (by rw [hen2]; rfl)
        have hd := Lib.hid (hdone.out _ wr A9 c9 _ hI.out)
        have f0' := hfz.out wr hI.out.bel
        clear hen hen2 hL hst hsl hat hdvR hI hdone hcM hfz
        go_wp2
        go_end0
        exact ⟨rfl, hd.out.1, by rw [hen3.out]; exact hd.out.2⟩
end Go.Proofs.Ytlojmojmijklmaa.stoRb
