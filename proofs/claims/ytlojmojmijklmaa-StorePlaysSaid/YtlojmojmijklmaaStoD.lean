/- The contract of a store's Drop. -/
import Derived.Test.YtlojmojmijklmaaStoJ
set_option linter.unusedVariables false
set_option maxRecDepth 100000
namespace Go.Proofs.Ytlojmojmijklmaa.stoD
open Go.ChangeShapes Go.WideShapes Go.ChangeAt Go.RowKit Go.Shelf
open opV chnM gen chnA chnB chnR chnE chnG stoM stoA stoL stoB stoC stoP stoI stoJ rngR
attribute [local go_sem] Oper.semAt_some

theorem infoS : (Try.prog.info? 9).map (fun i => (i.zero, i.size, i.bytes)) = some (some (.string { data := #[] }), 1, 16) := by kernel_rfl
def fk (l : List Ver) : List Value := l.map fun v => .string v.key
theorem fk_len (l : List Ver) : (fk l).length = l.length * 1 := by simp [fk]
/-- a row of the call's own that holds the keys of l -/
def GK (w : World) (base : Nat) (A : Option Addr) (c : Nat) (l : List Ver) : Prop := w.ownsRow base 9 1 (.slice A l.length c) l.length (fk l)
/-- between two rounds -/
def LK (w : World) (pre : List Ver) (W : World) : Prop := ∃ A c, Boxed W w.heap.size 81 (.slice A pre.length c) ∧ GK W (w.heap.size + 1) A c pre ∧ Below w.heap.size w W
theorem gk_kept {W W' : World} {row : Option Nat} {base : Nat} {A : Option Addr} {c : Nat} {l : List Ver} (h : GK W base A c l) (hg : W.grownBy W' row) (hr : ∀ r, row = some r → ∃ o : Obj, W.heap[r]? = some o ∧ o.isCells = false) : GK W' base A c l := by
  refine own_block h fun k e => ?_
  rcases h.2 with ⟨e1, _⟩ | ⟨g, cap, cur, e1, _, h3, _⟩
  · rw [e1] at e; cases e
  · rw [e1] at e; cases e
    exact grownBy_keeps_cells hg hr h3 rfl
theorem LK.from_ {w : World} {C : Nat} (hC : w.heap.size ≤ C) : OwnFrom C (LK w) := by
  rintro pre W W' row ⟨A, c, h1, h2, hB⟩ hg hrow
  have kr := fun r e => (hrow r e).2
  refine ⟨A, c, (grownBy_keeps_cells hg kr h1 rfl).trans h1, gk_kept h2 hg kr, hB.grown hg hB.size (fun k e => Nat.le_trans hC (hrow k e).1)⟩
theorem LK.more {w V w1 : World} {pre : List Ver} {x : Ver} {A A' : Option Addr} {c c' : Nat} {o : Obj} (hbx : Boxed V w.heap.size 81 (.slice A pre.length c)) (hG : GK V (w.heap.size + 1) A c pre) (hBV : Below w.heap.size w V)
    (ho : w1.ownsRow (w.heap.size + 1) 9 1 (.slice A' (pre.length + 1) c') (pre.length + 1) (fk pre ++ [.string x.key])) (hg : (V.alloc o).grownBy w1 (Value.slice A pre.length c).ownBlock) (h5 : (Value.slice A' (pre.length + 1) c').ownBlock = (Value.slice A pre.length c).ownBlock ∨ (Value.slice A' (pre.length + 1) c').ownBlock = some (V.alloc o).heap.size) :
    w1.cell? ⟨w.heap.size, 0, none⟩ = some (.slice A pre.length c) ∧ w1.frozen? ⟨w.heap.size, 0, none⟩ = false ∧ KeepsOthers V (w1.setCell ⟨w.heap.size, 0, none⟩ (.slice A' (pre.length + 1) c')) ∧ Kb w.heap.size V (w1.setCell ⟨w.heap.size, 0, none⟩ (.slice A' (pre.length + 1) c')) ∧ LK w (pre ++ [x]) (w1.setCell ⟨w.heap.size, 0, none⟩ (.slice A' (pre.length + 1) c')) := by
  have hne : ∀ k, (Value.slice A pre.length c).ownBlock = some k → w.heap.size + 1 ≤ k ∧ k < V.heap.size := fun k e => World.ownsRow.lt hG k e
  have hne0 : (Value.slice A pre.length c).ownBlock ≠ some w.heap.size := fun e => by have := (hne _ e).1; omega
  have hb1 : Boxed w1 w.heap.size 81 (.slice A pre.length c) := (hbx.alloc o).kept hg (fun e => hne0 e.symm)
  have hal := al0 V o
  refine ⟨hb1.cell, hb1.frozen, ((KeepsOthers.alloc V o).trans (KeepsOthers.of_grownBy hg fun j o2 e h2 => ?_)).trans (KeepsOthers.setCell _ _ _), Kb.more hbx.lt hbx.cell hg hne0 h5, A', c', ?_, ?_, ?_⟩
  · have hlt := (hne j e).2
    rw [hal.block j hlt] at h2
    rcases hG.2 with ⟨e1, _⟩ | ⟨g, cap, cur, e1, _, h3, _⟩
    · rw [e1] at e; cases e
    · rw [e1] at e; cases e
      rw [h3] at h2; cases h2; rfl
  · rw [List.length_append]
    exact hb1.set _
  · have h1 : GK w1 (w.heap.size + 1) A' c' (pre ++ [x]) := by
      unfold GK fk
      rw [List.map_append, List.length_append]
      exact ho
    exact own_block h1 fun k e => Below.heap_setCell _ _ _ _ (by have := (h1.lt k e).1; show k ≠ w.heap.size; omega)
  · exact ((hBV.trans (hal.mono hBV.size)).grown hg (by have := hBV.size; have := hal.size; omega) (fun k e => by have := (hne k e).1; omega)).setCell (p := ⟨w.heap.size, 0, none⟩) (Nat.le_refl _) _

/-! ### Keys are let go, one after the other -/
def dl (ch : List Ch) (ks : List ByteArray) : List Ch := ch.filter fun c => !ks.any fun k => seq c.key k
theorem dl_nil (ch : List Ch) : dl ch [] = ch := by unfold dl; simp
theorem dl_one (ch : List Ch) (ks : List ByteArray) (k : ByteArray) : dl ch (ks ++ [k]) = (dl ch ks).filter fun c => !seq c.key k := by
  unfold dl
  rw [List.filter_filter]
  congr 1
  funext c
  simp [Bool.and_comm]
theorem dl_all {s : St} (h : Inv s) (lo hi : ByteArray) : dl s.ch ((al s.ch lo hi).map (·.key)) = dr s.ch lo hi := by
  unfold dl dr
  refine List.filter_congr fun c hc => ?_
  congr 1
  rw [Bool.eq_iff_iff, List.any_eq_true]
  constructor
  · rintro ⟨k, hk, he⟩
    obtain ⟨v, hv, rfl⟩ := List.mem_map.1 hk
    unfold al at hv
    obtain ⟨d, hd, hvd⟩ := mem_cc.1 hv
    obtain ⟨hd1, hd2⟩ := List.mem_filter.1 hd
    rw [(seq_iff _ _).1 he, h.key d hd1 v hvd]
    exact hd2
  · intro hw
    obtain ⟨v, hv⟩ := List.exists_mem_of_ne_nil _ (h.ne c hc)
    exact ⟨v.key, List.mem_map_of_mem (mem_cc.2 ⟨c, List.mem_filter.2 ⟨hc, hw⟩, hv⟩), by rw [h.key c hc v hv, seq_self]⟩
theorem inv_filt {s : St} (h : Inv s) (p : Ch → Bool) : Inv ⟨s.ch.filter p, s.fl⟩ :=
  ⟨List.Pairwise.filter _ h.srt, fun c hc => h.ne c (List.mem_filter.1 hc).1, fun c hc => h.key c (List.mem_filter.1 hc).1, fun c hc => h.chn c (List.mem_filter.1 hc).1⟩
theorem del_at {B : Nat → Prop} {w : World} {S b : Nat} {s : St} (k : ByteArray) (hk : k.size ≤ maxLen) (h : SAt B w S b s) (ty : TypeId) :
    ∃ w', (Builtin.delete_ #[63, 9] ty #[.map (some b), .string k]).run Try.prog w = .ok (.tuple #[]) w' ∧ Chg (own2 S b) w w' ∧ SAt B w' S b ⟨s.ch.filter fun c => !seq c.key k, s.fl⟩ := by
  obtain ⟨D, h⟩ := h
  obtain ⟨w', h1, hm, ht⟩ := World.ownsMap.drop (w := w) (P := Try.prog) h.map law Try.underlying63 (hkey k hk) ty
  have hgr := ht.grown
  have hch : Chg (own2 S b) w w' := Chg.grown hgr (fun k e => by cases e; exact .inr rfl)
  have hK : ∀ k, own2 S b k → B k := fun k e => by rcases e with rfl | rfl; exact h.bS; exact h.bb
  refine ⟨w', h1, hch, D.del (kS k), ?_⟩
  have hear : Ear B w' (D.del (kS k)) (s.ch.filter fun c => !seq c.key k) := by
    refine ⟨fun k' => ?_, fun c hc => ?_⟩
    · by_cases e : k' = k
      · subst e
        rw [Maps.has_del_same]
        refine ⟨fun e => (by cases e), ?_⟩
        rintro ⟨c, hc, e⟩
        have := (List.mem_filter.1 hc).2
        rw [e, seq_self] at this; cases this
      · rw [Maps.has_del_other (kS_ne e), h.ear.1 k']
        constructor
        · rintro ⟨c, hc, e2⟩
          exact ⟨c, List.mem_filter.2 ⟨hc, by rw [e2, seq_ne e]; rfl⟩, e2⟩
        · rintro ⟨c, hc, e2⟩
          exact ⟨c, (List.mem_filter.1 hc).1, e2⟩
    · obtain ⟨hc1, hc2⟩ := List.mem_filter.1 hc
      obtain ⟨u, g1, g2⟩ := h.ear.2 c hc1
      refine ⟨u, fun z => ?_, g2.go hch hK⟩
      have hne : c.key ≠ k := fun e => by rw [e, seq_self] at hc2; cases hc2
      rw [Maps.atKey_del_other (kS_ne hne)]; exact g1 z
  exact
    { row := h.row.of_block (hgr.block S h.row.lt (fun e => h.ne (by cases e; rfl)))
      map := map_tight hm (List.Pairwise.filter _ h.inv.srt) hear.1
      ear := hear
      inv := inv_filt h.inv _
      ln := Nat.le_trans (ln_filter _ _) h.ln
      bS := h.bS
      bb := h.bb
      bd := fun k hk => Nat.lt_of_lt_of_le (h.bd k hk) hgr.size }
def Dropd (B : Nat → Prop) (S b : Nat) (s : St) (lo hi : ByteArray) (w : World) (e : Ending) (w' : World) : Prop :=
  e = .returned (.int .i64 ((al s.ch lo hi).length : Nat)) ∧ Chg (own2 S b) w w' ∧ SAt B w' S b ⟨dr s.ch lo hi, s.fl⟩
theorem gk_at {w : World} {base : Nat} {A : Option Addr} {c : Nat} {l : List Ver} (h : GK w base A c l) {j : Nat} (hj : j < l.length) : ∃ g off, A = some ⟨g, off, none⟩ ∧ base ≤ g ∧ w.cell? ⟨g, off + j, none⟩ = some (.string (nt l j).key) := by
  have h' := h
  rcases h.2 with ⟨_, e2⟩ | ⟨g, cap, cur, e1, e2, _⟩
  · omega
  · unfold GK at h'
    rw [e1] at h'
    simp only [Value.slice.injEq] at e1
    obtain ⟨rfl, _, _⟩ := e1
    refine ⟨g, 0, rfl, e2, ?_⟩
    rw [Nat.zero_add, h'.cellAt j (by omega)]
    unfold fk
    rw [List.getElem?_map, List.getElem?_eq_getElem hj, nt_at hj]
    rfl
/-- what the deletes of keys leave, one by one -/
def Steps (p : Option Addr) (w : World) (L : List Ver) (Z : List ByteArray → World → Prop) : Prop :=
  (∀ ks x V, x ∈ L → Z ks V → ∃ S b, p = some ⟨S, 0, none⟩ ∧ V.cell? ⟨S, 0, none⟩ = some (.map (some b)) ∧ ∃ w', (Builtin.delete_ #[63, 9] 0 #[.map (some b), .string x.key]).run Try.prog V = .ok (.tuple #[]) w' ∧ Z (ks ++ [x.key]) w' ∧ V.heap.size ≤ w'.heap.size ∧ ∀ k, w.heap.size ≤ k → k < V.heap.size → w'.heap[k]? = V.heap[k]?) ∧
  ∀ ks V D o, w.heap.size ≤ D → V.heap[D]? = some (.deferred (some [])) → Z ks V → Z ks (V.putObj D o)
set_option maxHeartbeats 2000000 in
theorem drop_reads (p : Option Addr) (lo hi : ByteArray) (L : List Ver) (w : World) (hL : L.length ≤ 60000) (Z : List ByteArray → World → Prop) (h0 : ∀ V, Below w.heap.size w V → Z [] V) (hZ : Steps p w L Z)
    (hr : Reads Fence.wide 5 Try.prog 46 #[.pointer (some ⟨w.heap.size + 1, 0, none⟩), .pointer (some ⟨w.heap.size + 2, 0, none⟩), .pointer (some ⟨w.heap.size + 3, 0, none⟩)] encs (Kb w.heap.size) (R0 L) (fun ys => ys = L) (fun pre => pre <+: L) (alW (w.alloc (.cells #[.slice none 0 0] 81)) (.pointer p) lo hi)) :
    Calls Try.prog 19 #[.pointer p, .string lo, .string hi] w fun e w' => e = .returned (.int .i64 (L.length : Nat)) ∧ Z (L.map (·.key)) w' := by
  obtain ⟨iV, hiV, hzV0, hzV1, hzV2⟩ := info_parts infoS
  have hac := all_call p lo hi (w.alloc (.cells #[.slice none 0 0] 81))
  have hbx : Boxed (w.alloc (.cells #[.slice none 0 0] 81)) w.heap.size 81 (.slice none 0 0) := Boxed.new _ _ _
  have hB1 := al0 w (.cells #[.slice none 0 0] 81)
  have hsz : (w.alloc (.cells #[.slice none 0 0] 81)).heap.size = w.heap.size + 1 := by simp
  obtain ⟨W, hW⟩ : ∃ W, w.alloc (.cells #[.slice none 0 0] 81) = W := ⟨_, rfl⟩
  rw [hW] at hac hbx hB1 hr hsz
  have hB2 := alW_below W (.pointer p) lo hi
  have hLI : Hid (LK w [] (alW W (.pointer p) lo hi)) := Lib.hid ⟨none, 0, (hB2.block w.heap.size (by omega)).trans hbx, World.ownsRow_nil _ _ _ 1, trans0 hB1 hB2⟩
  have hwl : w.heap.size ≤ (alW W (.pointer p) lo hi).heap.size := Nat.le_trans hB1.size hB2.size
  replace hW := Lib.hid hW
  replace hac := Lib.hid hac
  replace hsz := Lib.hid hsz
  clear hbx hB1 hB2
  refine (callsIn_wide (n := 6)).1 ?_
  refine callsIn_of_wp_marks Try.func19 rfl trivial ?_ rfl
  simp only [Try.ntmps19, List.size_toArray, List.length_cons, List.length_nil, Nat.reduceAdd, Nat.reduceSub, Array.replicate_succ, Array.replicate_zero, List.push_toArray, List.append_toArray, List.nil_append, List.cons_append]
  refine wpIn_wide.2 ?_
  go_wp2_with (fail)
  rw [hW.out]
  with_reducible refine hac.out.mono ?_
  rintro e w2 ⟨rfl, rfl⟩
  unfold alV
  rw [hsz.out]
  obtain ⟨w2, hw2⟩ : ∃ w2, alW W (.pointer p) lo hi = w2 := ⟨_, rfl⟩
  rw [hw2] at hr hLI hwl ⊢
  replace hr := Lib.hid hr
  have hwo : w.heap.size < w2.heap.size := by
    obtain ⟨A, c, h1, _⟩ := hLI.out
    exact h1.lt
  clear hac hw2
  go_wp2
  refine (wpIn_wide (n := 6)).1 ?_
  refine' range_reads rfl (by omega) (gf := 46) (lb := #[.pointer (some ⟨w.heap.size + 1, 0, none⟩), .pointer (some ⟨w.heap.size + 2, 0, none⟩), .pointer (some ⟨w.heap.size + 3, 0, none⟩)]) rfl trivial (enters_of Try.func46 (by kernel_rfl) rfl)
    hr.out Kb.trans (Kb.book hwo) (fun _ => rfl)
    (LK w) (fun _ _ _ => False) (LK.from_ hwl) (fun _ => fun _ _ _ _ h _ _ => h) (fun pre => R0.from_ L pre _) hLI.out vbox Kb.alloc _ ?assign ?body ?done ?stop
  case assign =>
    intro l x W b K hbe hK
    simp only [encs]
    unfold vbox at hK
    replace hbe := Lib.hid hbe
    gi_wp2
    rw [← hbe.out]
    exact hK
  case body =>
    rintro l pre x b V hb0 hb ⟨A, c, hbx, hG, hBV⟩ ⟨rest, hre⟩
    unfold vbox at hb
    have u0 := (cell_of_row V b 0 _ _ (0, 0) hb).trans (show _ = some (.string x.key) from rfl)
    have hc := hbx.cell
    have hpl : pre.length < 60000 := by rw [hre] at hL; simp at hL; omega
    have hst := stand_at (w := V) (ys := [.string x.key]) (t := 9) (m := 1) (n := V.heap.size) rfl
    have hG1 : GK (V.alloc (.cells #[.string x.key] 9)) (w.heap.size + 1) A c pre := own_block hG fun k e => (al0 V (.cells #[.string x.key] 9)).block k (World.ownsRow.lt hG k e).2
    have hbase : w.heap.size + 1 ≤ (V.alloc (.cells #[.string x.key] 9)).heap.size := by have := hbx.lt; simp; omega
    have hmore := Lib.hid (fun (w1 : World) (A' : Option Addr) (c' : Nat) => LK.more (w1 := w1) (x := x) (A' := A') (c' := c') (o := .cells #[.string x.key] 9) hbx hG hBV)
    replace hst := Lib.hid hst
    replace hG1 := Lib.hid hG1
    clear hG hBV hre hL hr hLI hb hbx hZ h0
    gi_wp2_with (gi_at_builtin; refine wpListIn_gen rfl (.tmp 16) (.tmp 19) 81 rfl (w.heap.size + 1) 9 iV _ 1 16 Try.underlying81 hiV hzV0 hzV1 hzV2 rfl (by decide) (.slice A pre.length c) pre.length (fk pre) rfl hG1.out (some ⟨V.heap.size, 0, none⟩) 1 1 [.string x.key] rfl rfl hst.out (by simp [Value.oneCell']) (by unfold maxLen; omega) (by omega) hbase ?_; intro A' c' w1 ho hg h5; obtain ⟨z0, z1, z2, z3, z4⟩ := hmore.out _ _ _ ho hg h5)
    exact ⟨z2, z3, z4⟩
  case done =>
    rintro D ys V hD rfl ⟨A, c, hbx, hG, hBV⟩ hK
    have hc := hbx.cell
    have hZ0 := Lib.hid (h0 V hBV)
    have hbl := Lib.hid hbx.lt
    have hD9 := Lib.hid (show w.heap.size ≤ D by omega)
    have hVD := Lib.hid (Array.getElem?_eq_some_iff.1 hK).1
    replace hbx := Lib.hid hbx
    replace hG := Lib.hid hG
    replace hK := Lib.hid hK
    replace hZ := Lib.hid hZ
    clear hr hLI hBV h0
    go_wp2
    go_loopw [23] (fun i wr => ∃ j : Nat, j ≤ ys.length ∧ i = .int .i64 j ∧ Hid (Z ((ys.take j).map (·.key)) wr) ∧ Hid (V.heap.size ≤ wr.heap.size ∧ ∀ k, w.heap.size ≤ k → k < V.heap.size → wr.heap[k]? = V.heap[k]?)) (fun i _ => ys.length - (intOf i).toNat)
    case atStart => exact ⟨0, by omega, rfl, by rw [List.take_zero]; exact hZ0, Lib.hid ⟨Nat.le_refl _, fun _ _ _ => rfl⟩⟩
    case round =>
      obtain ⟨j, hj, rfl, hz, hV⟩ := hrel
      by_cases hlt : j < ys.length
      · have hjI : (j : Int) < (ys.length : Int) := by omega
        obtain ⟨g, off, rfl, hg1, hgc⟩ := gk_at hG.out hlt
        have k0 := (World.cell?_of_block (a := ⟨g, off + j, none⟩) (hV.out.2 g (by omega) (World.block_lt_of_cell? _ _ hgc))).trans hgc
        obtain ⟨S, b, rfl, q0, w', hrun, hz2, hs2, hk2⟩ := hZ.out.1 _ (nt ys j) wr (nt_mem hlt) hz.out
        have hz3 : Hid (Z ((ys.take (j + 1)).map (·.key)) w') := Lib.hid (by rw [take_nt hlt, List.map_append]; exact hz2)
        have hV3 : Hid (V.heap.size ≤ w'.heap.size ∧ ∀ k, w.heap.size ≤ k → k < V.heap.size → w'.heap[k]? = V.heap[k]?) := Lib.hid ⟨Nat.le_trans hV.out.1 hs2, fun k h1 h2 => (hk2 k h1 (by have := hV.out.1; omega)).trans (hV.out.2 k h1 h2)⟩
        clear hz2 hs2 hk2 hgc hZ hz hV
        generalize (nt ys j).key = key at *
        go_wp2
        go_roundw
        case rel => exact ⟨j + 1, by omega, by go_num, hz3, hV3⟩
        case measure => simp [intOf]; omega
      · obtain rfl : j = ys.length := by omega
        have hc2 := (World.cell?_of_block (a := ⟨w.heap.size, 0, none⟩) (hV.out.2 w.heap.size (Nat.le_refl _) hbl.out)).trans hc
        have hK2 := Lib.hid ((hV.out.2 D hD9.out hVD.out).trans hK.out)
        rw [List.take_length] at hz
        have hfin := Lib.hid (hZ.out.2 _ _ D (.deferred none) hD9.out hK2.out hz.out)
        clear hz hV hZ hc
        go_wp2
        refine ⟨by simp, .inl ⟨_, _, rfl, run_takeDeferred hK2.out, ?_⟩⟩
        exact ⟨_, results_tmp rfl _ _ _, rfl, hfin.out⟩
  case stop =>
    rintro D c pre V _ _ h _
    exact h.elim
/-- a block that is no cells and no map turns -/
theorem at_put {B : Nat → Prop} {V : World} {S b D : Nat} {s : St} (h : SAt B V S b s) (hD : V.heap[D]? = some (.deferred (some []))) (o : Obj) : SAt B (V.putObj D o) S b s := by
  obtain ⟨Dt, h⟩ := h
  have hg := grownBy_putObj' V D o
  have hr : ∀ r, (some D : Option Nat) = some r → ∃ o : Obj, V.heap[r]? = some o ∧ o.isCells = false := fun r e => by cases e; exact ⟨_, hD, rfl⟩
  have hS : S ≠ D := by
    rintro rfl
    obtain ⟨cells, h1, _⟩ := h.row
    rw [hD] at h1; cases h1
  have hb : b ≠ D := by
    rintro rfl
    obtain ⟨es, clock, h1, _⟩ := h.map
    rw [hD] at h1; cases h1
  refine ⟨Dt, { h with row := h.row.of_block (World.putObj_heap_other hS), map := map_block h.map (World.putObj_heap_other hb), ear := ⟨h.ear.1, fun c hc => ?_⟩, bd := fun k hk => by have := h.bd k hk; simpa using this }⟩
  obtain ⟨v, h1, A, cp, e, h2, h3⟩ := h.ear.2 c hc
  refine ⟨v, h1, A, cp, e, { h2 with row := ?_ }, h3⟩
  rcases h2.row with h0 | ⟨b2, off, e2, hlt, hc2⟩
  · exact .inl h0
  · by_cases h0 : c.l.length = 0
    · exact .inl h0
    · refine .inr ⟨b2, off, e2, by simpa using hlt, fun i hi => ?_⟩
      obtain ⟨o2, q1, q2⟩ := cells_of_cell (hc2 i hi).1
      exact (hc2 i hi).of_block (grownBy_keeps_cells hg hr q1 q2)
theorem drop_nil (lo hi : ByteArray) (w : World) : Calls Try.prog 19 #[.pointer none, .string lo, .string hi] w fun e w' => e = .returned (.int .i64 0) ∧ Below w.heap.size w w' := by
  refine (drop_reads none lo hi [] w (by simp) (fun _ V => Below w.heap.size w V) (fun V h => h) ⟨fun ks x V hx => (by cases hx), fun ks V D o hD h1 h2 => h2.grown (grownBy_putObj' V D o) h2.size (fun k e => by cases e; exact hD)⟩ (nil_reads 5 ?_)).mono ?_
  · have := (alW_cells (w.alloc (.cells #[.slice none 0 0] 81)) (.pointer none) lo hi).1
    rw [World.size_alloc] at this
    exact this
  · rintro e w' ⟨h1, h2⟩
    exact ⟨h1, h2⟩
theorem drop_any {B : Nat → Prop} {S b : Nat} {s : St} (lo hi : ByteArray) (w : World) (h : SAt B w S b s) : Calls Try.prog 19 #[.pointer (some ⟨S, 0, none⟩), .string lo, .string hi] w (Dropd B S b s lo hi w) := by
  obtain ⟨D, hI⟩ := id h
  have hl : (al s.ch lo hi).length ≤ 60000 := by
    have h1 := ln_filter (fun c => wth c.key lo hi) s.ch
    have h2 := hI.ln
    unfold al sp
    rw [cc_len]; omega
  have hS := hI.row.lt
  have hb := World.ownsMap.lt hI.map
  refine (drop_reads _ lo hi _ w hl (fun ks V => Chg (own2 S b) w V ∧ SAt B V S b ⟨dl s.ch ks, s.fl⟩) (fun V hB => ⟨Chg.of_below _ hB, by rw [dl_nil]; exact h.below hB⟩) ⟨?_, ?_⟩ (iter_reads 5 (by omega) (IA.of h lo hi rfl _ ?_))).mono ?_
  · rintro ks x V hx ⟨hC, hA⟩
    obtain ⟨D2, hI2⟩ := id hA
    have hx2 : x.key.size ≤ maxLen := by
      unfold al at hx
      obtain ⟨d, hd, hv⟩ := mem_cc.1 hx
      have hd1 := (List.mem_filter.1 hd).1
      rw [hI.inv.key d hd1 x hv]
      exact keyle hI d hd1
    obtain ⟨w', hrun, hC2, hA2⟩ := del_at x.key hx2 hA 0
    refine ⟨S, b, rfl, (SIs.cells hI2).1, w', hrun, ⟨hC.trans hC2, by rw [dl_one]; exact hA2⟩, hC2.size, fun k h1 h2 => hC2.block k h2 ?_⟩
    rintro (e | e) <;> omega
  · rintro ks V D o hD h1 ⟨hC, hA⟩
    refine ⟨⟨hC.os, hC.tape, hC.output, by simpa using hC.size, fun k h2 h3 => (World.putObj_heap_other (by omega)).trans (hC.block k h2 h3)⟩, at_put hA h1 o⟩
  · rintro k ⟨v, e1, e2⟩
    have := (Boxed.new w 81 (.slice none 0 0)).cell
    rw [this] at e1
    cases e1
    cases e2
  · rintro e w' ⟨h1, h2, h3⟩
    rw [dl_all hI.inv] at h3
    exact ⟨h1, h2, h3⟩
end Go.Proofs.Ytlojmojmijklmaa.stoD
