/- What the law gathers of a store (All). -/
import Derived.Test.YtlojmojmijklmaaStoI
import Derived.Test.YtlojmojmijklmaaRngR
import Derived.RangeFuncBox
set_option linter.unusedVariables false
set_option maxRecDepth 100000
namespace Go.Proofs.Ytlojmojmijklmaa.stoJ
open Go.ChangeShapes Go.WideShapes Go.ChangeAt Go.RowKit Go.Shelf
open opV chnM gen chnA chnB chnR chnE chnG stoM stoA stoL stoB stoC stoP stoI rngR
attribute [local go_sem] Oper.semAt_some

/-- an append of anything onto a row of the call's own, in a round -/
theorem wpListIn_gen {F : Fence} {n : Nat} {P : Program} {w : World} {ops : Array Oper} {rest : List Oper} {o : Oper} {a : Act} {Q : Exit → Act → World → Prop} (hgd : o.guard = none) (s x : Operand) (t : TypeId)
    (ho : o.op = .call { callee := .builtin .append, args := #[s, x], argTypes := #[t, t] })
    (base : Nat) (e : TypeId) (i : TypeInfo) (z : Value) (size bytes : Nat) (ht : P.underlying t = some (.slice e)) (hi : P.info? e = some i) (hz : i.zero = some z)
    (hsize : i.size = size) (hby : i.bytes = bytes) (hzs : z.cells.size = size) (hsz : 0 < size) (v : Value) (k : Nat) (xs : List Value) (hs : a.eval s = v) (hown : w.ownsRow base e size v k xs)
    (A : Option Addr) (m c : Nat) (ys : List Value) (hx : a.eval x = .slice A m c) (hl : ys.length = m * size) (hst : Stand w A m ys) (h1 : ∀ u ∈ ys, u.oneCell' = true) (h63 : k + m ≤ maxLen) (hbytes : (k + m) * bytes ≤ 140737488355328) (hbase : base ≤ w.heap.size)
    (h : ∀ A' c' w', w'.ownsRow base e size (.slice A' (k + m) c') (k + m) (xs ++ ys) → w.grownBy w' v.ownBlock → ((Value.slice A' (k + m) c').ownBlock = v.ownBlock ∨ (Value.slice A' (k + m) c').ownBlock = some w.heap.size) → wpListIn F n P ops Q rest (a.put o.dst (.slice A' (k + m) c')) w') : wpListIn F n P ops Q (o :: rest) a w := by
  refine wpListIn_plain hgd fun K hK => ?_
  obtain ⟨A', c', w', hr, h3, h4, h5⟩ := run_gen (P := P) w base t o.type e i z size bytes ht hi hz hsize hby hzs hsz v k xs hown A m c ys hl hst h1 h63 hbytes hbase
  unfold Oper.wpIn
  refine ⟨?_, ?_⟩
  · simp [Oper.about, ho, resolve, Target.leads, Sem.run_pure]
  · rw [Oper.semAt_plain F _ _ (by rw [ho]; intro c hc'; cases hc')]
    simp [execOp, ho, resolve, invoke, builtin, hs, hx, hr, Result.andThen]
    exact hK _ _ (h A' c' w' h3 h4 h5)
theorem keyle {B : Nat → Prop} {w : World} {S b : Nat} {s : St} {D : DataW Value} (h : SIs B w S b s D) : ∀ c ∈ s.ch, c.key.size ≤ maxLen := by
  intro c hc
  have h1 := Go.strKeys_le h.map Try.underlying9 c.key.data.toList (h.keys.subset (List.mem_map_of_mem hc))
  rw [Array.length_toList] at h1
  exact h1
/-- the world in which All's function is ranged over finds what the iterator wants -/
theorem IA.of {B : Nat → Prop} {w : World} {S b ob : Nat} {s : St} (h : SAt B w S b s) (lo hi : ByteArray) (hob : w.heap.size = ob) (o : Obj) (hr : ∀ k, ¬ stoI.rowAt ob (w.alloc o) k) :
    IA (fun k => B k ∨ k = ob) (alW (w.alloc o) (.pointer (some ⟨S, 0, none⟩)) lo hi) S b s lo hi (ob + 1) (ob + 2) (ob + 3) ob := by
  have hsz : (w.alloc o).heap.size = ob + 1 := by simp [hob]
  have hB := alW_below (w.alloc o) (.pointer (some ⟨S, 0, none⟩)) lo hi
  have hB0 : Below w.heap.size w (alW (w.alloc o) (.pointer (some ⟨S, 0, none⟩)) lo hi) := trans0 (al0 w o) hB
  obtain ⟨c1, c2, c3⟩ := alW_cells (w.alloc o) (.pointer (some ⟨S, 0, none⟩)) lo hi
  rw [hsz] at c1 c2 c3
  obtain ⟨D, hI⟩ := h
  have hS := hI.row.lt
  have hb := World.ownsMap.lt hI.map
  have hI0 := hI.below hB0
  have hI1 : SIs (fun k => B k ∨ k = ob) (alW (w.alloc o) (.pointer (some ⟨S, 0, none⟩)) lo hi) S b s D :=
    { row := hI0.row, map := hI0.map, inv := hI0.inv, ln := hI0.ln, bS := .inl hI.bS, bb := .inl hI.bb
      ear := ⟨hI.ear.1, fun c hc => by
        obtain ⟨v, h1, h2⟩ := hI.ear.2 c hc
        exact ⟨v, h1, (h2.wide (B' := fun k => B k ∨ k = ob) (fun k hk e => by rcases e with e | e; exact e; omega)).go (Chg.of_below (fun _ => False) hB0) (fun _ e => e.elim)⟩⟩
      bd := fun k e => by
        rcases e with e | rfl
        · exact Nat.lt_of_lt_of_le (hI.bd k e) hB0.size
        · have := hB.size; omega }
  exact ⟨⟨D, hI1⟩, c1, c2, c3, by omega, by omega, by omega, by omega, by omega, .inr rfl, fun k hr2 => hr k (row_same (hB.block ob (by omega)) hr2), keyle hI⟩
/-- what a round is handed -/
def encs (x : Ver) : Array Value := #[vv x]
def R0 (L : List Ver) (pre : List Ver) (x : Ver) (_ : World) : Prop := ∃ rest, L = pre ++ x :: rest
theorem R0.from_ (L pre : List Ver) (C : Nat) : OwnFrom C (R0 L pre) := fun _ _ _ _ hs _ _ => hs
theorem IA.below {B : Nat → Prop} {w W : World} {S b : Nat} {s : St} {lo hi : ByteArray} {b1 b2 b3 ob : Nat} (h : IA B w S b s lo hi b1 b2 b3 ob) (hB : Below w.heap.size w W) : IA B W S b s lo hi b1 b2 b3 ob :=
  { h with at_ := h.at_.below hB, c1 := keep_cell hB h.c1, c2 := keep_cell hB h.c2, c3 := keep_cell hB h.c3
           row := fun k hr => h.row k (row_same (hB.block ob (by obtain ⟨D, hI⟩ := h.at_; exact hI.bd ob h.bo)) hr) }
theorem iter_reads (n : Nat) (hn : 1 ≤ n) {B : Nat → Prop} {w : World} {S b : Nat} {s : St} {lo hi : ByteArray} {b1 b2 b3 ob : Nat} (hA : IA B w S b s lo hi b1 b2 b3 ob) :
    Reads Fence.wide n Try.prog 46 #[.pointer (some ⟨b1, 0, none⟩), .pointer (some ⟨b2, 0, none⟩), .pointer (some ⟨b3, 0, none⟩)] encs (Kb ob) (R0 (al s.ch lo hi)) (fun ys => ys = al s.ch lo hi) (fun pre => pre <+: al s.ch lo hi) w :=
  fun l J Jx W hW hJ _ hY h0 => iter_in n hn l b1 b2 b3 ob S b B s lo hi J Jx (fun pre x V h1 h2 => hY pre x V h1 h2) W hJ (IA.below hA hW) h0
theorem nil_reads (n : Nat) {w : World} {b1 b2 b3 ob : Nat} (hc : w.cell? ⟨b1, 0, none⟩ = some (.pointer none)) :
    Reads Fence.wide n Try.prog 46 #[.pointer (some ⟨b1, 0, none⟩), .pointer (some ⟨b2, 0, none⟩), .pointer (some ⟨b3, 0, none⟩)] encs (Kb ob) (R0 []) (fun ys => ys = []) (fun pre => pre <+: []) w :=
  fun l J Jx W hW _ _ _ h0 => iter_nil n l b1 b2 b3 J Jx W (keep_cell hW hc) h0
/-- between two rounds -/
def LI (w : World) (pre : List Ver) (W : World) : Prop := ∃ A c, Boxed W w.heap.size 30 (.slice A pre.length c) ∧ GV W (w.heap.size + 1) A c pre ∧ Below w.heap.size w W
theorem gv_kept {W W' : World} {row : Option Nat} {base : Nat} {A : Option Addr} {c : Nat} {l : List Ver} (h : GV W base A c l) (hg : W.grownBy W' row) (hr : ∀ r, row = some r → ∃ o : Obj, W.heap[r]? = some o ∧ o.isCells = false) : GV W' base A c l := by
  refine h.block fun k e => ?_
  rcases h.2 with ⟨e1, _⟩ | ⟨g, cap, cur, e1, _, h3, _⟩
  · rw [e1] at e; cases e
  · rw [e1] at e; cases e
    exact grownBy_keeps_cells hg hr h3 rfl
theorem LI.from_ {w : World} {C : Nat} (hC : w.heap.size ≤ C) : OwnFrom C (LI w) := by
  rintro pre W W' row ⟨A, c, h1, h2, hB⟩ hg hrow
  have kr := fun r e => (hrow r e).2
  refine ⟨A, c, (grownBy_keeps_cells hg kr h1 rfl).trans h1, gv_kept h2 hg kr, hB.grown hg hB.size (fun k e => Nat.le_trans hC (hrow k e).1)⟩
def vbox (x : Ver) : Obj := .cells #[.string x.key, .string x.val, .bool x.gone, .int .u64 x.ts, .int .i64 x.dc, .int .i64 x.tx] 35
/-- a round's append -/
theorem Kb.more {V w1 : World} {ob : Nat} {v v' : Value} {o : Obj} (hob : ob < V.heap.size) (hb : V.cell? ⟨ob, 0, none⟩ = some v) (hg : (V.alloc o).grownBy w1 v.ownBlock)
    (hne : v.ownBlock ≠ some ob) (h5 : v'.ownBlock = v.ownBlock ∨ v'.ownBlock = some (V.alloc o).heap.size) : Kb ob V (w1.setCell ⟨ob, 0, none⟩ v') := fun _ => by
  have hal := al0 V o
  have hs1 : V.heap.size ≤ w1.heap.size := Nat.le_trans hal.size hg.size
  refine ⟨by rw [World.size_setCell]; exact hs1, fun k o2 hk ho hk2 hr => ?_, fun k hr => ?_⟩
  · have hlt := (Array.getElem?_eq_some_iff.1 hk).1
    refine (Below.heap_setCell w1 ⟨ob, 0, none⟩ v' k hk2).trans ?_
    refine (hg.block k (by have := hal.size; omega) (fun e => hr ⟨v, hb, e.symm⟩)).trans ?_
    exact (hal.block k hlt).trans hk
  · obtain ⟨u, e1, e2⟩ := hr
    have hc1 : w1.cell? ⟨ob, 0, none⟩ = some v := by
      rw [World.cell?_of_block (a := ⟨ob, 0, none⟩) (hg.block ob (by have := hal.size; omega) (fun e => hne e.symm))]
      exact keep_cell hal hb
    rw [World.cell?_setCell_same' _ _ _ (by rw [hc1]; rfl)] at e1
    cases e1
    rcases h5 with h5 | h5
    · exact .inl ⟨v, hb, h5.symm.trans e2⟩
    · rw [h5] at e2
      cases e2
      exact .inr hal.size
theorem LI.more {w V w1 : World} {pre : List Ver} {x : Ver} {A A' : Option Addr} {c c' : Nat} {o : Obj} (hbx : Boxed V w.heap.size 30 (.slice A pre.length c)) (hG : GV V (w.heap.size + 1) A c pre) (hBV : Below w.heap.size w V)
    (ho : w1.ownsRow (w.heap.size + 1) 35 6 (.slice A' (pre.length + 1) c') (pre.length + 1) (fl pre ++ cL x)) (hg : (V.alloc o).grownBy w1 (Value.slice A pre.length c).ownBlock) (h5 : (Value.slice A' (pre.length + 1) c').ownBlock = (Value.slice A pre.length c).ownBlock ∨ (Value.slice A' (pre.length + 1) c').ownBlock = some (V.alloc o).heap.size) :
    w1.cell? ⟨w.heap.size, 0, none⟩ = some (.slice A pre.length c) ∧ w1.frozen? ⟨w.heap.size, 0, none⟩ = false ∧ KeepsOthers V (w1.setCell ⟨w.heap.size, 0, none⟩ (.slice A' (pre.length + 1) c')) ∧ Kb w.heap.size V (w1.setCell ⟨w.heap.size, 0, none⟩ (.slice A' (pre.length + 1) c')) ∧ LI w (pre ++ [x]) (w1.setCell ⟨w.heap.size, 0, none⟩ (.slice A' (pre.length + 1) c')) := by
  have hne : ∀ k, (Value.slice A pre.length c).ownBlock = some k → w.heap.size + 1 ≤ k ∧ k < V.heap.size := fun k e => hG.lt k e
  have hne0 : (Value.slice A pre.length c).ownBlock ≠ some w.heap.size := fun e => by have := (hne _ e).1; omega
  have hb1 : Boxed w1 w.heap.size 30 (.slice A pre.length c) := (hbx.alloc o).kept hg (fun e => hne0 e.symm)
  have hal := al0 V o
  refine ⟨hb1.cell, hb1.frozen, ((KeepsOthers.alloc V o).trans (KeepsOthers.of_grownBy hg fun j o2 e h2 => ?_)).trans (KeepsOthers.setCell _ _ _), Kb.more hbx.lt hbx.cell hg hne0 h5, A', c', ?_, ?_, ?_⟩
  · have hlt := (hne j e).2
    rw [hal.block j hlt] at h2
    rcases hG.2 with ⟨e1, _⟩ | ⟨g, cap, cur, e1, _, h3, _⟩
    · rw [e1] at e; cases e
    · rw [e1] at e; cases e
      rw [h3] at h2; cases h2; rfl
  · rw [List.length_append]
    exact hb1.set _
  · have h1 : GV w1 (w.heap.size + 1) A' c' (pre ++ [x]) := by
      unfold GV
      rw [fl_app, fl_one, List.length_append]
      exact ho
    exact h1.other (by omega) _ _
  · exact ((hBV.trans (hal.mono hBV.size)).grown hg (by have := hBV.size; have := hal.size; omega) (fun k e => by have := (hne k e).1; omega)).setCell (p := ⟨w.heap.size, 0, none⟩) (Nat.le_refl _) _
/-- what the law's All answers -/
theorem all_reads (p : Option Addr) (lo hi : ByteArray) (L : List Ver) (w : World) (hL : L.length ≤ 60000)
    (hr : Reads Fence.wide 5 Try.prog 46 #[.pointer (some ⟨w.heap.size + 1, 0, none⟩), .pointer (some ⟨w.heap.size + 2, 0, none⟩), .pointer (some ⟨w.heap.size + 3, 0, none⟩)] encs (Kb w.heap.size) (R0 L) (fun ys => ys = L) (fun pre => pre <+: L) (alW (w.alloc (.cells #[.slice none 0 0] 30)) (.pointer p) lo hi)) :
    Calls Try.prog 24 #[.pointer p, .string lo, .string hi] w (RV L w) := by
  obtain ⟨iV, hiV, hzV0, hzV1, hzV2⟩ := info_parts infoV
  have hac := all_call p lo hi (w.alloc (.cells #[.slice none 0 0] 30))
  have hbx : Boxed (w.alloc (.cells #[.slice none 0 0] 30)) w.heap.size 30 (.slice none 0 0) := Boxed.new _ _ _
  have hB1 := al0 w (.cells #[.slice none 0 0] 30)
  have hsz : (w.alloc (.cells #[.slice none 0 0] 30)).heap.size = w.heap.size + 1 := by simp
  obtain ⟨W, hW⟩ : ∃ W, w.alloc (.cells #[.slice none 0 0] 30) = W := ⟨_, rfl⟩
  rw [hW] at hac hbx hB1 hr hsz
  have hB2 := alW_below W (.pointer p) lo hi
  have hLI : Hid (LI w [] (alW W (.pointer p) lo hi)) := Lib.hid ⟨none, 0, (hB2.block w.heap.size (by omega)).trans hbx, GV.nil_ _ _, trans0 hB1 hB2⟩
  have hwl : w.heap.size ≤ (alW W (.pointer p) lo hi).heap.size := Nat.le_trans hB1.size hB2.size
  replace hW := Lib.hid hW
  replace hac := Lib.hid hac
  replace hsz := Lib.hid hsz
  clear hbx hB1 hB2
  refine (callsIn_wide (n := 6)).1 ?_
  refine callsIn_of_wp_marks Try.func24 rfl trivial ?_ rfl
  simp only [Try.ntmps24, List.size_toArray, List.length_cons, List.length_nil, Nat.reduceAdd, Nat.reduceSub, Array.replicate_succ, Array.replicate_zero, List.push_toArray, List.append_toArray, List.nil_append, List.cons_append]
  refine wpIn_wide.2 ?_
  go_wp2_with (fail)
  rw [hW.out]
  with_reducible refine hac.out.mono ?_
  rintro e w2 ⟨rfl, rfl⟩
  unfold alV
  rw [hsz.out]
  obtain ⟨w2, hw2⟩ : ∃ w2, alW W (.pointer p) lo hi = w2 := ⟨_, rfl⟩
  rw [hw2] at hr hLI hwl ⊢
  replace hr := Lib.hid hr
  have hwo : w.heap.size < w2.heap.size := by
    obtain ⟨A, c, h1, _⟩ := hLI.out
    exact h1.lt
  clear hac hw2
  go_wp2
  refine (wpIn_wide (n := 6)).1 ?_
  refine' range_reads rfl (by omega) (gf := 46) (lb := #[.pointer (some ⟨w.heap.size + 1, 0, none⟩), .pointer (some ⟨w.heap.size + 2, 0, none⟩), .pointer (some ⟨w.heap.size + 3, 0, none⟩)]) rfl trivial (enters_of Try.func46 (by kernel_rfl) rfl)
    hr.out Kb.trans (Kb.book hwo) (fun _ => rfl)
    (LI w) (fun _ _ _ => False) (LI.from_ hwl) (fun _ => fun _ _ _ _ h _ _ => h) (fun pre => R0.from_ L pre _) hLI.out vbox Kb.alloc _ ?assign ?body ?done ?stop
  case assign =>
    intro l x W b K hbe hK
    simp only [encs]
    unfold vbox at hK
    replace hbe := Lib.hid hbe
    gi_wp2
    rw [← hbe.out]
    exact hK
  case body =>
    rintro l pre x b V hb0 hb ⟨A, c, hbx, hG, hBV⟩ ⟨rest, hre⟩
    unfold vbox at hb
    have u := fun (j : Nat) (v : Value) (e : (#[.string x.key, .string x.val, .bool x.gone, .int .u64 x.ts, .int .i64 x.dc, .int .i64 x.tx] : Array Value)[j]? = some v) => (cell_of_row V b j _ _ (0, 0) hb).trans e
    have u0 := u 0 _ rfl
    have u1 := u 1 _ rfl
    have u2 := u 2 _ rfl
    have u3 := u 3 _ rfl
    have u4 := u 4 _ rfl
    have u5 := u 5 _ rfl
    have hc := hbx.cell
    have hpl : pre.length < 60000 := by rw [hre] at hL; simp at hL; omega
    have hst := stand_at (w := V) (ys := cL x) (t := 35) (m := 1) (n := V.heap.size) rfl
    have hG1 := hG.below (al0 V (.cells #[.string x.key, .string x.val, .bool x.gone, .int .u64 x.ts, .int .i64 x.dc, .int .i64 x.tx] 35))
    have hbase : w.heap.size + 1 ≤ (V.alloc (.cells #[.string x.key, .string x.val, .bool x.gone, .int .u64 x.ts, .int .i64 x.dc, .int .i64 x.tx] 35)).heap.size := by have := hbx.lt; simp; omega
    have hmore := Lib.hid (fun (w1 : World) (A' : Option Addr) (c' : Nat) => LI.more (w1 := w1) (x := x) (A' := A') (c' := c') (o := .cells #[.string x.key, .string x.val, .bool x.gone, .int .u64 x.ts, .int .i64 x.dc, .int .i64 x.tx] 35) hbx hG hBV)
    replace hst := Lib.hid hst
    replace hG1 := Lib.hid hG1
    clear hG hBV hre hL hr hLI hb u hbx
    gi_wp2_with (gi_at_builtin; refine wpListIn_gen rfl (.tmp 14) (.tmp 16) 30 rfl (w.heap.size + 1) 35 iV _ 6 64 Try.underlying30 hiV hzV0 hzV1 hzV2 rfl (by decide) (.slice A pre.length c) pre.length (fl pre) rfl hG1.out (some ⟨V.heap.size, 0, none⟩) 1 1 (cL x) rfl rfl hst.out (cL_one x) (by unfold maxLen; omega) (by omega) hbase ?_; intro A' c' w1 ho hg h5; obtain ⟨z0, z1, z2, z3, z4⟩ := hmore.out _ _ _ ho hg h5)
    exact ⟨z2, z3, z4⟩
  case done =>
    rintro D ys V hD rfl ⟨A, c, hbx, hG, hBV⟩ hK
    have hc := hbx.cell
    have hG2 := Lib.hid (gv_kept hG (grownBy_putObj' V D (.deferred none)) (fun r e => by cases e; exact ⟨_, hK, rfl⟩))
    have hfin := Lib.hid (hBV.trans (belowK_b (w := w) (Nat.le_refl _) V D _ (.deferred none) (by omega) hK rfl rfl))
    have hK' := Lib.hid hK
    clear hG hBV hK hr hLI hbx
    go_wp2
    refine ⟨by simp, .inl ⟨_, _, rfl, run_takeDeferred hK'.out, ?_⟩⟩
    exact ⟨_, results_tmp rfl _ _ _, A, c, rfl, hG2.out.more (Nat.le_succ _), hfin.out⟩
  case stop =>
    rintro D c pre V _ _ h _
    exact h.elim
theorem all_any {B : Nat → Prop} {S b : Nat} {s : St} (lo hi : ByteArray) (w : World) (h : SAt B w S b s) : Calls Try.prog 24 #[.pointer (some ⟨S, 0, none⟩), .string lo, .string hi] w (RV (al s.ch lo hi) w) := by
  have hl : (al s.ch lo hi).length ≤ 60000 := by
    obtain ⟨D, hI⟩ := h
    have h1 := ln_filter (fun c => wth c.key lo hi) s.ch
    have h2 := hI.ln
    unfold al sp
    rw [cc_len]; omega
  refine all_reads _ lo hi _ w hl (iter_reads 5 (by omega) (IA.of h lo hi rfl _ ?_))
  rintro k ⟨v, e1, e2⟩
  have := (Boxed.new w 30 (.slice none 0 0)).cell
  rw [this] at e1
  cases e1
  cases e2
theorem all_nil (lo hi : ByteArray) (w : World) : Calls Try.prog 24 #[.pointer none, .string lo, .string hi] w (RV [] w) := by
  refine all_reads _ lo hi _ w (by simp) (nil_reads 5 ?_)
  have := (alW_cells (w.alloc (.cells #[.slice none 0 0] 30)) (.pointer none) lo hi).1
  rw [World.size_alloc] at this
  exact this
end Go.Proofs.Ytlojmojmijklmaa.stoJ
