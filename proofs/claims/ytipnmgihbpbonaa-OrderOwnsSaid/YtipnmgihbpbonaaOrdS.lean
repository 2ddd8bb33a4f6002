/- What the law gathers of a log (stable). -/
import Derived.Test.YtipnmgihbpbonaaOrdF
import Derived.Test.YtipnmgihbpbonaaOrdI
import Derived.RangeFuncBox
set_option linter.unusedVariables false
set_option linter.unusedSimpArgs false
set_option maxRecDepth 100000
namespace Go.Proofs.Ytipnmgihbpbonaa.ordS
open Go.ChangeShapes Go.WideShapes Go.ChangeAt Go.RowKit Go.Shelf
open opV chnM gen chnA chnR chnE ordA ordB ordC ordM ordL ordD ordH ordI ordK ordW rngR ordF
attribute [local go_sem] Oper.semAt_some

/-- an append of anything onto a row of the call's own, in a round -/
theorem wpListIn_gen {F : Fence} {n : Nat} {P : Program} {w : World} {ops : Array Oper} {rest : List Oper} {o : Oper} {a : Act} {Q : Exit → Act → World → Prop} (hgd : o.guard = none) (s x : Operand) (t : TypeId)
    (ho : o.op = .call { callee := .builtin .append, args := #[s, x], argTypes := #[t, t] })
    (base : Nat) (e : TypeId) (i : TypeInfo) (z : Value) (size bytes : Nat) (ht : P.underlying t = some (.slice e)) (hi : P.info? e = some i) (hz : i.zero = some z)
    (hsize : i.size = size) (hby : i.bytes = bytes) (hzs : z.cells.size = size) (hsz : 0 < size) (v : Value) (k : Nat) (xs : List Value) (hs : a.eval s = v) (hown : w.ownsRow base e size v k xs)
    (A : Option Addr) (m c : Nat) (ys : List Value) (hx : a.eval x = .slice A m c) (hl : ys.length = m * size) (hst : Stand w A m ys) (h1 : ∀ u ∈ ys, u.oneCell' = true) (h63 : k + m ≤ maxLen) (hbytes : (k + m) * bytes ≤ 140737488355328) (hbase : base ≤ w.heap.size)
    (h : ∀ A' c' w', w'.ownsRow base e size (.slice A' (k + m) c') (k + m) (xs ++ ys) → w.grownBy w' v.ownBlock → ((Value.slice A' (k + m) c').ownBlock = v.ownBlock ∨ (Value.slice A' (k + m) c').ownBlock = some w.heap.size) → wpListIn F n P ops Q rest (a.put o.dst (.slice A' (k + m) c')) w') : wpListIn F n P ops Q (o :: rest) a w := by
  refine wpListIn_plain hgd fun K hK => ?_
  obtain ⟨A', c', w', hr, h3, h4, h5⟩ := run_gen (P := P) w base t o.type e i z size bytes ht hi hz hsize hby hzs hsz v k xs hown A m c ys hl hst h1 h63 hbytes hbase
  unfold Oper.wpIn
  refine ⟨?_, ?_⟩
  · simp [Oper.about, ho, resolve, Target.leads, Sem.run_pure]
  · rw [Oper.semAt_plain F _ _ (by rw [ho]; intro c hc'; cases hc')]
    simp [execOp, ho, resolve, invoke, builtin, hs, hx, hr, Result.andThen]
    exact hK _ _ (h A' c' w' h3 h4 h5)
/-- What a call answers: a row of commits in new memory, their versions in new memory too. -/
structure Got (base : Nat) (A : Option Addr) (c : Nat) (l : List MR) (w : World) : Prop where
  row : GR w base A c l
  vs : ∀ m ∈ l, GV w base m.A m.c m.vs ∧ m.vs.length * 64 ≤ 140737488355328 ∧ Sm m.vs
def RS (L : List Rc) (w : World) (e : Ending) (w' : World) : Prop := ∃ A c l, e = .returned (.slice A l.length c) ∧ l.map MR.r = L ∧ Got w.heap.size A c l w' ∧ Below w.heap.size w w'
section
variable {w W W' : World} {base hi : Nat} {A A' : Option Addr} {c c' : Nat} {l : List MR}
theorem gr_kept {row : Option Nat} (h : GR W base A c l) (hg : W.grownBy W' row) (hr : ∀ r, row = some r → ∃ o : Obj, W.heap[r]? = some o ∧ o.isCells = false) : GR W' base A c l := by
  refine h.block fun k e => ?_
  rcases h.2 with ⟨e1, _⟩ | ⟨g, cap, cur, e1, _, h3, _⟩
  · rw [e1] at e; cases e
  · rw [e1] at e; cases e
    exact grownBy_keeps_cells hg hr h3 rfl
theorem Got.kept {row : Option Nat} (h : Got base A c l W) (hg : W.grownBy W' row) (hr : ∀ r, row = some r → ∃ o : Obj, W.heap[r]? = some o ∧ o.isCells = false) : Got base A c l W' :=
  ⟨gr_kept h.row hg hr, fun m hm => ⟨gv_kept (h.vs m hm).1 hg hr, (h.vs m hm).2⟩⟩
theorem Got.below (h : Got base A c l W) (hB : Below W.heap.size W W') : Got base A c l W' := ⟨h.row.below hB, fun m hm => ⟨(h.vs m hm).1.below hB, (h.vs m hm).2⟩⟩
theorem Got.nil_ (w : World) (base : Nat) : Got base none 0 [] w := ⟨GR.nil_ _ _, fun m hm => by cases hm⟩
theorem Got.more {base' : Nat} (h : Got base A c l W) (hb : base' ≤ base) : Got base' A c l W := ⟨h.row.more hb, fun m hm => ⟨(h.vs m hm).1.more hb, (h.vs m hm).2⟩⟩
/-- between two rounds -/
def LI (w : World) (hi : Nat) (l : List MR) (V : World) : Prop := ∃ A c, Boxed V w.heap.size 26 (.slice A l.length c) ∧ Got hi A c l V ∧ Below w.heap.size w V
theorem LI.from_ {C : Nat} (hC : w.heap.size ≤ C) {f : List YR → List MR} : OwnFrom C (fun pre => LI w hi (f pre)) := by
  rintro pre V V' row ⟨A, c, h1, h2, hB⟩ hg hrow
  have kr := fun r e => (hrow r e).2
  refine ⟨A, c, (grownBy_keeps_cells hg kr h1 rfl).trans h1, h2.kept hg kr, hB.grown hg hB.size (fun k e => Nat.le_trans hC (hrow k e).1)⟩
def rbox (x : YR) : Obj := .cells #[.int .u64 x.m.ts, .int .i64 x.m.dc, .int .i64 x.m.tx, .slice x.m.A x.m.vs.length x.m.c] 32
/-- a round's append -/
theorem LI.more {V w1 : World} {x : MR} {o : Obj} (hlo : w.heap.size < hi) (hbx : Boxed V w.heap.size 26 (.slice A l.length c)) (hG : Got hi A c l V) (hBV : Below w.heap.size w V) (hx : GV V hi x.A x.c x.vs ∧ x.vs.length * 64 ≤ 140737488355328 ∧ Sm x.vs)
    (ho : w1.ownsRow hi 32 4 (.slice A' (l.length + 1) c') (l.length + 1) (gl l ++ cR x)) (hg : (V.alloc o).grownBy w1 (Value.slice A l.length c).ownBlock) :
    w1.cell? ⟨w.heap.size, 0, none⟩ = some (.slice A l.length c) ∧ w1.frozen? ⟨w.heap.size, 0, none⟩ = false ∧ KeepsOthers V (w1.setCell ⟨w.heap.size, 0, none⟩ (.slice A' (l.length + 1) c')) ∧ KS (fun k => k = w.heap.size) hi V (w1.setCell ⟨w.heap.size, 0, none⟩ (.slice A' (l.length + 1) c')) ∧ LI w hi (l ++ [x]) (w1.setCell ⟨w.heap.size, 0, none⟩ (.slice A' (l.length + 1) c')) := by
  have hne : ∀ k, (Value.slice A l.length c).ownBlock = some k → hi ≤ k ∧ k < V.heap.size := fun k e => World.ownsRow.lt hG.row k e
  have hne0 : (Value.slice A l.length c).ownBlock ≠ some w.heap.size := fun e => by have := (hne _ e).1; omega
  have hb1 : Boxed w1 w.heap.size 26 (.slice A l.length c) := (hbx.alloc o).kept hg (fun e => hne0 e.symm)
  have hal := al0 V o
  have hl1 : (l ++ [x]).length = l.length + 1 := by simp
  have hgv : ∀ m : MR, GV V hi m.A m.c m.vs → GV (w1.setCell ⟨w.heap.size, 0, none⟩ (.slice A' (l.length + 1) c')) hi m.A m.c m.vs := fun m hm => by
    have h1 : GV w1 hi m.A m.c m.vs := (hm.below hal).block fun k e => hg.block k (by have := (World.ownsRow.lt hm k e).2; have := hal.size; omega) (fun e2 => own_apart hG.row hm (by decide) e2.symm e)
    exact h1.other hlo _ _
  refine ⟨hb1.cell, hb1.frozen, ((KeepsOthers.alloc V o).trans (KeepsOthers.of_grownBy hg fun j o2 e h2 => ?_)).trans (KeepsOthers.setCell _ _ _), ⟨?_, fun hhi k hk hK => ?_⟩, A', c', ?_, ⟨?_, ?_⟩, ?_⟩
  · have hlt := (hne j e).2
    rw [hal.block j hlt] at h2
    rcases hG.row.2 with ⟨e1, _⟩ | ⟨g, cap, cur, e1, _, h3, _⟩
    · rw [e1] at e; cases e
    · rw [e1] at e; cases e
      rw [h3] at h2; cases h2; rfl
  · rw [World.size_setCell]; exact Nat.le_trans hal.size hg.size
  · refine (Below.heap_setCell w1 ⟨w.heap.size, 0, none⟩ _ k hK).trans ?_
    refine (hg.block k (by have := hal.size; omega) (fun e => by have := (hne k e.symm).1; omega)).trans ?_
    exact hal.block k (by omega)
  · rw [hl1]; exact hb1.set _
  · have h1 : GR w1 hi A' c' (l ++ [x]) := by
      unfold GR
      rw [gl_app, gl_one, hl1]
      exact ho
    exact h1.other hlo _ _
  · intro m hm
    rcases List.mem_append.1 hm with hm | hm
    · exact ⟨hgv m (hG.vs m hm).1, (hG.vs m hm).2⟩
    · rw [List.mem_singleton.1 hm]
      exact ⟨hgv x hx.1, hx.2⟩
  · exact ((hBV.trans (hal.mono hBV.size)).grown hg (by have := hBV.size; have := hal.size; omega) (fun k e => by have := (hne k e).1; omega)).setCell (p := ⟨w.heap.size, 0, none⟩) (Nat.le_refl _) _
end
theorem stand_at {w : World} {ys : List Value} {t : TypeId} {m n : Nat} (hn : w.heap.size = n) : Stand (w.alloc (.cells ys.toArray t)) (some ⟨n, 0, none⟩) m ys := by
  subst hn; exact stand_new w ys t m
set_option maxHeartbeats 1000000 in
/-- what the law's stable answers -/
theorem stable_reads (p : Option Addr) (at0 : Int) (st : List Rc) (w : World) (hL : st.length ≤ 200)
    (hr : Reads Fence.wide 5 Try.prog 30 #[.pointer (some ⟨w.heap.size + 1 + 1, 0, none⟩), .pointer (some ⟨w.heap.size + 1, 0, none⟩)] encs (KS (fun k => k = w.heap.size) (w.heap.size + 1 + 2)) (RF st (sAt at0) (w.heap.size + 1 + 2)) (fun ys => ys.map (fun y => y.m.r) = st.drop (sAt at0)) (fun _ => True) (fW (w.alloc (.cells #[.slice none 0 0] 26)) p at0)) :
    Calls Try.prog 19 #[.pointer p, .int .i64 at0] w (RS (st.drop (sAt at0)) w) := by
  obtain ⟨iV, hiV, hzV0, hzV1, hzV2⟩ := info_parts infoR
  have hac := from_call p at0 (w.alloc (.cells #[.slice none 0 0] 26))
  have hbx : Boxed (w.alloc (.cells #[.slice none 0 0] 26)) w.heap.size 26 (.slice none 0 0) := Boxed.new _ _ _
  have hB1 := al0 w (.cells #[.slice none 0 0] 26)
  have hsz : (w.alloc (.cells #[.slice none 0 0] 26)).heap.size = w.heap.size + 1 := by simp
  obtain ⟨W, hW⟩ : ∃ W, w.alloc (.cells #[.slice none 0 0] 26) = W := ⟨_, rfl⟩
  rw [hW] at hac hbx hB1 hr hsz
  have hB2 := fW_below W p at0
  have hf2 := fW_size W p at0
  have hLI : Hid (LI w (w.heap.size + 1 + 2) [] (fW W p at0)) := Lib.hid ⟨none, 0, (hB2.block w.heap.size (by omega)).trans hbx, Got.nil_ _ _, trans0 hB1 hB2⟩
  have hwl : w.heap.size ≤ (fW W p at0).heap.size := Nat.le_trans hB1.size hB2.size
  have hhi : w.heap.size + 1 + 2 ≤ (fW W p at0).heap.size := by omega
  replace hW := Lib.hid hW
  replace hac := Lib.hid hac
  replace hsz := Lib.hid hsz
  clear hbx hB1 hB2 hf2
  refine (callsIn_wide (n := 6)).1 ?_
  refine callsIn_of_wp_marks Try.func19 rfl trivial ?_ rfl
  simp only [Try.ntmps19, List.size_toArray, List.length_cons, List.length_nil, Nat.reduceAdd, Nat.reduceSub, Array.replicate_succ, Array.replicate_zero, List.push_toArray, List.append_toArray, List.nil_append, List.cons_append]
  refine wpIn_wide.2 ?_
  go_wp2_with (fail)
  rw [hW.out]
  with_reducible refine hac.out.mono ?_
  rintro e w2 ⟨rfl, rfl⟩
  unfold fV
  rw [hsz.out]
  obtain ⟨w2, hw2⟩ : ∃ w2, fW W p at0 = w2 := ⟨_, rfl⟩
  rw [hw2] at hr hLI hwl hhi ⊢
  replace hr := Lib.hid hr
  have hwo : w.heap.size < w2.heap.size := by
    obtain ⟨A, c, h1, _⟩ := hLI.out
    exact h1.lt
  clear hac hw2
  go_wp2
  refine (wpIn_wide (n := 6)).1 ?_
  refine' range_reads rfl (by omega) (gf := 30) (lb := #[.pointer (some ⟨w.heap.size + 1 + 1, 0, none⟩), .pointer (some ⟨w.heap.size + 1, 0, none⟩)]) rfl trivial (enters_of Try.func30 (by kernel_rfl) rfl)
    hr.out KS.trans (KS.book hhi) (fun _ => rfl)
    (fun pre => LI w (w.heap.size + 1 + 2) (pre.map YR.m)) (fun _ _ _ => False) (LI.from_ hwl) (fun _ => fun _ _ _ _ h _ _ => h) (fun pre => RF.from_ st (sAt at0) _ pre _) hLI.out rbox (KS.alloc _ _) _ ?assign ?body ?done ?stop
  case assign =>
    intro l x W b K hbe hK
    simp only [encs]
    unfold rbox at hK
    replace hbe := Lib.hid hbe
    gi_wp2
    rw [← hbe.out]
    exact hK
  case body =>
    rintro l pre ⟨xi, x⟩ b V hb0 hb ⟨A, c, hbx, hG, hBV⟩ ⟨⟨hx1, hx2, hx3, hx4, hx5⟩, hx6⟩
    unfold rbox at hb
    simp only at hb hx1 hx2 hx3 hx4 hx5 hx6
    obtain ⟨l, hl⟩ : ∃ l, pre.map YR.m = l := ⟨_, rfl⟩
    have hmap : (pre ++ [(⟨xi, x⟩ : YR)]).map YR.m = l ++ [x] := by rw [List.map_append, hl]; rfl
    have hll : l.length < 200 := by rw [← hl, List.length_map]; omega
    rw [hl] at hbx hG
    have u := fun (j : Nat) (v : Value) (e : (#[.int .u64 x.ts, .int .i64 x.dc, .int .i64 x.tx, .slice x.A x.vs.length x.c] : Array Value)[j]? = some v) => (cell_of_row V b j _ _ (0, 0) hb).trans e
    have u0 := u 0 _ rfl
    have u1 := u 1 _ rfl
    have u2 := u 2 _ rfl
    have u3 := u 3 _ rfl
    have hc := hbx.cell
    have hst := stand_at (w := V) (ys := cR x) (t := 32) (m := 1) (n := V.heap.size) rfl
    have hG1 := hG.row.below (al0 V (.cells #[.int .u64 x.ts, .int .i64 x.dc, .int .i64 x.tx, .slice x.A x.vs.length x.c] 32))
    have hbase : w.heap.size + 1 + 2 ≤ (V.alloc (.cells #[.int .u64 x.ts, .int .i64 x.dc, .int .i64 x.tx, .slice x.A x.vs.length x.c] 32)).heap.size := by have := hb0; simp; have := (Array.getElem?_eq_some_iff.1 hb).1; omega
    have hmore := Lib.hid (fun (w1 : World) (A' : Option Addr) (c' : Nat) => LI.more (w1 := w1) (x := x) (A' := A') (c' := c') (o := (.cells #[.int .u64 x.ts, .int .i64 x.dc, .int .i64 x.tx, .slice x.A x.vs.length x.c] 32)) (show w.heap.size < w.heap.size + 1 + 2 by omega) hbx hG hBV ⟨hx6, hx4, hx5⟩)
    replace hst := Lib.hid hst
    replace hG1 := Lib.hid hG1
    replace hmap := Lib.hid hmap
    clear hG hBV hr hLI hb u hbx hx1 hx2 hx3 hx4 hx5 hx6 hl
    gi_wp2_with (gi_at_builtin; refine wpListIn_gen rfl (.tmp 13) (.tmp 15) 26 rfl (w.heap.size + 1 + 2) 32 iV _ 4 48 Try.underlying26 hiV hzV0 hzV1 hzV2 rfl (by decide) (.slice A l.length c) l.length (gl l) rfl hG1.out (some ⟨V.heap.size, 0, none⟩) 1 1 (cR x) rfl rfl hst.out (cR_one x) (by unfold maxLen; omega) (by omega) hbase ?_; intro A' c' w1 ho hg h5; obtain ⟨z0, z1, z2, z3, z4⟩ := hmore.out _ _ _ ho hg)
    exact ⟨z2, z3, by show LI _ _ _ _; rw [hmap.out]; exact z4⟩
  case done =>
    rintro D ys V hD hys ⟨A, c, hbx, hG, hBV⟩ hK
    have hmr : Hid ((ys.map YR.m).map MR.r = st.drop (sAt at0)) := Lib.hid (by rw [← hys, List.map_map]; rfl)
    generalize ys.map YR.m = l at *
    have hc := hbx.cell
    have hG2 := Lib.hid (hG.kept (grownBy_putObj' V D (.deferred none)) (fun r e => by cases e; exact ⟨_, hK, rfl⟩))
    have hfin := Lib.hid (hBV.trans (belowK_b (w := w) (Nat.le_refl _) V D _ (.deferred none) (by omega) hK rfl rfl))
    have hK' := Lib.hid hK
    clear hG hBV hK hr hLI hbx hys
    go_wp2
    refine ⟨by simp, .inl ⟨_, _, rfl, run_takeDeferred hK'.out, ?_⟩⟩
    exact ⟨_, results_tmp rfl _ _ _, A, c, l, rfl, hmr.out, hG2.out.more (by omega), hfin.out⟩
  case stop =>
    rintro D c pre V _ _ h _
    exact h.elim
theorem stable_any {T : TypeId} {col : Nat → Nat} {c p : Nat} {L : Lg} (at0 : Int) (w : World) (h : LogAt T col c w p L) (hc : c ≠ 0) (h9 : at0 ≤ 9223372036854775807) :
    Calls Try.prog 19 #[.pointer (some ⟨p, 0, none⟩), .int .i64 at0] w (RS (L.st.drop (sAt at0)) w) := by
  obtain ⟨A1, c1, A2, c2, ms, mw, h⟩ := h
  have hl : L.st.length ≤ 200 := by rw [← h.e1, List.length_map]; have := h.len; omega
  refine stable_reads _ at0 L.st w hl ?_
  have hal := al0 w (.cells #[.slice none 0 0] 26)
  have hI := IF.of (K := fun k => k = w.heap.size) (at0 := at0) ((h.ext (col' := fun k => if k = w.heap.size then c + 1 else col k) (fun k hk => if_neg (by omega))).below hal) (fun k e hk => by subst e; exact ⟨by simp, by simp⟩) hc (fun k hk e => by subst e; rw [World.size_alloc] at hk; omega)
  rw [World.size_alloc] at hI
  exact from_reads 5 (by omega) hI h9
theorem stable_nil (at0 : Int) (w : World) (h9 : at0 ≤ 9223372036854775807) : Calls Try.prog 19 #[.pointer none, .int .i64 at0] w (RS [] w) := by
  have hq := fW_cells (w.alloc (.cells #[.slice none 0 0] 26)) none at0
  rw [World.size_alloc] at hq
  have := stable_reads none at0 [] w (by simp) (nil_reads 5 (by omega) hq.2 hq.1 h9)
  rwa [List.drop_nil] at this
end Go.Proofs.Ytipnmgihbpbonaa.ordS
