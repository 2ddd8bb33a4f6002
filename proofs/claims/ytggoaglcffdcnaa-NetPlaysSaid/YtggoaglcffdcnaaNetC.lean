/- append onto rows of the call's own; the contracts of likeOf and of Send. -/
import Derived.Test.YtggoaglcffdcnaaNetB
namespace Go.Proofs.Ytggoaglcffdcnaa.netC
open Go.ChangeShapes Go.WideShapes Go.ChangeAt Go.RowKit Go.Deep
open numM rowA byt numA numB numC netA netB

section
variable {P : Program}
/-- where ys stand -/
def Stand (w : World) (A : Option Addr) (m : Nat) (ys : List Value) : Prop := m = 0 ∨ ∃ ad, A = some ad ∧ ∀ j u, ys[j]? = some u → w.cell? (ad.add j) = some u
theorem run_gen_nil (w : World) (base : Nat) (t ty e : TypeId) (i : TypeInfo) (size : Nat) (ht : P.underlying t = some (.slice e)) (hi : P.info? e = some i) {v : Value} {n : Nat} {xs : List Value} (hown : w.ownsRow base e size v n xs) (A : Option Addr) (c : Nat) :
    (Builtin.append_ #[t, t] ty #[v, .slice A 0 c]).run P w = .ok v w := by
  rcases hown.2 with ⟨rfl, rfl⟩ | ⟨g, cap, cur, rfl, _, _, hnc, _⟩
  · rcases A with _ | a <;> simp [Builtin.append_, run_underlying ht, sizeOf, typeInfo, hi, Builtin.lenOf, Builtin.firstCells, loadCells, loadCellsFrom]
  · rcases A with _ | a <;> simp [Builtin.append_, run_underlying ht, sizeOf, typeInfo, hi, Builtin.lenOf, Builtin.firstCells, hnc, storeCells, loadCells, loadCellsFrom]
theorem run_gen (w : World) (base : Nat) (t ty e : TypeId) (i : TypeInfo) (z : Value) (size bytes : Nat) (ht : P.underlying t = some (.slice e)) (hi : P.info? e = some i) (hz : i.zero = some z)
    (hsize : i.size = size) (hby : i.bytes = bytes) (hzs : z.cells.size = size) (hsz : 0 < size) (v : Value) (n : Nat) (xs : List Value) (hown : w.ownsRow base e size v n xs)
    (A : Option Addr) (m c : Nat) (ys : List Value) (hl : ys.length = m * size) (hst : Stand w A m ys) (h1 : ∀ u ∈ ys, u.oneCell' = true) (h63 : n + m ≤ maxLen) (hbytes : (n + m) * bytes ≤ 140737488355328) (hbase : base ≤ w.heap.size) :
    ∃ A' c' w', (Builtin.append_ #[t, t] ty #[v, .slice A m c]).run P w = .ok (.slice A' (n + m) c') w' ∧ w'.ownsRow base e size (.slice A' (n + m) c') (n + m) (xs ++ ys) ∧ w.grownBy w' v.ownBlock ∧ ((Value.slice A' (n + m) c').ownBlock = v.ownBlock ∨ (Value.slice A' (n + m) c').ownBlock = some w.heap.size) := by
  by_cases hm : m = 0
  · subst hm
    have hy : ys = [] := List.eq_nil_of_length_eq_zero (by simpa using hl)
    subst hy
    have hr := run_gen_nil (P := P) w base t ty e i size ht hi hown A c
    obtain ⟨A', c', rfl⟩ : ∃ A' c', v = .slice A' n c' := by
      rcases hown.2 with ⟨rfl, rfl⟩ | ⟨g, cap, cur, rfl, _⟩
      · exact ⟨none, 0, rfl⟩
      · exact ⟨_, cap, rfl⟩
    exact ⟨A', c', w, hr, by rw [List.append_nil]; exact hown, ⟨rfl, rfl, rfl, Nat.le_refl _, fun _ _ _ => rfl⟩, .inl rfl⟩
  · rcases hst with h0 | ⟨ad, rfl, hc⟩
    · exact absurd h0 hm
    · obtain ⟨v', w', hr, ho, hg, _, hat⟩ := run_append_own_at (P := P) w base t ty e i z size bytes ht hi hz hsize hby hzs hsz v n xs hown ad m c ys hl hc h1 h63 hbytes hbase
      obtain ⟨A', c', rfl⟩ : ∃ A' c', v' = .slice A' (n + m) c' := by
        rcases ho.2 with ⟨_, e0⟩ | ⟨g, cap, cur, e0, _⟩
        · omega
        · exact ⟨_, cap, e0⟩
      exact ⟨A', c', w', hr, ho, hg, hat⟩
theorem wpList_gen {w : World} {ops : Array Oper} {rest : List Oper} {o : Oper} {a : Act} {Q : Exit → Act → World → Prop} (hgd : o.guard = none) (s x : Operand) (t : TypeId)
    (ho : o.op = .call { callee := .builtin .append, args := #[s, x], argTypes := #[t, t] })
    (base : Nat) (e : TypeId) (i : TypeInfo) (z : Value) (size bytes : Nat) (ht : P.underlying t = some (.slice e)) (hi : P.info? e = some i) (hz : i.zero = some z)
    (hsize : i.size = size) (hby : i.bytes = bytes) (hzs : z.cells.size = size) (hsz : 0 < size) (v : Value) (n : Nat) (xs : List Value) (hs : a.eval s = v) (hown : w.ownsRow base e size v n xs)
    (A : Option Addr) (m c : Nat) (ys : List Value) (hx : a.eval x = .slice A m c) (hl : ys.length = m * size) (hst : Stand w A m ys) (h1 : ∀ u ∈ ys, u.oneCell' = true) (h63 : n + m ≤ maxLen) (hbytes : (n + m) * bytes ≤ 140737488355328) (hbase : base ≤ w.heap.size)
    (h : ∀ A' c' w', w'.ownsRow base e size (.slice A' (n + m) c') (n + m) (xs ++ ys) → w.grownBy w' v.ownBlock → ((Value.slice A' (n + m) c').ownBlock = v.ownBlock ∨ (Value.slice A' (n + m) c').ownBlock = some w.heap.size) → wpList P ops Q rest (a.put o.dst (.slice A' (n + m) c')) w') : wpList P ops Q (o :: rest) a w := by
  refine wpList_plain hgd fun K hK => ?_
  obtain ⟨A', c', w', hr, h3, h4, h5⟩ := run_gen (P := P) w base t o.type e i z size bytes ht hi hz hsize hby hzs hsz v n xs hown A m c ys hl hst h1 h63 hbytes hbase
  unfold Oper.wp execOp
  simp only [ho, resolve, invoke, builtin, Sem.run_bind, Sem.run_pure, Result.andThen_ok, List.map_toArray, List.map_cons, List.map_nil, hs, hx, hr]
  exact hK _ _ (h A' c' w' h3 h4 h5)
theorem step_gen {w : World} {ops : Array Oper} {o : Oper} {a : Act} {K : Act → World → Prop} {Q : Exit → Act → World → Prop} {E : Prop} (hgd : o.guard = none) (s x : Operand) (t : TypeId)
    (ho : o.op = .call { callee := .builtin .append, args := #[s, x], argTypes := #[t, t] })
    (base : Nat) (e : TypeId) (i : TypeInfo) (z : Value) (size bytes : Nat) (ht : P.underlying t = some (.slice e)) (hi : P.info? e = some i) (hz : i.zero = some z)
    (hsize : i.size = size) (hby : i.bytes = bytes) (hzs : z.cells.size = size) (hsz : 0 < size) (v : Value) (n : Nat) (xs : List Value) (hs : a.eval s = v) (hown : w.ownsRow base e size v n xs)
    (A : Option Addr) (m c : Nat) (ys : List Value) (hx : a.eval x = .slice A m c) (hl : ys.length = m * size) (hst : Stand w A m ys) (h1 : ∀ u ∈ ys, u.oneCell' = true) (h63 : n + m ≤ maxLen) (hbytes : (n + m) * bytes ≤ 140737488355328) (hbase : base ≤ w.heap.size)
    (h : ∀ A' c' w', w'.ownsRow base e size (.slice A' (n + m) c') (n + m) (xs ++ ys) → w.grownBy w' v.ownBlock → ((Value.slice A' (n + m) c').ownBlock = v.ownBlock ∨ (Value.slice A' (n + m) c').ownBlock = some w.heap.size) → K (a.put o.dst (.slice A' (n + m) c')) w') :
    if Region.wanted o (yielded ops a.tmps) = true then Oper.wp P o a w K Q else E := by
  have hw : Region.wanted o (yielded ops a.tmps) = true := by simp [Region.wanted, hgd]
  rw [if_pos hw]
  obtain ⟨A', c', w', hr, h3, h4, h5⟩ := run_gen (P := P) w base t o.type e i z size bytes ht hi hz hsize hby hzs hsz v n xs hown A m c ys hl hst h1 h63 hbytes hbase
  unfold Oper.wp
  simp [execOp, ho, resolve, invoke, builtin, hs, hx, hr, Result.andThen]
  exact h A' c' w' h3 h4 h5
end


theorem stand_new (w : World) (ys : List Value) (t : TypeId) (m : Nat) : Stand (w.alloc (.cells ys.toArray t)) (some ⟨w.heap.size, 0, none⟩) m ys := .inr ⟨_, rfl, fun j u hu => by
  rw [add_plain, Nat.zero_add]
  exact cell_of_row _ _ j ys.toArray t (0, 0) (heap_alloc_new w _) |>.trans (by simpa using hu)⟩

/-! ### likeOf -/
abbrev SL (b : Nat) (v : Value) (sp : Bool) (w : World) : Prop := w.cell? ⟨b, 0, none⟩ = some v ∧ w.cell? ⟨b, 1, none⟩ = some (.bool sp) ∧ b < w.heap.size
theorem SL.below {b : Nat} {v : Value} {sp : Bool} {w w1 : World} (h : SL b v sp w) (hB : Below w.heap.size w w1) : SL b v sp w1 :=
  ⟨(hB.cell (p := ⟨b, 0, none⟩) h.2.2).trans h.1, (hB.cell (p := ⟨b, 1, none⟩) h.2.2).trans h.2.1, Nat.lt_of_lt_of_le h.2.2 hB.size⟩
theorem SL.set {b b' : Nat} {v : Value} {sp : Bool} {w : World} (h : SL b v sp w) (hb : b ≠ b') (i : Nat) (x : Value) : SL b v sp (w.setCell ⟨b', i, none⟩ x) := by
  have e : ∀ j, (w.setCell ⟨b', i, none⟩ x).cell? ⟨b, j, none⟩ = w.cell? ⟨b, j, none⟩ := fun j => World.cell?_of_block (Below.heap_setCell w ⟨b', i, none⟩ x b hb)
  exact ⟨(e 0).trans h.1, (e 1).trans h.2.1, by rw [World.size_setCell]; exact h.2.2⟩
theorem SL.set2 {b b' : Nat} {v : Value} {sp : Bool} {w : World} (h : SL b v sp w) (hb : b ≠ b') (x y : Value) : SL b v sp ((w.setCell ⟨b', 0, none⟩ x).setCell ⟨b', 1, none⟩ y) := (h.set hb 0 x).set hb 1 y
/-- two cells that may be written -/
abbrev Z2 (b : Nat) (w : World) : Prop := w.rowIs b 45 2 (fun i => if i = 0 then .slice none 0 0 else .bool false)
theorem Z2.cells {b : Nat} {w : World} (h : Z2 b w) : w.cell? ⟨b, 0, none⟩ = some (.slice none 0 0) ∧ w.cell? ⟨b, 1, none⟩ = some (.bool false) ∧ w.frozen? ⟨b, 0, none⟩ = false ∧ w.frozen? ⟨b, 1, none⟩ = false :=
  ⟨h.cell (i := 0) (by omega), h.cell (i := 1) (by omega), h.frozen 0, h.frozen 1⟩
theorem Z2.below {b : Nat} {w w1 : World} (h : Z2 b w) (hB : Below w.heap.size w w1) : Z2 b w1 := h.of_block (hB.block b h.lt)
theorem Z2.new (w : World) : Z2 w.heap.size (w.alloc (.cells #[.slice none 0 0, .bool false] 45)) := by
  have h := World.rowIs_alloc w #[.slice none 0 0, .bool false] 45 (fun i => if i = 0 then .slice none 0 0 else .bool false) (fun i hi => ?_)
  · exact h
  · have : i = 0 ∨ i = 1 := by simp at hi; omega
    rcases this with rfl | rfl <;> rfl
theorem own2 {base b n i j : Nat} {v : Value} {l : List Nat} {w : World} (h : Own w base v n l) (hb : b < base) (x y : Value) : Own ((w.setCell ⟨b, i, none⟩ x).setCell ⟨b, j, none⟩ y) base v n l :=
  own_blk h fun k e => by
    have := (h.2.2.2.lt k e).1
    rw [Below.heap_setCell _ _ _ _ (by simp; omega), Below.heap_setCell _ _ _ _ (by simp; omega)]
theorem below2 {B b i j : Nat} {w0 w : World} (h : Below B w0 w) (hb : B ≤ b) (x y : Value) : Below B w0 ((w.setCell ⟨b, i, none⟩ x).setCell ⟨b, j, none⟩ y) :=
  (h.setCell (p := ⟨b, i, none⟩) hb x).setCell (p := ⟨b, j, none⟩) hb y
/-- What a call answers that makes a packet. -/
def Packed (w : World) (l : List Nat) (sp : Bool) (e : Ending) (w' : World) : Prop :=
  ∃ A c, e = .returned (.agg #[.slice A l.length c, .bool sp]) ∧ Own w' w.heap.size (.slice A l.length c) l.length l ∧ Below w.heap.size w w'
set_option maxRecDepth 100000 in
set_option maxHeartbeats 400000 in
theorem like_any (A : Option Addr) (cap : Nat) (l : List Nat) (sp : Bool) (w : World) (hb : BL w A l.length l) (hnone : A = none → l.length = 0) (hn : l.length ≤ 140737488355328) :
    Calls Try.prog 36 #[.agg #[.slice A l.length cap, .bool sp]] w (Packed w l sp) := by
  have hal := trans0 (al0 w (.cells #[.slice A l.length cap, .bool sp] 45)) (al0 (w.alloc (.cells #[.slice A l.length cap, .bool sp] 45)) (.cells #[.slice none 0 0, .bool false] 45))
  obtain ⟨W, hW⟩ : ∃ W, (w.alloc (.cells #[.slice A l.length cap, .bool sp] 45)).alloc (.cells #[.slice none 0 0, .bool false] 45) = W := ⟨_, rfl⟩
  have hz0 := Z2.new (w.alloc (.cells #[.slice A l.length cap, .bool sp] 45))
  have hs0 : SL w.heap.size (.slice A l.length cap) sp (w.alloc (.cells #[.slice A l.length cap, .bool sp] 45)) := by
    have h := World.rowIs_alloc w #[.slice A l.length cap, .bool sp] 45 (fun i => if i = 0 then .slice A l.length cap else .bool sp) (fun i hi => by
      have : i = 0 ∨ i = 1 := by simp at hi; omega
      rcases this with rfl | rfl <;> rfl)
    exact ⟨h.cell (i := 0) (by simp), h.cell (i := 1) (by simp), h.lt⟩
  have hs1 := hs0.below (al0 _ (.cells #[.slice none 0 0, .bool false] 45))
  rw [hW] at hal hz0 hs1
  rw [World.size_alloc] at hz0
  have hsz : W.heap.size = w.heap.size + 1 + 1 := by rw [← hW]; simp
  have hS : Hid (SL w.heap.size (.slice A l.length cap) sp W.drew) := Lib.hid hs1
  have hZ : Hid (Z2 (w.heap.size + 1) W.drew) := Lib.hid hz0
  have hbd : Hid (BL W.drew A l.length l) := Lib.hid (hb.below hal.drew)
  have hBd : Hid (Below w.heap.size w W.drew) := Lib.hid hal.drew
  replace hsz := Lib.hid hsz
  replace hnone := Lib.hid hnone
  replace hW := Lib.hid hW
  clear hb hal hz0 hs0 hs1
  generalize hL : l.length = L at *
  replace hL := Lib.hid hL
  go_enter Try.func36, Try.ntmps36
  go_wp2
  rw [hW.out]
  go_region_held3 (SL w.heap.size (.slice A L cap) sp)
    (first | with_reducible exact hS.out | with_reducible assumption | with_reducible exact SL.below (by assumption) (by assumption) | with_reducible exact SL.set2 (by assumption) (Nat.ne_of_lt (Nat.lt_succ_self _)) _ _ | fail)
    (first
      | (go_at_call 38; ((with_reducible refine (clone_any A L cap l _ hbd.out hnone.out (by assumption)).mono ?_); rintro e w' ⟨A2, c2, rfl, ho, hB⟩; have hz := Z2.below hZ.out hB; obtain ⟨z0, z1, z2, z3⟩ := hz.cells)) | fail)
  go_wp2
  refine bodyPost_ret (v := .agg #[.slice A2 l.length c2, .bool sp]) ?_ rfl ⟨A2, c2, rfl, (own2 ho (by show _ < W.heap.size; rw [hsz.out]; omega) _ _).more (by show _ ≤ W.heap.size; rw [hsz.out]; omega), below2 (hBd.out.trans (hB.mono (by show _ ≤ W.heap.size; rw [hsz.out]; omega))) (by omega) _ _⟩
  clear z2 z3
  simp [results, Try.results36, go_sem, z0, z1]

/-! ### Send -/
theorem grown_of {w w1 w2 : World} {x : Option Nat} (hB : Below w.heap.size w w1) (hg : w1.grownBy w2 x) : w.grownBy w2 x :=
  ⟨hg.os.trans hB.os, hg.tape.trans hB.tape, hg.output.trans hB.output, Nat.le_trans hB.size hg.size, fun k hk hn => (hg.block k (Nat.lt_of_lt_of_le hk hB.size) hn).trans (hB.block k hk)⟩
theorem blks_app (a b : List MP) : blks (a ++ b) = blks a ++ blks b := by simp [blks]
theorem blks_one (m : MP) {b : Nat} : b ∈ blks [m] ↔ m.v.ownBlock = some b := by rw [mem_blks]; simp
theorem nodup_snoc {a : List MP} {m : MP} (h : (blks a).Nodup) (hn : ∀ b, m.v.ownBlock = some b → b ∉ blks a) : (blks (a ++ [m])).Nodup := by
  rw [blks_app, List.nodup_append]
  refine ⟨h, ?_, fun x hx y hy e => ?_⟩
  · unfold blks
    cases hm : m.v.ownBlock <;> simp [hm]
  · subst e
    exact hn x ((blks_one m).1 hy) hx
theorem own_ge {w : World} {base n : Nat} {v : Value} {l : List Nat} (h : Own w base v n l) {b : Nat} (e : v.ownBlock = some b) : base ≤ b ∧ b < w.heap.size := h.2.2.2.lt b e
section
variable {col : Nat → Nat} {c : Nat} {w w1 w2 w4 : World} {p : Nat} {vs : Nat → Value} {ms : Nat → List MP} {lost : Nat} {s : Ns}
/-- A packet stands last on its way. -/
theorem net_add (h : NetIs col c w p vs ms lost) {k : Nat} (hk : k < 441) (m : MP) (hg : w.grownBy w4 (vs k).ownBlock) {v' : Value}
    (hrow : w4.ownsRow 0 45 2 v' ((ms k).length + 1) (fl MP.cs (ms k) ++ m.cs)) (hv : ∀ b, v'.ownBlock = some b → (vs k).ownBlock = some b ∨ w.heap.size ≤ b)
    (ho : Own w4 w.heap.size m.v m.b.length m.b) (hl : m.b.length ≤ 100000) (hn : (ms k).length < 48) :
    Cg (fun b => col b = c) w (w4.setCell ⟨p, k, none⟩ v') ∧ NetIs (recol col w c) c (w4.setCell ⟨p, k, none⟩ v') p (upd vs k v') (upd ms k (ms k ++ [m])) lost := by
  refine h.put hk hg (l' := ms k ++ [m]) ?_ hv ?_ ?_ ?_ ?_ ?_
  · rw [fl_app, fl_one, List.length_append]; exact hrow
  · intro x hx
    rcases List.mem_append.1 hx with hx | hx
    · exact own_blk (h.byt k hk x hx) fun b e => hg.block b (h.blt hk hx e) (fun e2 => own_apart (h.own k hk) (h.byt k hk x hx).2.2.2 (by decide) e2.symm e)
    · rw [List.mem_singleton.1 hx]; exact own_lo ho
  · intro b hb
    rw [blks_app, List.mem_append] at hb
    rcases hb with hb | hb
    · exact h.mine hk hb
    · exact h.fresh (own_ge ho ((blks_one m).1 hb)).1
  · refine nodup_snoc (h.sb k hk) fun b e hb => ?_
    obtain ⟨x, hx, e2⟩ := mem_blks.1 hb
    have := h.blt hk hx e2
    have := (own_ge ho e).1
    omega
  · rw [List.length_append]; simp; omega
  · intro x hx
    rcases List.mem_append.1 hx with hx | hx
    · exact h.bl k hk x hx
    · rw [List.mem_singleton.1 hx]; exact hl
theorem map_upd {ms : Nat → List MP} {r : Nat → List (List Nat × Bool)} (he : ∀ j, j < 441 → (ms j).map MP.pk = r j) (k : Nat) (l' : List MP) : ∀ j, j < 441 → (upd ms k l' j).map MP.pk = upd r k (l'.map MP.pk) j := by
  intro j hj
  by_cases e : j = k
  · subst e; rw [upd_same, upd_same]
  · rw [upd_other _ _ e, upd_other _ _ e]; exact he j hj
def addS (s : Ns) (k : Nat) (x : List Nat × Bool) : Ns := ⟨upd s.row k (s.row k ++ [x]), s.lost⟩
def lostS (s : Ns) : Ns := ⟨s.row, s.lost + 1⟩
def sndE (s : Ns) (k : Nat) : Nat := if 48 ≤ (s.row k).length then 9 else 0
def sndS (s : Ns) (k : Nat) (l : List Nat) : Ns := if 48 ≤ (s.row k).length then lostS s else addS s k (l, false)
/-- What is answered by a call that changes a net. -/
def Did (col : Nat → Nat) (c p : Nat) (E : Nat) (s' : Ns) (w : World) (e : Ending) (w' : World) : Prop := e = .returned (.int .i64 E) ∧ Cg (fun b => col b = c) w w' ∧ NetAt (recol col w c) c w' p s'
theorem at_add (h : NetIs col c w p vs ms s.lost) (he : ∀ j, j < 441 → (ms j).map MP.pk = s.row j) {k : Nat} (hk : k < 441) (m : MP) (hg : w.grownBy w4 (vs k).ownBlock) {v' : Value}
    (hrow : w4.ownsRow 0 45 2 v' ((ms k).length + 1) (fl MP.cs (ms k) ++ m.cs)) (hv : ∀ b, v'.ownBlock = some b → (vs k).ownBlock = some b ∨ w.heap.size ≤ b)
    (ho : Own w4 w.heap.size m.v m.b.length m.b) (hl : m.b.length ≤ 100000) (hn : (ms k).length < 48) :
    Cg (fun b => col b = c) w (w4.setCell ⟨p, k, none⟩ v') ∧ NetAt (recol col w c) c (w4.setCell ⟨p, k, none⟩ v') p (addS s k m.pk) := by
  obtain ⟨h1, h2⟩ := net_add h hk m hg hrow hv ho hl hn
  refine ⟨h1, _, _, h2, fun j hj => ?_⟩
  rw [map_upd he k _ j hj, List.map_append, he k hk]; rfl
theorem at_lost (h : NetAt col c w p s) : Cg (fun b => col b = c) w (w.setCell ⟨p, 441, none⟩ (.int .i64 (s.lost + 1 : Nat))) ∧ NetAt (recol col w c) c (w.setCell ⟨p, 441, none⟩ (.int .i64 (s.lost + 1 : Nat))) p (lostS s) := by
  obtain ⟨vs, ms, h, e⟩ := h
  obtain ⟨h1, h2⟩ := h.setLost (s.lost + 1)
  refine ⟨h1, vs, ms, ?_, e⟩
  exact h2.ext fun k hk => rec_ext col w c k (by rwa [World.size_setCell] at hk)
end
theorem infoP : (Try.prog.info? 45).map (fun i => (i.zero, i.size, i.bytes)) = some (some (.agg #[.slice none 0 0, .bool false]), 2, 32) := by kernel_rfl
set_option maxRecDepth 100000 in
theorem send_bad (v : Value) (f t : Int) (b : Value) (w : World) (h : Bad v f t) : Calls Try.prog 20 #[v, .int .i64 f, .int .i64 t, b] w fun e w' => e = .returned (.int .i64 1) ∧ w = w' := by
  go_enter Try.func20, Try.ntmps20
  go_wp2_with (go_at_call 33; ((with_reducible refine (way_bad v f t _ h).mono ?_); rintro e w' ⟨rfl, rfl⟩))
  go_ret
  exact ⟨rfl, rfl⟩
set_option maxRecDepth 100000 in
set_option maxHeartbeats 1000000 in
theorem send_ok {col : Nat → Nat} {c p : Nat} {s : Ns} {f t : Int} (A : Option Addr) (cap : Nat) (l : List Nat) (w : World) (h : NetAt col c w p s) (hw : IsWay f t) (hb : BL w A l.length l) (hnone : A = none → l.length = 0) (hl : l.length ≤ 100000) (hcn : s.lost < 1000000) :
    Calls Try.prog 20 #[.pointer (some ⟨p, 0, none⟩), .int .i64 f, .int .i64 t, .slice A l.length cap] w (Did col c p (sndE s (wn f t)) (sndS s (wn f t) l) w) := by
  have hk := wn_lt hw
  have hwa := Lib.hid (way_at p w hw)
  generalize wn f t = k at *
  have hfu := full_any w h hk
  obtain ⟨hfz, A0, c0, hcell, hle⟩ := h.cell hk
  clear hw
  by_cases hfull : 48 ≤ (s.row k).length
  · rw [decide_eq_true hfull] at hfu
    replace hfu := Lib.hid hfu
    have hS := Lib.hid (at_lost h)
    obtain ⟨g1, g2⟩ := h.cellL
    have hE : Hid (sndE s k = 9 ∧ sndS s k l = lostS s) := Lib.hid ⟨if_pos hfull, if_pos hfull⟩
    have e1 : Hid (((s.lost + 1 : Nat) : Int) = (s.lost : Int) + 1) := Lib.hid (by omega)
    clear h hb hfull hcell
    generalize s.lost = n at *
    go_enter Try.func20, Try.ntmps20
    go_wp2_with (first
      | (go_at_call 33; ((with_reducible refine (hwa.out).mono ?_); rintro e w' ⟨rfl, rfl⟩))
      | (go_at_call 37; ((with_reducible refine (hfu.out).mono ?_); rintro e w' ⟨rfl, rfl⟩)))
    go_ret
    obtain ⟨q1, q2⟩ := hE.out
    refine ⟨by rw [q1]; rfl, ?_⟩
    rw [q2, ← e1.out]
    exact hS.out
  · rw [decide_eq_false hfull] at hfu
    replace hfu := Lib.hid hfu
    obtain ⟨i0, hi, hz0, hz1, hz2⟩ := info_parts infoP
    obtain ⟨vs, ms, hI, he⟩ := h
    obtain ⟨k1, k2, A1, cp1, k3, k4, k5⟩ := hI.cell hk
    have hlen : (s.row k).length = (ms k).length := by rw [← he k hk, List.length_map]
    rw [hlen] at hfull hcell hle
    rw [k1, k3] at hcell
    cases hcell
    have hplt := hI.row.lt
    have hE : Hid (sndE s k = 0 ∧ sndS s k l = addS s k (l, false)) := Lib.hid ⟨if_neg (by rw [hlen]; exact hfull), if_neg (by rw [hlen]; exact hfull)⟩
    have hO : Hid (∀ w2, Below w.heap.size w w2 → w2.ownsRow 0 45 2 (.slice A0 (ms k).length c0) (ms k).length (fl MP.cs (ms k))) := Lib.hid fun w2 hB => by rw [← k3]; exact (hI.below hB).own k hk
    have hfar : Hid (∀ w2 w9, Below w.heap.size w w2 → w2.grownBy w9 (Value.slice A0 (ms k).length c0).ownBlock → w9.cell? ⟨p, k, none⟩ = some (.slice A0 (ms k).length c0) ∧ w9.frozen? ⟨p, k, none⟩ = false) := Lib.hid fun w2 w9 hB hg => by
      have h2 := hI.below hB
      have hr : w9.rowIs p 64 442 (cN vs s.lost) := h2.row.of_block (hg.block p h2.row.lt (fun e => row_apart h2.row (h2.own k hk) (by decide) (by rw [k3]; exact e.symm)))
      refine ⟨?_, hr.frozen k⟩
      rw [hr.cell (i := k) (by omega)]
      unfold cN; rw [if_neg (by omega), k3]
    have hS : Hid (∀ w1 w9 A2 c2 A9 c9, Below w.heap.size w w1 → Own w1 w.heap.size (.slice A2 l.length c2) l.length l → w9.ownsRow 0 45 2 (.slice A9 ((ms k).length + 1) c9) ((ms k).length + 1) (fl MP.cs (ms k) ++ [.slice A2 l.length c2, .bool false]) →
        (w1.alloc (.cells #[.slice A2 l.length c2, .bool false] 45)).grownBy w9 (Value.slice A0 (ms k).length c0).ownBlock →
        ((Value.slice A9 ((ms k).length + 1) c9).ownBlock = (Value.slice A0 (ms k).length c0).ownBlock ∨ (Value.slice A9 ((ms k).length + 1) c9).ownBlock = some (w1.alloc (.cells #[.slice A2 l.length c2, .bool false] 45)).heap.size) →
        Did col c p (sndE s k) (sndS s k l) w (.returned (.int .i64 0)) (w9.setCell ⟨p, k, none⟩ (.slice A9 ((ms k).length + 1) c9))) := Lib.hid fun w1 w9 A2 c2 A9 c9 hB ho hr hg hat => by
      obtain ⟨q1, q2⟩ := hE.out
      refine ⟨by rw [q1]; rfl, ?_⟩
      rw [q2]
      have hBa := trans0 hB (al0 w1 (.cells #[.slice A2 l.length c2, .bool false] 45))
      have hsz : w1.heap.size ≤ (w1.alloc (.cells #[.slice A2 l.length c2, .bool false] 45)).heap.size := (al0 _ _).size
      have hapart : ∀ b, (Value.slice A2 l.length c2).ownBlock = some b → some b ≠ (Value.slice A0 (ms k).length c0).ownBlock := fun b e e2 => by
        have := (own_ge ho e).1
        have := hI.vlt hk (b := b) (by rw [k3]; exact e2.symm)
        omega
      refine at_add hI he hk ⟨l, false, A2, c2⟩ (by rw [k3]; exact grown_of hBa hg) hr (fun b e => ?_) (own_blk ho fun b e => ?_) hl (by omega)
      · rw [k3]
        rcases hat with h1 | h1
        · rw [h1] at e; exact .inl e
        · rw [h1] at e; cases e; exact .inr hBa.size
      · exact (hg.block b (Nat.lt_of_lt_of_le (own_ge ho e).2 hsz) (hapart b e)).trans ((al0 w1 _).block b (own_ge ho e).2)
    have hbd : Hid (BL w.drew A l.length l) := Lib.hid hb
    have hnh := Lib.hid hnone
    clear hI he k1 hfull hb hE k2 k3 hlen hfz hnone
    generalize (ms k).length = n at *
    generalize fl MP.cs (ms k) = xs at *
    have hls := Lib.hid (show n + 1 ≤ maxLen by unfold maxLen; omega)
    replace hl := Lib.hid hl
    have hl2 : l.length ≤ 140737488355328 := by have := hl.out; omega
    go_enter Try.func20, Try.ntmps20
    go_wp2_with (first
      | (go_at_call 33; ((with_reducible refine (hwa.out).mono ?_); rintro e w' ⟨rfl, rfl⟩))
      | (go_at_call 37; ((with_reducible refine (hfu.out).mono ?_); rintro e w' ⟨rfl, rfl⟩)))
    have hc1 : w.cell? ⟨p, k, none⟩ = some (.slice A0 n c0) := by
      have := hfar.out w w (Below.refl _ _) ⟨rfl, rfl, rfl, Nat.le_refl _, fun _ _ _ => rfl⟩
      exact this.1
    go_region_law (first
      | (go_simp; go_at_call 38; (with_reducible refine (clone_any A l.length cap l _ hbd.out hnh.out hl2).mono ?_); rintro e w' ⟨A2, c2, rfl, ho, hB⟩; have hB' := Lib.hid (undrew hB); have ho' := Lib.hid ho; have hpw := Nat.lt_of_lt_of_le hplt (undrew hB).size; have hp2 := (hB.cell (p := ⟨p, k, none⟩) hplt).trans hc1; clear hB ho)
      | (refine step_gen rfl (.tmp 30) (.tmp 34) 60 rfl 0 45 i0 _ 2 32 Try.underlying60 hi hz0 hz1 hz2 rfl (by decide) _ n xs (by rfl) (hO.out _ (trans0 hB'.out (al0 _ _))) (some ⟨_, 0, none⟩) 1 1 [_, _] (by rfl) rfl (stand_new _ _ _ _) (by intro u hu; simp only [List.mem_cons, List.not_mem_nil, or_false] at hu; rcases hu with rfl | rfl <;> rfl) hls.out (by omega) (Nat.zero_le _) ?_; intro A9 c9 w9 hr9 hg9 hat9; obtain ⟨q2, q3⟩ := hfar.out _ _ (trans0 hB'.out (al0 _ _)) hg9))
    all_goals
      go_wp2
      go_ret
      exact hS.out _ _ _ _ _ _ hB'.out ho'.out hr9 hg9 hat9
end Go.Proofs.Ytggoaglcffdcnaa.netC
