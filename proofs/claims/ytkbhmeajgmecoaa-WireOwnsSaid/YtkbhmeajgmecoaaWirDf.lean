/- append onto a row of the call's own, of any elements, of any source (as LnkR); lists that are read, plainly. -/
import Derived.Test.YtkbhmeajgmecoaaWirDe
import Derived.Maps.AppendAt
namespace Go.Proofs.Ytkbhmeajgmecoaa.wirDf
open Go.ChangeShapes Go.WideShapes Go.ChangeAt Go.RowKit Go.Deep
open numM rowA byt numA numB numC numN numD numE wirM wirA wirL wirP wirQ wirR wirDa wirDb wirDc wirDd wirDe

section
variable {P : Program}
/-- where ys stand -/
def Stand (w : World) (A : Option Addr) (m : Nat) (ys : List Value) : Prop := m = 0 ∨ ∃ ad, A = some ad ∧ ∀ j u, ys[j]? = some u → w.cell? (ad.add j) = some u
theorem run_gen_nil (w : World) (base : Nat) (t ty e : TypeId) (i : TypeInfo) (size : Nat) (ht : P.underlying t = some (.slice e)) (hi : P.info? e = some i) {v : Value} {n : Nat} {xs : List Value} (hown : w.ownsRow base e size v n xs) (A : Option Addr) (c : Nat) :
    (Builtin.append_ #[t, t] ty #[v, .slice A 0 c]).run P w = .ok v w := by
  rcases hown.2 with ⟨rfl, rfl⟩ | ⟨g, cap, cur, rfl, _, _, hnc, _⟩
  · rcases A with _ | a <;> simp [Builtin.append_, run_underlying ht, sizeOf, typeInfo, hi, Builtin.lenOf, Builtin.firstCells, loadCells, loadCellsFrom]
  · rcases A with _ | a <;> simp [Builtin.append_, run_underlying ht, sizeOf, typeInfo, hi, Builtin.lenOf, Builtin.firstCells, hnc, storeCells, loadCells, loadCellsFrom]
theorem run_gen (w : World) (base : Nat) (t ty e : TypeId) (i : TypeInfo) (z : Value) (size bytes : Nat) (ht : P.underlying t = some (.slice e)) (hi : P.info? e = some i) (hz : i.zero = some z)
    (hsize : i.size = size) (hby : i.bytes = bytes) (hzs : z.cells.size = size) (hsz : 0 < size) (v : Value) (n : Nat) (xs : List Value) (hown : w.ownsRow base e size v n xs)
    (A : Option Addr) (m c : Nat) (ys : List Value) (hl : ys.length = m * size) (hst : Stand w A m ys) (h1 : ∀ u ∈ ys, u.oneCell' = true) (h63 : n + m ≤ maxLen) (hbytes : (n + m) * bytes ≤ 140737488355328) (hbase : base ≤ w.heap.size) :
    ∃ A' c' w', (Builtin.append_ #[t, t] ty #[v, .slice A m c]).run P w = .ok (.slice A' (n + m) c') w' ∧ w'.ownsRow base e size (.slice A' (n + m) c') (n + m) (xs ++ ys) ∧ w.grownBy w' v.ownBlock ∧ ((Value.slice A' (n + m) c').ownBlock = v.ownBlock ∨ (Value.slice A' (n + m) c').ownBlock = some w.heap.size) := by
  by_cases hm : m = 0
  · subst hm
    have hy : ys = [] := List.eq_nil_of_length_eq_zero (by simpa using hl)
    subst hy
    have hr := run_gen_nil (P := P) w base t ty e i size ht hi hown A c
    obtain ⟨A', c', rfl⟩ : ∃ A' c', v = .slice A' n c' := by
      rcases hown.2 with ⟨rfl, rfl⟩ | ⟨g, cap, cur, rfl, _⟩
      · exact ⟨none, 0, rfl⟩
      · exact ⟨_, cap, rfl⟩
    exact ⟨A', c', w, hr, by rw [List.append_nil]; exact hown, ⟨rfl, rfl, rfl, Nat.le_refl _, fun _ _ _ => rfl⟩, .inl rfl⟩
  · rcases hst with h0 | ⟨ad, rfl, hc⟩
    · exact absurd h0 hm
    · obtain ⟨v', w', hr, ho, hg, _, hat⟩ := run_append_own_at (P := P) w base t ty e i z size bytes ht hi hz hsize hby hzs hsz v n xs hown ad m c ys hl hc h1 h63 hbytes hbase
      obtain ⟨A', c', rfl⟩ : ∃ A' c', v' = .slice A' (n + m) c' := by
        rcases ho.2 with ⟨_, e0⟩ | ⟨g, cap, cur, e0, _⟩
        · omega
        · exact ⟨_, cap, e0⟩
      exact ⟨A', c', w', hr, ho, hg, hat⟩
theorem wpList_gen {w : World} {ops : Array Oper} {rest : List Oper} {o : Oper} {a : Act} {Q : Exit → Act → World → Prop} (hgd : o.guard = none) (s x : Operand) (t : TypeId)
    (ho : o.op = .call { callee := .builtin .append, args := #[s, x], argTypes := #[t, t] })
    (base : Nat) (e : TypeId) (i : TypeInfo) (z : Value) (size bytes : Nat) (ht : P.underlying t = some (.slice e)) (hi : P.info? e = some i) (hz : i.zero = some z)
    (hsize : i.size = size) (hby : i.bytes = bytes) (hzs : z.cells.size = size) (hsz : 0 < size) (v : Value) (n : Nat) (xs : List Value) (hs : a.eval s = v) (hown : w.ownsRow base e size v n xs)
    (A : Option Addr) (m c : Nat) (ys : List Value) (hx : a.eval x = .slice A m c) (hl : ys.length = m * size) (hst : Stand w A m ys) (h1 : ∀ u ∈ ys, u.oneCell' = true) (h63 : n + m ≤ maxLen) (hbytes : (n + m) * bytes ≤ 140737488355328) (hbase : base ≤ w.heap.size)
    (h : ∀ A' c' w', w'.ownsRow base e size (.slice A' (n + m) c') (n + m) (xs ++ ys) → w.grownBy w' v.ownBlock → ((Value.slice A' (n + m) c').ownBlock = v.ownBlock ∨ (Value.slice A' (n + m) c').ownBlock = some w.heap.size) → wpList P ops Q rest (a.put o.dst (.slice A' (n + m) c')) w') : wpList P ops Q (o :: rest) a w := by
  refine wpList_plain hgd fun K hK => ?_
  obtain ⟨A', c', w', hr, h3, h4, h5⟩ := run_gen (P := P) w base t o.type e i z size bytes ht hi hz hsize hby hzs hsz v n xs hown A m c ys hl hst h1 h63 hbytes hbase
  unfold Oper.wp execOp
  simp only [ho, resolve, invoke, builtin, Sem.run_bind, Sem.run_pure, Result.andThen_ok, List.map_toArray, List.map_cons, List.map_nil, hs, hx, hr]
  exact hK _ _ (h A' c' w' h3 h4 h5)
theorem step_gen {w : World} {ops : Array Oper} {o : Oper} {a : Act} {K : Act → World → Prop} {Q : Exit → Act → World → Prop} {E : Prop} (hgd : o.guard = none) (s x : Operand) (t : TypeId)
    (ho : o.op = .call { callee := .builtin .append, args := #[s, x], argTypes := #[t, t] })
    (base : Nat) (e : TypeId) (i : TypeInfo) (z : Value) (size bytes : Nat) (ht : P.underlying t = some (.slice e)) (hi : P.info? e = some i) (hz : i.zero = some z)
    (hsize : i.size = size) (hby : i.bytes = bytes) (hzs : z.cells.size = size) (hsz : 0 < size) (v : Value) (n : Nat) (xs : List Value) (hs : a.eval s = v) (hown : w.ownsRow base e size v n xs)
    (A : Option Addr) (m c : Nat) (ys : List Value) (hx : a.eval x = .slice A m c) (hl : ys.length = m * size) (hst : Stand w A m ys) (h1 : ∀ u ∈ ys, u.oneCell' = true) (h63 : n + m ≤ maxLen) (hbytes : (n + m) * bytes ≤ 140737488355328) (hbase : base ≤ w.heap.size)
    (h : ∀ A' c' w', w'.ownsRow base e size (.slice A' (n + m) c') (n + m) (xs ++ ys) → w.grownBy w' v.ownBlock → ((Value.slice A' (n + m) c').ownBlock = v.ownBlock ∨ (Value.slice A' (n + m) c').ownBlock = some w.heap.size) → K (a.put o.dst (.slice A' (n + m) c')) w') :
    if Region.wanted o (yielded ops a.tmps) = true then Oper.wp P o a w K Q else E := by
  have hw : Region.wanted o (yielded ops a.tmps) = true := by simp [Region.wanted, hgd]
  rw [if_pos hw]
  obtain ⟨A', c', w', hr, h3, h4, h5⟩ := run_gen (P := P) w base t o.type e i z size bytes ht hi hz hsize hby hzs hsz v n xs hown A m c ys hl hst h1 h63 hbytes hbase
  unfold Oper.wp
  simp [execOp, ho, resolve, invoke, builtin, hs, hx, hr, Result.andThen]
  exact h A' c' w' h3 h4 h5
end

theorem stand_new (w : World) (cs : List Value) (T : TypeId) (m : Nat) : Stand (w.alloc (.cells cs.toArray T)) (some ⟨w.heap.size, 0, none⟩) m cs := .inr ⟨_, rfl, fun j u hu => by
  rw [add_plain, Nat.zero_add]
  have := cell_of_row (w.alloc (.cells cs.toArray T)) w.heap.size j cs.toArray T (0, 0) (heap_alloc_new w _)
  rw [this]
  simpa using hu⟩
theorem own_form {w : World} {base n sz : Nat} {t : TypeId} {v : Value} {xs : List Value} (h : w.ownsRow base t sz v n xs) : ∃ A c, v = .slice A n c ∧ n ≤ c ∧ c ≤ 9223372036854775807 := by
  rcases h.2 with ⟨rfl, rfl⟩ | ⟨g, cap, cur, rfl, _, _, h1, h2, _⟩
  · exact ⟨none, 0, rfl, by omega, by omega⟩
  · exact ⟨_, cap, rfl, h1, by unfold maxLen at h2; omega⟩
theorem own_gr {w w' : World} {u base n sz : Nat} {t : TypeId} {v : Value} {xs : List Value} (h : w.ownsRow base t sz v n xs) (hg : Gr u w w') (hu : u < base) : w'.ownsRow base t sz v n xs := by
  have hlt := h.lt
  refine ⟨h.1, ?_⟩
  rcases h.2 with h | ⟨g, cap, cur, rfl, h1, h2, h3⟩
  · exact .inl h
  · have := hlt g rfl
    exact .inr ⟨g, cap, cur, rfl, h1, (hg.block g this.2 (by omega)).trans h2, h3⟩
theorem own_put {w : World} {base n sz : Nat} {t : TypeId} {v : Value} {xs : List Value} (h : w.ownsRow base t sz v n xs) {p : Addr} (hp : v.ownBlock ≠ some p.block) (x : Value) : (w.setCell p x).ownsRow base t sz v n xs := by
  refine ⟨h.1, ?_⟩
  rcases h.2 with h | ⟨g, cap, cur, rfl, h1, h2, h3⟩
  · exact .inl h
  · exact .inr ⟨g, cap, cur, rfl, h1, (Below.heap_setCell _ _ _ _ (fun e => hp (by rw [← e]; rfl))).trans h2, h3⟩
theorem Gr.grown {u : Nat} {w w1 w2 : World} {row : Option Nat} (h : Gr u w w1) (hg : w1.grownBy w2 row) (hr : ∀ k, row = some k → w.heap.size ≤ k) : Gr u w w2 :=
  ⟨hg.os.trans h.os, hg.tape.trans h.tape, hg.output.trans h.output, Nat.le_trans h.size hg.size, fun k hk hu => (hg.block k (Nat.lt_of_lt_of_le hk h.size) (fun e => by have := hr k e.symm; omega)).trans (h.block k hk hu)⟩
theorem UAt.grown {u : Nat} {l : List Nat} {w1 w2 : World} {row : Option Nat} (h : UAt w1 u l) (hg : w1.grownBy w2 row) (hr : ∀ k, row = some k → u < k) : UAt w2 u l :=
  h.keep fun k hk => hg.block k (by have := h.lt; omega) (fun e => by have := hr k e.symm; omega)

/-! ### Lists, plainly -/
section
variable {α : Type} {st : α → Nat} {r : Nat → R α} {a n m : Nat} {l t : List Nat} {xs : List α} {x : α} {k : Nat}
theorem row_start : rRow st r a n l = ((rRow st r a n).seq fun ys => R.ret ([] ++ ys)) l := by
  unfold R.seq R.ret
  cases rRow st r a n l with
  | error e => rfl
  | ok xt => rfl
theorem row_step (h : r a l = .ok (x, t)) : ((rRow st r a (m + 1)).seq fun ys => R.ret (xs ++ ys)) l = ((rRow st r (st x) m).seq fun ys => R.ret ((xs ++ [x]) ++ ys)) t := by
  show (((r a).seq fun x => (rRow st r (st x) m).seq fun xs => R.ret (x :: xs)).seq fun ys => R.ret (xs ++ ys)) l = _
  unfold R.seq R.ret
  rw [h]
  simp only
  cases rRow st r (st x) m t with
  | error e => rfl
  | ok xt => simp
theorem row_stop (h : r a l = .error k) : ((rRow st r a (m + 1)).seq fun ys => R.ret (xs ++ ys)) l = .error k := by
  show (((r a).seq fun x => (rRow st r (st x) m).seq fun xs => R.ret (x :: xs)).seq fun ys => R.ret (xs ++ ys)) l = _
  unfold R.seq R.ret
  rw [h]
theorem row_done : ((rRow st r a 0).seq fun ys => R.ret (xs ++ ys)) l = .ok (xs, l) := by
  show ((R.ret []).seq fun ys => R.ret (xs ++ ys)) l = _
  unfold R.seq R.ret
  simp
end
/-- a list that is read, and the row that it becomes -/
def RdL {α : Type} (u : Nat) (Row : World → Value → List α → Prop) (w : World) (r : Except Nat (List α × List Nat)) (e : Ending) (w' : World) : Prop :=
  match r with
  | .ok (xs, t) => ∃ v, e = .returned v ∧ Row w' v xs ∧ UAt w' u t ∧ Gr u w w'
  | .error k => e = .panicked (NM k) ∧ Gr u w w'
section
variable {α : Type} {u : Nat} {Row : World → Value → List α → Prop} {w w' : World} {r : Except Nat (List α × List Nat)}
theorem rdl_ok {xs : List α} {t : List Nat} {v : Value} (h : r = .ok (xs, t)) (hv : Row w' v xs) (hU : UAt w' u t) (hg : Gr u w w') : RdL u Row w r (.returned v) w' := by subst h; exact ⟨v, rfl, hv, hU, hg⟩
theorem rdl_err {k : Nat} (h : r = .error k) (hg : Gr u w w') : RdL u Row w r (.panicked (NM k)) w' := by subst h; exact ⟨rfl, hg⟩
end
def nRow (base : Nat) (w : World) (v : Value) (xs : List Nat) : Prop := w.ownsRow base 22 1 v xs.length (xs.map fun (n : Nat) => .int .u64 (n : Int))
def vRow (base : Nat) (w : World) (v : Value) (xs : List Vr) : Prop := w.ownsRow base 51 6 v xs.length (xs.map fun x => (cv x).toList).flatten
theorem info8 : (Try.prog.info? 22).map (fun i => (i.zero, i.size, i.bytes)) = some (some (.int .u64 0), 1, 8) := by kernel_rfl
theorem infoV : (Try.prog.info? 51).map (fun i => (i.zero, i.size, i.bytes)) = some (some (.agg #[.string ⟨#[]⟩, .string ⟨#[]⟩, .bool false, .int .u64 0, .int .i64 0, .int .i64 0]), 6, 64) := by kernel_rfl
set_option maxRecDepth 100000 in
set_option maxHeartbeats 1000000 in
theorem nvec_any {u : Nat} {l : List Nat} (w : World) (h : UAt w u l) : Calls Try.prog 71 #[.pointer (some ⟨u, 0, none⟩)] w (RdL u (nRow w.heap.size) w (rList (rCN 32) (fun _ => 0) (fun _ => rShort) l)) := by
  have hc := cn_any 32 w h (by omega)
  have hul := h.lt
  unfold rList
  rcases hr : rCN 32 l with k | ⟨n, t0⟩
  · rw [hr] at hc
    rw [seq_err hr]
    clear h hr
    go_enter Try.func71, Try.ntmps71
    go_wp2_with (fail)
    refine hc.mono ?_
    rintro e w' ⟨rfl, hg⟩
    exact ⟨rfl, rdl_err rfl hg⟩
  · rw [hr] at hc
    rw [seq_ok hr]
    have hn : n ≤ 32 := ((is_cn 32 (by decide)).bw l n t0 h.lt256 hr).1.1
    obtain ⟨i0, hi, hz0, hz1, hz2⟩ := info_parts info8
    clear h hr
    go_enter Try.func71, Try.ntmps71
    go_wp2_with (fail)
    refine hc.mono ?_
    rintro e w1 ⟨rfl, hU1, hG1⟩
    replace hU1 := Lib.hid hU1
    replace hG1 := Lib.hid hG1
    clear hc
    unfold vN
    go_wp2
    go_loopw [3, 6] (fun v i wr => ∃ (k : Nat) (xs : List Nat) (t : List Nat), k ≤ n ∧ i = .int .i64 k ∧ xs.length = k ∧ Hid (rRow (fun _ => 0) (fun _ => rShort) 0 n t0 = ((rRow (fun _ => 0) (fun _ => rShort) 0 (n - k)).seq fun ys => R.ret (xs ++ ys)) t) ∧ Hid (nRow w.heap.size wr v xs) ∧ Hid (UAt wr u t) ∧ Hid (Gr u w wr)) (fun _ i _ => n - (intOf i).toNat)
    case atStart => exact ⟨0, [], t0, by omega, rfl, rfl, Lib.hid row_start, Lib.hid (World.ownsRow_nil _ _ _ 1), hU1, hG1⟩
    case round =>
      clear hU1 hG1
      obtain ⟨k, xs, t, hk, rfl, hxl, hI, hR, hU, hG⟩ := hrel
      obtain ⟨A, c, rfl, -, -⟩ := own_form hR.out
      have hs := short_any wr hU.out
      have hxb : xs.length ≤ n := by omega
      replace hxl := Lib.hid hxl
      by_cases hlt : k < n
      · obtain ⟨m, hm⟩ : ∃ m, n - k = m + 1 := ⟨n - k - 1, by omega⟩
        rw [hm] at hI
        rcases hq : rShort t with kk | ⟨x, t'⟩
        · rw [hq] at hs
          have hE := Lib.hid (fun w2 (hg : Gr u wr w2) => rdl_err (Row := nRow w.heap.size) (hI.out.trans (row_stop hq)) (hG.out.trans hg))
          clear hI hR hU hG hq
          go_wp2_with (fail)
          refine hs.mono ?_
          rintro e w2 ⟨rfl, hg⟩
          exact ⟨rfl, hE.out _ hg⟩
        · rw [hq] at hs
          have hI2 := Lib.hid (hI.out.trans (row_step hq))
          clear hq hI
          go_wp2_with (fail)
          refine hs.mono ?_
          rintro e w2 ⟨rfl, hU2, hg2⟩
          unfold vU
          have hR2 := Lib.hid (own_gr hR.out hg2 hul)
          have hU3 := Lib.hid (hU2.alloc (.cells #[.int .u64 x] 22))
          have hG3 := Lib.hid ((hG.out.trans hg2).alloc (.cells #[.int .u64 x] 22))
          have hsz := hG3.out.size
          have hrl := Lib.hid hR2.out.lt
          clear hs hU2 hg2 hU hG
          go_wp2_with (at_builtin; refine wpList_gen rfl (.tmp 8) (.tmp 11) 24 rfl w.heap.size 22 i0 _ 1 8 Try.underlying24 hi hz0 hz1 hz2 rfl (by decide) (.slice A xs.length c) xs.length _ (by rfl) (hR2.out.alloc _) (some ⟨_, 0, none⟩) 1 1 [.int .u64 x] (by rfl) rfl (stand_new _ _ _ _) (by intro u hu; rw [List.mem_singleton.1 hu]; rfl) (by unfold maxLen; omega) (by omega) hsz ?_; intro A9 c9 w9 hr9 hg9 hat9)
          have hR9 : Hid (nRow w.heap.size w9 (.slice A9 (xs.length + 1) c9) (xs ++ [x])) := Lib.hid (by unfold nRow; rw [List.length_append, List.map_append]; exact hr9)
          have hU9 := Lib.hid (UAt.grown hU3.out hg9 (fun q e => by have := hrl.out q e; omega))
          have hG9 := Lib.hid (Gr.grown hG3.out hg9 (fun q e => (hrl.out q e).1))
          clear hr9 hg9 hat9 hU3 hG3 hR2 hR
          go_wp2
          go_roundw
          case rel => exact ⟨k + 1, xs ++ [x], t', by omega, by go_num, by rw [List.length_append, hxl.out]; rfl, by rw [show n - (k + 1) = m by omega]; exact hI2, hR9, hU9, hG9⟩
          case measure => simp [intOf]; omega
      · obtain rfl : k = n := by omega
        rw [Nat.sub_self] at hI
        have hE := Lib.hid (rdl_ok (Row := nRow w.heap.size) (hI.out.trans row_done) hR.out hU.out hG.out)
        clear hs hI hR hU hG
        go_wp2
        go_ret
        exact hE.out
end Go.Proofs.Ytkbhmeajgmecoaa.wirDf
