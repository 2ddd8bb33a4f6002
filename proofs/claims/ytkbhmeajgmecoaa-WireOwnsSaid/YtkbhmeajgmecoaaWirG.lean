/- The bytes of a version by version 2, of the program; rows of parts that are appended to. -/
import Derived.Test.YtkbhmeajgmecoaaWirF
namespace Go.Proofs.Ytkbhmeajgmecoaa.wirG
open Go.ChangeShapes Go.WideShapes Go.ChangeAt Go.RowKit
open numM numN rowA byt numA numB numC numD numE wirM wirA wirD wirE wirF

theorem sub_eq (x a : Nat) (hx : x < 18446744073709551616) (ha : a < 18446744073709551616) : IntKind.u64.wrap ((x : Int) - a) = ((sub64 x a : Nat) : Int) := by
  rw [IntKind.wrap_u64]; unfold sub64; omega
theorem sub_lt (x a : Nat) : sub64 x a < 18446744073709551616 := Nat.mod_lt _ (by decide)
theorem nv_len (a : Nat) (v : Vr) (hk : v.key.size ≤ 64) (hv : v.val.size ≤ 64) (hd : v.dc.toNat < 18446744073709551616) (ht : v.tx.toNat < 18446744073709551616) : (nv a v).length ≤ 300 := by
  have := tx_len v.key hk
  have := tx_len v.val hv
  have := uv_len10 (sub_lt v.ts a)
  have := uv_len10 hd
  have := uv_len10 ht
  unfold nv nvs; rw [flat6]; simp only [gb, List.length_singleton]; omega
set_option maxRecDepth 100000 in
set_option maxHeartbeats 1000000 in
theorem nver_any (v : Vr) (a : Nat) (w : World) (h : v.ok) (ht : v.ts < 18446744073709551616) (ha : a < 18446744073709551616) : Calls Try.prog 81 #[.agg (cv v), .int .u64 a] w (Makes w (nv a v)) := by
  obtain ⟨key, val, g, ts, dc, tx⟩ := v
  obtain ⟨hk, hv, d0, d1, t0, t1⟩ := h
  obtain ⟨d, rfl⟩ := Int.eq_ofNat_of_zero_le d0
  obtain ⟨x, rfl⟩ := Int.eq_ofNat_of_zero_le t0
  simp only at hk hv d1 t1 ht
  have k1 : key.size ≤ 64 := by omega
  have k4 : d < 18446744073709551616 := by omega
  have k5 : x < 18446744073709551616 := by omega
  have k6 := sub_lt ts a
  have e4 := wrap64_nat d (by omega)
  have e5 := wrap64_nat x (by omega)
  have e6 := sub_eq ts a ht ha
  have hlen := Lib.hid (show (nv a ⟨key, val, g, ts, d, x⟩).length ≤ 1099511627776 from Nat.le_trans (nv_len a _ k1 hv (by simp; omega) (by simp; omega)) (by decide))
  clear d0 t0 hk
  have hS := Lib.hid (SV.new w ⟨key, val, g, ts, d, x⟩)
  have ha : Acc w (w.alloc (.cells (cv ⟨key, val, g, ts, d, x⟩) 51)).drew [] [] := Acc.start (alloc_below _ _).drew
  go_enter Try.func81, Try.ntmps81
  go_wp2
  go_region_held3 (SV w.heap.size ⟨key, val, g, ts, d, x⟩)
    (first | exact hS.out.drew | assumption | exact SV.below (by assumption) (by assumption) | exact SV.alloc (by assumption) _)
    (first
      | (go_at_call 80; ((with_reducible refine (acc_of (ntext_any _ _ (by assumption)) (by assumption)).mono ?_); rintro e w' ⟨A, cap, rfl, hacc, hB⟩))
      | (go_at_call 78; ((with_reducible refine (acc_of (gone_any _ _) (by assumption)).mono ?_); rintro e w' ⟨A, cap, rfl, hacc, hB⟩))
      | (go_at_call 79; ((with_reducible refine (acc_of (uvar_any _ _ (by assumption)) (by assumption)).mono ?_); rintro e w' ⟨A, cap, rfl, hacc, hB⟩))
      | (go_at_call 48; refine (joined_acc (W := w) (by assumption) _ _ _ (nv a ⟨key, val, g, ts, d, x⟩) (by rfl) (by rfl) (by simp) (by rfl) hlen.out).mono ?_; rintro e w' ⟨⟨A, cap, rfl, ho, hB⟩, hB2⟩))
  rename_i ho hB hB2
  go_wp2
  go_ret
  exact Makes.of (l := nv a ⟨key, val, g, ts, d, x⟩) rfl ho hB

/-! ### Prt of parts -/
theorem bytes24 : (Try.prog.info? 31).map (fun i => (i.zero, i.size, i.bytes)) = some (some (.slice none 0 0), 1, 24) := by kernel_rfl
/-- The row v, made since W, has the parts ls. -/
def Prt (W w : World) (v : Value) (ls : List (List Nat)) : Prop := Below W.heap.size W w ∧ ∃ xs, w.ownsRow W.heap.size 31 1 v ls.length xs ∧ PBs v.ownBlock w xs ls
theorem Prt.below {W w w1 : World} {v : Value} {ls : List (List Nat)} (h : Prt W w v ls) (hB : Below w.heap.size w w1) : Prt W w1 v ls := by
  obtain ⟨h1, xs, h2, h3⟩ := h
  exact ⟨h1.trans (hB.mono h1.size), xs, h2.kept (below_grown0 hB none) (by cases hv : v.ownBlock <;> simp), PBs.below hB h3⟩
theorem Prt.alloc {W w : World} {v : Value} {ls : List (List Nat)} (h : Prt W w v ls) (o : Obj) : Prt W (w.alloc o) v ls := h.below (alloc_below w o)
theorem Prt.bel {W w : World} {v : Value} {ls : List (List Nat)} (h : Prt W w v ls) : Below W.heap.size W w := h.1
theorem Prt.none_ {W w : World} (h : Below W.heap.size W w) : Prt W w (.slice none 0 0) [] := ⟨h, [], World.ownsRow_nil w _ _ 1, trivial⟩
theorem PBs.weak {x : Option Nat} {w : World} : ∀ {vs : List Value} {ls : List (List Nat)}, PBs x w vs ls → PBs none w vs ls
  | [], [], _ => trivial
  | _ :: _, _ :: _, h => ⟨h.1.weak, PBs.weak h.2⟩
  | [], _ :: _, h => h.elim
  | _ :: _, [], h => h.elim
theorem PBs.fresh {w : World} {n : Nat} (hn : w.heap.size ≤ n) : ∀ {vs : List Value} {ls : List (List Nat)}, PBs none w vs ls → PBs (some n) w vs ls
  | [], [], _ => trivial
  | v :: _, _ :: _, h => ⟨by
      obtain ⟨A, m, c, rfl, hb, hy⟩ := h.1
      exact ⟨A, m, c, rfl, hb, fun y e => ⟨by have := (hy y e).2; simp; omega, (hy y e).2⟩⟩, PBs.fresh hn h.2⟩
  | [], _ :: _, h => h.elim
  | _ :: _, [], h => h.elim
/-- A row of what has been made, laid new. -/
theorem Prt.lit {W w : World} {vs : List Value} {ls : List (List Nat)} (h : Acc W w vs ls) (cs : Array Value) (hcs : cs = vs.toArray) (n : Nat) (hn : n = vs.length) (h1 : vs.length ≤ 1000) :
    Prt W (w.alloc (.cells cs 31)) (.slice (some ⟨w.heap.size, 0, none⟩) n n) ls := by
  subst hcs
  subst hn
  refine ⟨h.1.trans ((alloc_below w _).mono h.1.size), vs, ?_, PBs.below (alloc_below w _) (PBs.fresh (Nat.le_refl _) h.2)⟩
  have e := World.ownsRow_lit (e := 31) (size := 1) (base := W.heap.size) w vs.toArray vs.length h.1.size (by unfold maxLen; omega) (by simp)
  rw [← h.2.len]
  exact e
theorem Prt.lst {W w : World} {A : Option Addr} {n c : Nat} {ls : List (List Nat)} (h : Prt W w (.slice A n c) ls) (hm : ls.length ≤ 100000) : n = ls.length ∧ Lst none w A n ls := by
  obtain ⟨h1, xs, h2, h3⟩ := h
  rcases h2.2 with ⟨e, e0⟩ | ⟨g, cap, cur, e, hbg, hg, hnc, hcm, hcs, htake⟩
  · cases e
    exact ⟨e0.symm, e0, by omega, fun i hi => by omega⟩
  · cases e
    refine ⟨rfl, rfl, by omega, fun i hi => ?_⟩
    have hlx := h3.len
    obtain ⟨v, hv, A, m, c, rfl, hb, hy⟩ := h3.get (i := i) (by omega)
    refine ⟨g, 0, A, m, c, rfl, (Array.getElem?_eq_some_iff.1 hg).1, by simp, ?_, hb, fun y e => by simp, fun y e => (hy y e).2⟩
    have := h2.cells (g := g) rfl i _ hv
    rw [add_plain] at this
    exact this
theorem one_cell (w : World) (u : Value) (T : TypeId) : ∀ j x, [u][j]? = some x → (w.alloc (.cells #[u] T)).cell? ((⟨w.heap.size, 0, none⟩ : Addr).add j) = some x := cell_one_new w u T
theorem PB.one {x : Option Nat} {w : World} {u : Value} {l : List Nat} (h : PB x w u l) : u.oneCell' = true := by
  obtain ⟨A, m, c, rfl, _⟩ := h; rfl
theorem PBs.moved {x : Option Nat} {w w1 : World} (hg : w.grownBy w1 x) : ∀ {vs : List Value} {ls : List (List Nat)}, PBs x w vs ls → PBs (some w.heap.size) w1 vs ls
  | [], [], _ => trivial
  | v :: _, _ :: _, h => ⟨by
      obtain ⟨A, m, c, rfl, hb, hy⟩ := h.1
      refine ⟨A, m, c, rfl, BL.kept hb hg (fun y e => (hy y e).1), fun y e => ⟨?_, ?_⟩⟩
      · have := (hy y e).2; simp; omega
      · have := (hy y e).2; have := hg.size; omega, PBs.moved hg h.2⟩
  | [], _ :: _, h => h.elim
  | _ :: _, [], h => h.elim
/-- append of one part onto a row of parts. -/
theorem wpList_addg {P : Program} {W w : World} {ops : Array Oper} {rest : List Oper} {o : Oper} {a : Act} {Q : Exit → Act → World → Prop} (hgd : o.guard = none) (s x : Operand) (t : TypeId)
    (ho : o.op = .call { callee := .builtin .append, args := #[s, x], argTypes := #[t, t] })
    (i : TypeInfo) (ht : P.underlying t = some (.slice 31)) (hi : P.info? 31 = some i) (hz : i.zero = some (.slice none 0 0)) (h1 : i.size = 1) (h2 : i.bytes = 24)
    (v : Value) (ls : List (List Nat)) (hs : a.eval s = v) (hrow : Prt W w v ls) (u : Value) (l : List Nat) (hp : PB v.ownBlock w u l) (hx : a.eval x = .slice (some ⟨w.heap.size, 0, none⟩) 1 1)
    (hroom : ls.length ≤ 100000)
    (h : ∀ v' w', Prt W w' v' (ls ++ [l]) → (w.alloc (.cells #[u] 31)).grownBy w' v.ownBlock → wpList P ops Q rest (a.put o.dst v') w') : wpList P ops Q (o :: rest) a (w.alloc (.cells #[u] 31)) := by
  obtain ⟨hB, xs, hown, hps⟩ := hrow
  refine wpList_append_own_at _ hgd s x t ho W.heap.size 31 i (.slice none 0 0) 1 24 ht hi hz h1 h2 rfl (by decide) v ls.length xs hs (hown.alloc _) ⟨w.heap.size, 0, none⟩ 1 1 [u] hx rfl (one_cell w u _) (by simpa using PB.one hp)
    (by unfold maxLen; omega) (by omega) (by have := hB.size; simp; omega) ?_
  intro v' w' ho' hg _ hat
  refine h v' w' ⟨?_, xs ++ [u], by rw [List.length_append]; exact ho', ?_⟩ hg
  · exact (hB.alloc hB.size _).grown hg (by have := hB.size; simp; omega) (fun k e => (hown.lt k e).1)
  · have hps1 : PBs v.ownBlock (w.alloc (.cells #[u] 31)) (xs ++ [u]) (ls ++ [l]) := PBs.snoc (hp.alloc _) (PBs.below (alloc_below w _) hps)
    rcases hat with e | e
    · rw [e]; exact hps1.kept hg (.inl rfl)
    · rw [e]
      exact PBs.moved hg hps1
theorem wpList_addp {P : Program} {W w : World} {ops : Array Oper} {rest : List Oper} {o : Oper} {a : Act} {Q : Exit → Act → World → Prop} (hgd : o.guard = none) (s x : Operand) (t : TypeId)
    (ho : o.op = .call { callee := .builtin .append, args := #[s, x], argTypes := #[t, t] })
    (i : TypeInfo) (ht : P.underlying t = some (.slice 31)) (hi : P.info? 31 = some i) (hz : i.zero = some (.slice none 0 0)) (h1 : i.size = 1) (h2 : i.bytes = 24)
    (v : Value) (ls : List (List Nat)) (hs : a.eval s = v) (hrow : Prt W w v ls) (u : Value) (l : List Nat) (hp : PB v.ownBlock w u l) (hx : a.eval x = .slice (some ⟨w.heap.size, 0, none⟩) 1 1)
    (hroom : ls.length ≤ 100000)
    (h : ∀ v' w', Prt W w' v' (ls ++ [l]) → wpList P ops Q rest (a.put o.dst v') w') : wpList P ops Q (o :: rest) a (w.alloc (.cells #[u] 31)) :=
  wpList_addg hgd s x t ho i ht hi hz h1 h2 v ls hs hrow u l hp hx hroom fun v' w' h' _ => h v' w' h'
theorem Prt.lt {W w : World} {v : Value} {ls : List (List Nat)} (h : Prt W w v ls) : ∀ k, v.ownBlock = some k → k < w.heap.size := by
  obtain ⟨_, xs, h2, _⟩ := h
  intro k e; exact (h2.lt k e).2
theorem Prt.made {W w w1 : World} {v : Value} {ls : List (List Nat)} {A : Option Addr} {n c : Nat} {l : List Nat} (h : Prt W w v ls) (ho : Own w1 w.heap.size (.slice A n c) n l) (hB : Below w.heap.size w w1) : Prt W w1 v ls ∧ PB v.ownBlock w1 (.slice A n c) l :=
  ⟨h.below hB, PB.of_own ho h.lt⟩
theorem Prt.trans {w W wr : World} {v : Value} {ls : List (List Nat)} (h : Prt W wr v ls) (hW : Below w.heap.size w W) : Below w.heap.size w wr := hW.trans (h.1.mono hW.size)
end Go.Proofs.Ytkbhmeajgmecoaa.wirG
