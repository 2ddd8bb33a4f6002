/- NetPlays. -/
import Derived.Test.YtggoaglcffdcnaaNetSh
import Derived.Deep.CutBlock
import Derived.Deep.RegionHeld3
namespace Go.Proofs.Ytggoaglcffdcnaa.netSi
open Go.ChangeShapes Go.WideShapes Go.ChangeAt Go.RowKit Go.Deep Go.Shelf
open numM rowA byt numA numB numC opn netA netB netC netD netE netG netS netT netK netL netP netQ netR netRa netRb netRc netRd netRe netW netSa netX netSb netSc netSd netSe netSf netSg netSh
attribute [local go_sem] Oper.semAt_some

set_option linter.unusedSimpArgs false
/-- two pairs are compared -/
@[go_sem] theorem eqW (a b c d : Int) (w : World) : (Op.equalIn 10000 41 (.agg #[.int .i64 a, .int .i64 b]) (.agg #[.int .i64 c, .int .i64 d])).run Try.prog w = .ok (a == c && b == d) w := by
  have u3 := Try.underlying3
  have a3 := Try.isAgg3
  have z3 := Try.sizeOf3
  rw [show (10000 : Nat) = 9999 + 1 from rfl, Op.equalIn]
  simp only [Sem.run_bind, run_underlying Try.underlying41, Result.andThen_ok]
  simp only [Std.Legacy.Range.forIn_eq_forIn_range', Std.Legacy.Range.size, Nat.sub_zero, Nat.add_sub_cancel, Nat.div_one, List.range'_succ, List.range'_zero, List.forIn_cons, List.forIn_nil]
  go_simp
  by_cases h1 : a = c <;> by_cases h2 : b = d <;> simp [h1, h2]
/-- what is held behind the call of both -/
abbrev S7 (q o : Nat) (x : XO) (L : Nat) (W : World) : Prop := W.cell? ⟨q, 1, none⟩ = some (.int .i64 (L : Int)) ∧ SB o x W
/-- what the rounds keep of the two -/
structure Gd (k : Nat) (s : Ns) (dn : Dn) : Prop where
  rel : Rel s dn
  lost : s.lost ≤ k
  len : dn.row.length ≤ k
set_option maxRecDepth 100000 in
set_option maxHeartbeats 4000000 in
theorem plays_any (A : Option Addr) (n c : Nat) (ops : List netO.Op) (w : World) (h1 : Rs w netO.QOp 7 A n ops) :
    Calls Try.prog 3 #[.slice A n c] w fun e w' => e = .returned (.bool true) ∧ Below w.heap.size w w' := by
  replace h1 := Lib.hid h1
  obtain ⟨w1, hw1⟩ : ∃ w1, w.alloc (.cells #[.bool false] 4) = w1 := ⟨_, rfl⟩
  have hB1 : Below w.heap.size w w1 := by rw [← hw1]; exact al0 _ _
  have c1 : w1.cell? ⟨w.heap.size, 0, none⟩ = some (.bool false) := by rw [← hw1]; exact cell_box w _ _
  have f1 : w1.frozen? ⟨w.heap.size, 0, none⟩ = false := by rw [← hw1]; exact frozen_box w _ _
  have s1 : w1.heap.size = w.heap.size + 1 := by rw [← hw1]; simp
  refine (callsIn_wide (n := 6)).1 ?_
  refine callsIn_of_wp_marks Try.func3 rfl trivial ?_ rfl
  simp only [Try.ntmps3, List.size_toArray, List.length_cons, List.length_nil, Nat.reduceAdd, Nat.reduceSub, Array.replicate_succ, Array.replicate_zero, List.push_toArray, List.append_toArray, List.nil_append, List.cons_append]
  refine wpIn_wide.2 ?_
  have hw1' := Lib.hid hw1
  have hB1' := Lib.hid hB1
  have s1' := Lib.hid s1
  clear hw1 hB1 s1
  go_wp2_with (fail)
  rw [hw1'.out]
  refine (new_any w1).mono ?_
  rintro e w2 ⟨rfl, hB2, l2, n2⟩
  have hst := Lib.hid (fun W0 hB0 => PP.start (W0 := W0) hB1'.out s1'.out hB2 l2 n2 hB0)
  have hBd := trans0 hB2 (al0 w2 (.cells #[.slice none 0 0, .int .i64 0] 28))
  have hBf := Lib.hid (trans0 hB1'.out hBd)
  have c3 := keep_cell hBd c1
  have f3 := keep_frozen hBd c1 f1
  clear hB2 n2 hBd c1 f1 hw1'
  go_wp2_with (fail)
  refine (few_any A n c ops 120 (by omega) w _ hBf.out h1.out).mono ?_
  rintro e W0 ⟨v, N, rfl, hN, hF⟩
  obtain ⟨xs, hxl, hO, hX, hBW⟩ := hF
  have hbs : (w2.alloc (.cells #[.slice none 0 0, .int .i64 0] 28)).heap.size = w2.heap.size + 1 := by simp
  obtain ⟨col0, hbase, hcr, hc0, hP⟩ := hst.out W0 hBW
  obtain ⟨A9, c9, rfl, hnc, hc9⟩ := own_form hO
  have hgx : Hid (0 < N → ∃ g, A9 = some ⟨g, 0, none⟩ ∧ g < W0.heap.size ∧ col0 g = 0 ∧ ∀ k, k < N → ∃ x, xs[k]? = some x ∧
      (W0.cell? ⟨g, k * 7, none⟩ = some (.int .i64 x.m.kind) ∧ W0.cell? ⟨g, k * 7 + 1, none⟩ = some (.int .i64 x.m.from_) ∧ W0.cell? ⟨g, k * 7 + 2, none⟩ = some (.int .i64 x.m.to_) ∧ W0.cell? ⟨g, k * 7 + 3, none⟩ = some (.int .i64 x.m.i) ∧
       W0.cell? ⟨g, k * 7 + 4, none⟩ = some (.int .i64 x.m.at_) ∧ W0.cell? ⟨g, k * 7 + 5, none⟩ = some (.int .u8 x.m.mask) ∧ W0.cell? ⟨g, k * 7 + 6, none⟩ = some (.slice x.A x.m.body.length x.c))) := Lib.hid fun h0 => by
    rcases hO.2 with ⟨e, -⟩ | ⟨g, cap', cur, e, -⟩
    · exfalso
      have : N = 0 := (Value.slice.inj e).2.1
      omega
    · have e1 : A9 = some ⟨g, 0, none⟩ := by cases e; rfl
      have hlt := hO.lt g (by rw [e1]; rfl)
      subst e1
      exact ⟨g, rfl, hlt.2, hc0 g (by omega), fun k hk => few_at hO hxl hk⟩
  have hP' := Lib.hid hP
  have hX' := Lib.hid hX
  have hb' := Lib.hid hbase
  have hrc : Hid (∀ wx s dn, PP W0 col0 w1.heap.size w2.heap.size wx s dn → wx.cell? ⟨w.heap.size, 0, none⟩ = some (.bool false) ∧ wx.frozen? ⟨w.heap.size, 0, none⟩ = false) := Lib.hid fun wx s dn h => by
    have hlt : w.heap.size < W0.heap.size := Nat.lt_of_lt_of_le (World.block_lt_of_cell? _ _ c3) hBW.size
    have hk := PP.kept h hlt hcr
    exact ⟨(World.cell?_of_block (a := ⟨w.heap.size, 0, none⟩) hk).trans (keep_cell hBW c3), (World.frozen?_of_block (a := ⟨w.heap.size, 0, none⟩) hk).trans (keep_frozen hBW c3 f3)⟩
  clear hO hX hP hst hBf hc0 hBW hbs hbase h1 hc9 hnc c3 f3 hcr hB1'
  go_wp2
  generalize hpp : w1.heap.size = p at *
  generalize hqq : w2.heap.size = q at *
  replace hpp := Lib.hid hpp
  replace hqq := Lib.hid hqq
  go_loopw [19] (fun i wr => ∃ (k : Nat) (s : Ns) (dn : Dn), k ≤ N ∧ i = .int .i64 k ∧ Hid (PP W0 col0 p q wr s dn) ∧ Hid (Gd k s dn)) (fun i _ => N - (intOf i).toNat)
  case atStart => exact ⟨0, _, _, by omega, rfl, hP', Lib.hid ⟨Rel.new, Nat.le_refl _, Nat.le_refl _⟩⟩
  case round =>
    obtain ⟨k, s, dn, hk, rfl, hA, hI⟩ := hrel
    clear hP'
    by_cases hlt : k < N
    · obtain ⟨g, rfl, hg1, hg2, hxs⟩ := hgx.out (by omega)
      obtain ⟨x, hxo, f0, f1, f2, f3, f4, f5, f6⟩ := hxs k hlt
      have hok := hX'.out x (List.mem_of_getElem? hxo)
      have hI' := hI.out
      have hX5 := (PP.box hA.out x).below (below_drew _)
      obtain ⟨dn', q1, q2, q3⟩ := PX.do hb'.out hX5 hok hI'.rel (by have := hI'.lost; omega) (by have := hI'.len; omega)
      unfold netO.cOp at q3
      have hQ := Lib.hid q3
      have q1' := Lib.hid q1
      have hGn := Lib.hid (show Gd (k + 1) (stepS x.m s) dn' from ⟨q1, by have := stepS_lost x.m s; have := hI'.lost; omega, by have := hI'.len; omega⟩)
      have haf := Lib.hid (fun (wx : World) (h : PX W0 col0 p q wx (stepS x.m s) dn' wr.heap.size x) => PX.after h q1 x.m.from_ x.m.to_)
      have ge : ∀ z, wr.cell? ⟨g, z, none⟩ = W0.cell? ⟨g, z, none⟩ := fun z => World.cell?_of_block (a := ⟨g, z, none⟩) (PP.kept hA.out hg1 hg2)
      rw [← ge] at f0 f1 f2 f3 f4 f5 f6
      have hSd := Lib.hid (PX.ob hX5)
      have hS := Lib.hid (PX.ob (PP.box hA.out x))
      have hkI : (k : Int) < (N : Int) := by omega
      clear ge hxs hok hxo q3 q1 hI' hI hgx hX' hX5 hA
      generalize hW : wr.alloc (.cells #[.int .i64 x.m.kind, .int .i64 x.m.from_, .int .i64 x.m.to_, .int .i64 x.m.i, .int .i64 x.m.at_, .int .u8 x.m.mask, .slice x.A x.m.body.length x.c] 32) = w5 at *
      go_upto_region 7 with fail
      refine wp_region_noPanic ?_
      refine wp_region_any (by kernel_rfl) ?_
      refine wpAny_take (i := 0) (oi := { dst := some 23, op := Op.move (Operand.tmp 3), type := 23, pos := "law.go:67", after := #[], guard := none }) (v := ?_) rfl (by kernel_rfl) (by kernel_rfl) (by kernel_rfl) (fun _ _ _ h => h) (Or.inl ⟨by rfl, ?_⟩) ?_
      rotate_left
      · intro w; go_simp <;> with_reducible rfl
      simp only [Act.put, List.setIfInBounds_toArray, List.set_cons_zero, List.set_cons_succ]
      refine wpAny_take (i := 1) (oi := { dst := some 24, op := Op.move (Operand.tmp 4), type := 25, pos := "law.go:67", after := #[], guard := none }) (v := ?_) rfl (by kernel_rfl) (by kernel_rfl) (by kernel_rfl) (fun _ _ _ h => h) (Or.inl ⟨by rfl, ?_⟩) ?_
      rotate_left
      · intro w; go_simp <;> with_reducible rfl
      simp only [Act.put, List.setIfInBounds_toArray, List.set_cons_zero, List.set_cons_succ]
      refine wpAny_ready (rs := [2]) (by kernel_rfl) (by simp) ?_
      refine AllReady.cons (o := { dst := some 25, op := Op.load 32 (Operand.tmp 6), type := 32, pos := "law.go:67", after := #[], guard := none }) rfl (fun K hK => ?_) ?_
      rotate_left
      · exact AllReady.nil
      obtain ⟨v0, v1, v2, v3, v4, v5, v6⟩ := hSd.out
      replace hK := Lib.hid hK
      go_simp
      refine hK.out _ _ ?_
      clear hK K v0 v1 v2 v3 v4 v5 v6
      try simp only [Act.put, List.setIfInBounds_toArray, List.set_cons_zero, List.set_cons_succ]
      refine wpAny_ready (rs := [3]) (by kernel_rfl) (by simp) ?_
      refine AllReady.cons (o := { dst := some 26, op := Op.call { callee := Callee.value (Operand.func 10), args := #[Operand.tmp 23, Operand.tmp 24, Operand.tmp 25], argTypes := #[23, 25, 32] }, type := 4, pos := "law.go:67", after := #[{ on := 0, ground := Ground.data }, { on := 1, ground := Ground.data }, { on := 2, ground := Ground.data }], guard := none }) rfl (fun K hK => ?_) ?_
      rotate_left
      · exact AllReady.nil
      replace hK := Lib.hid hK
      go_simp
      refine (hQ.out).mono ?_
      rintro e w6 ⟨rfl, hX6⟩
      have hS6 := PX.ob hX6
      obtain ⟨hc6, hL6, hN6, hD6⟩ := haf.out _ hX6
      have hS7 : S7 q wr.heap.size x (stepS x.m s).lost w6 := ⟨hc6, hS6⟩
      replace hL6 := Lib.hid hL6
      replace hN6 := Lib.hid hN6
      replace hD6 := Lib.hid hD6
      replace hX6 := Lib.hid hX6
      clear hc6 hS6 haf hQ hS hSd f0 f1 f2 f3 f4 f5 f6 hW hrc hpp hqq s1' hb' hg2 q1' hg1 q2
      generalize stepS x.m s = s7 at *
      refine hK.out _ _ ?_
      clear hK K
      try simp only [Act.put, List.setIfInBounds_toArray, List.set_cons_zero, List.set_cons_succ]
      refine wpAny_of_held (S := S7 q wr.heap.size x s7.lost) _ _ _ _ ?_
      refine wpAnyH_take (i := 4) (oi := { dst := some 27, op := Op.unOp UnOp.not 4 (Operand.tmp 26), type := 4, pos := "law.go:67", after := #[{ on := 3, ground := Ground.data }], guard := none }) (v := ?_) rfl (by kernel_rfl) (by kernel_rfl) (by kernel_rfl) (fun _ _ _ h => h) (Or.inl ⟨by rfl, ?_⟩) hS7 ?_
      rotate_left
      · intro w hSw; (try dsimp only at hSw); go_simp <;> with_reducible rfl
      simp only [Act.put, List.setIfInBounds_toArray, List.set_cons_zero, List.set_cons_succ]
      refine wpAnyH_take (i := 5) (oi := { dst := some 28, op := Op.move (Operand.tmp 27), type := 4, pos := "law.go:67", after := #[{ on := 4, ground := Ground.data }, { on := 3, ground := Ground.chain }], guard := none }) (v := ?_) rfl (by kernel_rfl) (by kernel_rfl) (by kernel_rfl) (fun _ _ _ h => h) (Or.inl ⟨by rfl, ?_⟩) hS7 ?_
      rotate_left
      · intro w hSw; (try dsimp only at hSw); go_simp <;> with_reducible rfl
      simp only [Act.put, List.setIfInBounds_toArray, List.set_cons_zero, List.set_cons_succ]
      refine wpAnyH_take (i := 6) (oi := { dst := some 29, op := Op.move (Operand.tmp 3), type := 23, pos := "law.go:67", after := #[{ on := 5, ground := Ground.guard }], guard := some (5, false) }) (v := ?_) rfl (by kernel_rfl) (by kernel_rfl) (by kernel_rfl) (fun _ _ _ h => h) (Or.inl ⟨by rfl, ?_⟩) hS7 ?_
      rotate_left
      · intro w hSw; (try dsimp only at hSw); go_simp <;> with_reducible rfl
      simp only [Act.put, List.setIfInBounds_toArray, List.set_cons_zero, List.set_cons_succ]
      refine wpAnyH_take (i := 8) (oi := { dst := some 31, op := Op.move (Operand.tmp 4), type := 25, pos := "law.go:67", after := #[{ on := 5, ground := Ground.guard }], guard := some (5, false) }) (v := ?_) rfl (by kernel_rfl) (by kernel_rfl) (by kernel_rfl) (fun _ _ _ h => h) (Or.inl ⟨by rfl, ?_⟩) hS7 ?_
      rotate_left
      · intro w hSw; (try dsimp only at hSw); go_simp <;> with_reducible rfl
      simp only [Act.put, List.setIfInBounds_toArray, List.set_cons_zero, List.set_cons_succ]
      refine wpAnyH_take (i := 9) (oi := { dst := some 32, op := Op.nilCheck (Operand.tmp 31), type := 0, pos := "law.go:67", after := #[{ on := 8, ground := Ground.data }, { on := 5, ground := Ground.guard }], guard := some (5, false) }) (v := ?_) rfl (by kernel_rfl) (by kernel_rfl) (by kernel_rfl) (fun _ _ _ h => h) (Or.inl ⟨by rfl, ?_⟩) hS7 ?_
      rotate_left
      · intro w hSw; (try dsimp only at hSw); go_simp <;> with_reducible rfl
      simp only [Act.put, List.setIfInBounds_toArray, List.set_cons_zero, List.set_cons_succ]
      refine wpAnyH_take (i := 10) (oi := { dst := some 33, op := Op.fieldAddr 28 (Operand.tmp 32) 1, type := 0, pos := "law.go:67", after := #[{ on := 9, ground := Ground.data }, { on := 5, ground := Ground.guard }], guard := some (5, false) }) (v := ?_) rfl (by kernel_rfl) (by kernel_rfl) (by kernel_rfl) (fun _ _ _ h => h) (Or.inl ⟨by rfl, ?_⟩) hS7 ?_
      rotate_left
      · intro w hSw; (try dsimp only at hSw); go_simp <;> with_reducible rfl
      simp only [Act.put, List.setIfInBounds_toArray, List.set_cons_zero, List.set_cons_succ]
      refine wpAnyH_take (i := 11) (oi := { dst := some 34, op := Op.load 3 (Operand.tmp 33), type := 3, pos := "law.go:67", after := #[{ on := 10, ground := Ground.data }, { on := 5, ground := Ground.guard }], guard := some (5, false) }) (v := ?_) rfl (by kernel_rfl) (by kernel_rfl) (by kernel_rfl) (fun _ _ _ h => h) (Or.inl ⟨by rfl, ?_⟩) hS7 ?_
      rotate_left
      · intro w hSw; (try dsimp only at hSw); go_simp <;> with_reducible rfl
      simp only [Act.put, List.setIfInBounds_toArray, List.set_cons_zero, List.set_cons_succ]
      refine wpAnyH_ready (rs := [7]) (by kernel_rfl) (by simp) ?_
      refine AllReadyH.cons (o := { dst := some 30, op := Op.call { callee := Callee.value (Operand.func 11), args := #[Operand.tmp 29], argTypes := #[23] }, type := 3, pos := "law.go:67", after := #[{ on := 6, ground := Ground.data }, { on := 5, ground := Ground.chain }, { on := 5, ground := Ground.guard }], guard := some (5, false) }) rfl (fun K hK => ?_) ?_
      rotate_left
      · exact AllReadyH.nil
      go_simp
      refine (hL6.out).mono ?_
      rintro e w' ⟨rfl, rfl⟩
      refine hK.out _ _ hS7 (fun _ => ?_)
      clear hK K hL6
      try simp only [Act.put, List.setIfInBounds_toArray, List.set_cons_zero, List.set_cons_succ]
      refine wpAnyH_take (i := 12) (oi := { dst := some 35, op := Op.binOp BinOp.neq 3 (Operand.tmp 30) (Operand.tmp 34) 3, type := 4, pos := "law.go:67", after := #[{ on := 7, ground := Ground.data }, { on := 11, ground := Ground.data }, { on := 5, ground := Ground.guard }], guard := some (5, false) }) (v := ?_) rfl (by kernel_rfl) (by kernel_rfl) (by kernel_rfl) (fun _ _ _ h => h) (Or.inl ⟨by rfl, ?_⟩) hS7 ?_
      rotate_left
      · intro w hSw; (try dsimp only at hSw); go_simp <;> with_reducible rfl
      simp only [Act.put, List.setIfInBounds_toArray, List.set_cons_zero, List.set_cons_succ]
      refine wpAnyH_take (i := 13) (oi := { dst := some 36, op := Op.pick (Operand.tmp 28) (Operand.const (Value.bool true)) (Operand.tmp 35), type := 4, pos := "law.go:67", after := #[{ on := 5, ground := Ground.data }, { on := 12, ground := Ground.data }], guard := none }) (v := ?_) rfl (by kernel_rfl) (by kernel_rfl) (by kernel_rfl) (fun _ _ _ h => h) (Or.inl ⟨by rfl, ?_⟩) hS7 ?_
      rotate_left
      · intro w hSw; (try dsimp only at hSw); go_simp <;> with_reducible rfl
      simp only [Act.put, List.setIfInBounds_toArray, List.set_cons_zero, List.set_cons_succ]
      refine wpAnyH_take (i := 14) (oi := { dst := some 37, op := Op.move (Operand.tmp 36), type := 4, pos := "law.go:67", after := #[{ on := 13, ground := Ground.data }, { on := 7, ground := Ground.chain }], guard := none }) (v := ?_) rfl (by kernel_rfl) (by kernel_rfl) (by kernel_rfl) (fun _ _ _ h => h) (Or.inl ⟨by rfl, ?_⟩) hS7 ?_
      rotate_left
      · intro w hSw; (try dsimp only at hSw); go_simp <;> with_reducible rfl
      simp only [Act.put, List.setIfInBounds_toArray, List.set_cons_zero, List.set_cons_succ]
      refine wpAnyH_take (i := 15) (oi := { dst := some 38, op := Op.move (Operand.tmp 3), type := 23, pos := "law.go:67", after := #[{ on := 14, ground := Ground.guard }], guard := some (14, false) }) (v := ?_) rfl (by kernel_rfl) (by kernel_rfl) (by kernel_rfl) (fun _ _ _ h => h) (Or.inl ⟨by rfl, ?_⟩) hS7 ?_
      rotate_left
      · intro w hSw; (try dsimp only at hSw); go_simp <;> with_reducible rfl
      simp only [Act.put, List.setIfInBounds_toArray, List.set_cons_zero, List.set_cons_succ]
      refine wpAnyH_take (i := 16) (oi := { dst := some 39, op := Op.fieldAddr 32 (Operand.tmp 6) 1, type := 0, pos := "law.go:67", after := #[{ on := 14, ground := Ground.guard }], guard := some (14, false) }) (v := ?_) rfl (by kernel_rfl) (by kernel_rfl) (by kernel_rfl) (fun _ _ _ h => h) (Or.inl ⟨by rfl, ?_⟩) hS7 ?_
      rotate_left
      · intro w hSw; (try dsimp only at hSw); go_simp <;> with_reducible rfl
      simp only [Act.put, List.setIfInBounds_toArray, List.set_cons_zero, List.set_cons_succ]
      refine wpAnyH_take (i := 17) (oi := { dst := some 40, op := Op.load 3 (Operand.tmp 39), type := 3, pos := "law.go:67", after := #[{ on := 16, ground := Ground.data }, { on := 14, ground := Ground.guard }], guard := some (14, false) }) (v := ?_) rfl (by kernel_rfl) (by kernel_rfl) (by kernel_rfl) (fun _ _ _ h => h) (Or.inl ⟨by rfl, ?_⟩) hS7 ?_
      rotate_left
      · intro w hSw; (try dsimp only at hSw); go_simp <;> with_reducible rfl
      simp only [Act.put, List.setIfInBounds_toArray, List.set_cons_zero, List.set_cons_succ]
      refine wpAnyH_take (i := 18) (oi := { dst := some 41, op := Op.fieldAddr 32 (Operand.tmp 6) 2, type := 0, pos := "law.go:67", after := #[{ on := 14, ground := Ground.guard }], guard := some (14, false) }) (v := ?_) rfl (by kernel_rfl) (by kernel_rfl) (by kernel_rfl) (fun _ _ _ h => h) (Or.inl ⟨by rfl, ?_⟩) hS7 ?_
      rotate_left
      · intro w hSw; (try dsimp only at hSw); go_simp <;> with_reducible rfl
      simp only [Act.put, List.setIfInBounds_toArray, List.set_cons_zero, List.set_cons_succ]
      refine wpAnyH_take (i := 19) (oi := { dst := some 42, op := Op.load 3 (Operand.tmp 41), type := 3, pos := "law.go:67", after := #[{ on := 18, ground := Ground.data }, { on := 14, ground := Ground.guard }], guard := some (14, false) }) (v := ?_) rfl (by kernel_rfl) (by kernel_rfl) (by kernel_rfl) (fun _ _ _ h => h) (Or.inl ⟨by rfl, ?_⟩) hS7 ?_
      rotate_left
      · intro w hSw; (try dsimp only at hSw); go_simp <;> with_reducible rfl
      simp only [Act.put, List.setIfInBounds_toArray, List.set_cons_zero, List.set_cons_succ]
      refine wpAnyH_take (i := 21) (oi := { dst := some 44, op := Op.move (Operand.tmp 4), type := 25, pos := "law.go:67", after := #[{ on := 14, ground := Ground.guard }], guard := some (14, false) }) (v := ?_) rfl (by kernel_rfl) (by kernel_rfl) (by kernel_rfl) (fun _ _ _ h => h) (Or.inl ⟨by rfl, ?_⟩) hS7 ?_
      rotate_left
      · intro w hSw; (try dsimp only at hSw); go_simp <;> with_reducible rfl
      simp only [Act.put, List.setIfInBounds_toArray, List.set_cons_zero, List.set_cons_succ]
      refine wpAnyH_take (i := 22) (oi := { dst := some 45, op := Op.fieldAddr 32 (Operand.tmp 6) 1, type := 0, pos := "law.go:67", after := #[{ on := 14, ground := Ground.guard }], guard := some (14, false) }) (v := ?_) rfl (by kernel_rfl) (by kernel_rfl) (by kernel_rfl) (fun _ _ _ h => h) (Or.inl ⟨by rfl, ?_⟩) hS7 ?_
      rotate_left
      · intro w hSw; (try dsimp only at hSw); go_simp <;> with_reducible rfl
      simp only [Act.put, List.setIfInBounds_toArray, List.set_cons_zero, List.set_cons_succ]
      refine wpAnyH_take (i := 23) (oi := { dst := some 46, op := Op.load 3 (Operand.tmp 45), type := 3, pos := "law.go:67", after := #[{ on := 22, ground := Ground.data }, { on := 14, ground := Ground.guard }], guard := some (14, false) }) (v := ?_) rfl (by kernel_rfl) (by kernel_rfl) (by kernel_rfl) (fun _ _ _ h => h) (Or.inl ⟨by rfl, ?_⟩) hS7 ?_
      rotate_left
      · intro w hSw; (try dsimp only at hSw); go_simp <;> with_reducible rfl
      simp only [Act.put, List.setIfInBounds_toArray, List.set_cons_zero, List.set_cons_succ]
      refine wpAnyH_take (i := 24) (oi := { dst := some 47, op := Op.fieldAddr 32 (Operand.tmp 6) 2, type := 0, pos := "law.go:67", after := #[{ on := 14, ground := Ground.guard }], guard := some (14, false) }) (v := ?_) rfl (by kernel_rfl) (by kernel_rfl) (by kernel_rfl) (fun _ _ _ h => h) (Or.inl ⟨by rfl, ?_⟩) hS7 ?_
      rotate_left
      · intro w hSw; (try dsimp only at hSw); go_simp <;> with_reducible rfl
      simp only [Act.put, List.setIfInBounds_toArray, List.set_cons_zero, List.set_cons_succ]
      refine wpAnyH_take (i := 25) (oi := { dst := some 48, op := Op.load 3 (Operand.tmp 47), type := 3, pos := "law.go:67", after := #[{ on := 24, ground := Ground.data }, { on := 14, ground := Ground.guard }], guard := some (14, false) }) (v := ?_) rfl (by kernel_rfl) (by kernel_rfl) (by kernel_rfl) (fun _ _ _ h => h) (Or.inl ⟨by rfl, ?_⟩) hS7 ?_
      rotate_left
      · intro w hSw; (try dsimp only at hSw); go_simp <;> with_reducible rfl
      simp only [Act.put, List.setIfInBounds_toArray, List.set_cons_zero, List.set_cons_succ]
      refine wpAnyH_ready (rs := [20]) (by kernel_rfl) (by simp) ?_
      refine AllReadyH.cons (o := { dst := some 43, op := Op.call { callee := Callee.value (Operand.func 12), args := #[Operand.tmp 38, Operand.tmp 40, Operand.tmp 42], argTypes := #[23, 3, 3] }, type := 3, pos := "law.go:67", after := #[{ on := 15, ground := Ground.data }, { on := 17, ground := Ground.data }, { on := 19, ground := Ground.data }, { on := 14, ground := Ground.chain }, { on := 14, ground := Ground.guard }], guard := some (14, false) }) rfl (fun K hK => ?_) ?_
      rotate_left
      · exact AllReadyH.nil
      go_simp
      refine (hN6.out).mono ?_
      rintro e w' ⟨rfl, rfl⟩
      refine hK.out _ _ hS7 (fun _ => ?_)
      clear hK K hN6
      try simp only [Act.put, List.setIfInBounds_toArray, List.set_cons_zero, List.set_cons_succ]
      refine wpAnyH_ready (rs := [26]) (by kernel_rfl) (by simp) ?_
      refine AllReadyH.cons (o := { dst := some 49, op := Op.call { callee := Callee.value (Operand.func 13), args := #[Operand.tmp 44, Operand.tmp 46, Operand.tmp 48], argTypes := #[25, 3, 3] }, type := 3, pos := "law.go:67", after := #[{ on := 21, ground := Ground.data }, { on := 23, ground := Ground.data }, { on := 25, ground := Ground.data }, { on := 20, ground := Ground.chain }, { on := 14, ground := Ground.guard }], guard := some (14, false) }) rfl (fun K hK => ?_) ?_
      rotate_left
      · exact AllReadyH.nil
      go_simp
      refine (hD6.out).mono ?_
      rintro e w' ⟨rfl, rfl⟩
      refine hK.out _ _ hS7 (fun _ => ?_)
      clear hK K hD6
      try simp only [Act.put, List.setIfInBounds_toArray, List.set_cons_zero, List.set_cons_succ]
      refine wpAnyH_take (i := 27) (oi := { dst := some 50, op := Op.binOp BinOp.neq 3 (Operand.tmp 43) (Operand.tmp 49) 3, type := 4, pos := "law.go:67", after := #[{ on := 20, ground := Ground.data }, { on := 26, ground := Ground.data }, { on := 14, ground := Ground.guard }], guard := some (14, false) }) (v := ?_) rfl (by kernel_rfl) (by kernel_rfl) (by kernel_rfl) (fun _ _ _ h => h) (Or.inl ⟨by rfl, ?_⟩) hS7 ?_
      rotate_left
      · intro w hSw; (try dsimp only at hSw); go_simp <;> with_reducible rfl
      simp only [Act.put, List.setIfInBounds_toArray, List.set_cons_zero, List.set_cons_succ]
      refine wpAnyH_take (i := 28) (oi := { dst := some 51, op := Op.pick (Operand.tmp 37) (Operand.const (Value.bool true)) (Operand.tmp 50), type := 4, pos := "law.go:67", after := #[{ on := 14, ground := Ground.data }, { on := 27, ground := Ground.data }], guard := none }) (v := ?_) rfl (by kernel_rfl) (by kernel_rfl) (by kernel_rfl) (fun _ _ _ h => h) (Or.inl ⟨by rfl, ?_⟩) hS7 ?_
      rotate_left
      · intro w hSw; (try dsimp only at hSw); go_simp <;> with_reducible rfl
      simp only [Act.put, List.setIfInBounds_toArray, List.set_cons_zero, List.set_cons_succ]
      refine wpAnyH_done (by kernel_rfl) ?_ _
      refine NoPanic.normal ?_
      have hA9 := Lib.hid (PX.pp hX6.out)
      clear hX6 hS7
      go_wp2
      go_roundw
      case rel => exact ⟨k + 1, _, _, by omega, by go_num, hA9, hGn⟩
      case measure => simp [intOf]; omega
    · have hkN : k = N := by omega
      subst hkN
      obtain ⟨r1, r2⟩ := hrc.out _ _ _ hA.out
      have hr9 := hI.out.rel
      obtain ⟨len, hlen⟩ : ∃ len : Nat → Nat, (fun k => (s.row k).length) = len := ⟨_, rfl⟩
      have hdw : Hid (Calls Try.prog 14 #[.pointer (some ⟨q, 0, none⟩)] wr fun e w' => ∃ A cap, e = .returned (.slice A (wsn len 0).length cap) ∧ w'.ownsRow wr.heap.size 41 2 (.slice A (wsn len 0).length cap) (wsn len 0).length (fl c2 (wsn len 0)) ∧ (wsn len 0).length ≤ cap ∧ cap ≤ 9223372036854775807 ∧ Below wr.heap.size wr w') := by
        obtain ⟨col, -, -, -, h4⟩ := hA.out
        refine Lib.hid ((dways_any wr h4).mono ?_)
        rintro e w' ⟨v, rfl, hO, hB⟩
        rw [ways_same hr9, hlen] at hO
        obtain ⟨A, cap, rfl, g1, g2⟩ := own_form hO
        exact ⟨A, cap, rfl, hO, g1, g2, hB⟩
      have h441 : (wsn len 0).length ≤ 441 := wsF_len _ _ _
      have hwi := Lib.hid (fun (wx : World) (B : Nat) (hB : Below wr.heap.size wr wx) (hc : wx.cell? ⟨B, 0, none⟩ = some (.pointer (some ⟨p, 0, none⟩))) => show WI wx B p len ∧ p < wx.heap.size from by rw [← hlen]; exact PP.wi (PP.below hA.out hB) hc)
      have hBw := Lib.hid (PP.base hb'.out hA.out)
      have hrl : w.heap.size < wr.heap.size := World.block_lt_of_cell? _ _ r1
      have hplr : p < wr.heap.size := by obtain ⟨col, -, -, h3, -⟩ := hA.out; exact h3.lt
      clear hA hI hr9 hlen hgx hX' hlt hrc hpp hqq s1' hb'
      generalize hws : wsn len 0 = want at *
      replace hws := Lib.hid hws
      go_wp2_with (fail)
      refine hdw.out.mono ?_
      rintro e wA ⟨A2, cap2, rfl, hO, hcp, hcp9, hBA⟩
      obtain ⟨wC, hwC⟩ : ∃ wC, (wA.alloc (.cells #[.slice A2 want.length cap2] 36)).alloc (.cells #[.int .i64 0] 3) = wC := ⟨_, rfl⟩
      have hBC : Below wA.heap.size wA wC := by rw [← hwC]; exact trans0 (al0 _ _) (al0 _ _)
      have c7 : wC.cell? ⟨wA.heap.size, 0, none⟩ = some (.slice A2 want.length cap2) := by rw [← hwC]; exact keep_cell (al0 _ _) (cell_box _ _ _)
      have c8 : wC.cell? ⟨wA.heap.size + 1, 0, none⟩ = some (.int .i64 0) := by
        have h := cell_box (wA.alloc (.cells #[.slice A2 want.length cap2] 36)) (.int .i64 0) 3
        rw [hwC, World.size_alloc] at h; exact h
      have f8 : wC.frozen? ⟨wA.heap.size + 1, 0, none⟩ = false := by
        have h := frozen_box (wA.alloc (.cells #[.slice A2 want.length cap2] 36)) (.int .i64 0) 3
        rw [hwC, World.size_alloc] at h; exact h
      have sC : wC.heap.size = wA.heap.size + 1 + 1 := by rw [← hwC]; simp
      have hWr := wr_own hO
      have hAl : ∀ a, A2 = some a → a.block < wA.heap.size := fun a e => (hO.lt a.block (by rw [e]; rfl)).2
      have hBk : Bk w.heap.size wA.heap.size (wA.heap.size + 1) A2 cap2 want 0 wC := by
        refine ⟨keep_cell hBC (keep_cell hBA r1), keep_frozen hBC (keep_cell hBA r1) (keep_frozen hBA r1 r2), c7, c8, f8, fun i y hy => ?_⟩
        obtain ⟨g, e, e1, e2⟩ := hWr i y hy
        exact ⟨g, e, keep_cell hBC e1, keep_cell hBC e2⟩
      have hBrC := trans0 hBA hBC
      have hsA := hBA.size
      replace sC := Lib.hid sC
      replace hwC := Lib.hid hwC
      replace hBk := Lib.hid hBk
      replace hBrC := Lib.hid hBrC
      clear hO hBA hBC c7 c8 f8 hWr r1 r2 hdw
      go_wp2_with (fail)
      rw [hwC.out]
      refine (ways_any (some ⟨p, 0, none⟩) wC).mono ?_
      rintro e wD ⟨rfl, hwD⟩
      have hBD : Below wC.heap.size wC wD := by rw [hwD]; exact al0 _ _
      have bD : wD.cell? ⟨wC.heap.size, 0, none⟩ = some (.pointer (some ⟨p, 0, none⟩)) := by rw [hwD]; exact cell_box wC _ _
      have hBkD := Lib.hid (hBk.out.below hBD)
      obtain ⟨hWI, hpl⟩ := hwi.out wD wC.heap.size (trans0 hBrC.out hBD) bD
      have hBwD := Lib.hid (hBw.out.trans ((trans0 hBrC.out hBD).mono hBw.out.size))
      have hltD := World.block_lt_of_cell? _ _ bD
      replace hWI := Lib.hid hWI
      clear hwD hBD hBk hwi hwC hBrC bD
      go_wp2
      refine (wpIn_wide (n := 6)).1 ?_
      refine' wpIn_rangeFunc_ownF rfl (by omega) (gf := 34) (lb := #[.pointer (some ⟨wC.heap.size, 0, none⟩)]) rfl trivial (enters_of Try.func34 (by kernel_rfl) rfl)
        (iter_stops 5 (by omega) wC.heap.size p len wD hWI.out hltD hpl) KW.trans (KW.book hltD hpl) (Below.refl _ _) (fun _ => rfl)
        (LI w w.heap.size wA.heap.size (wA.heap.size + 1) A2 cap2 want) (LX w want) (LI.from_ (by have := hBwD.out.size; omega)) (LX.from_ (by have := hBwD.out.size; omega))
        ⟨⟨List.nil_prefix, hBkD.out⟩, hBwD.out⟩ _ ?assign ?body ?done ?stop
      case assign =>
        intro l x W K hK
        simp only [encs]
        gi_wp2
        exact hK
      case body =>
        rintro l pre x W ⟨⟨hpre, hbk⟩, hB⟩ hplen
        rw [hws.out] at hplen
        obtain ⟨y, hy⟩ : ∃ y, want[pre.length]? = some y := ⟨_, List.getElem?_eq_getElem hplen⟩
        have hbk' := Lib.hid hbk
        obtain ⟨q1, q2, q7, q8, q9, qw⟩ := hbk
        obtain ⟨g, rfl, y1, y2⟩ := qw _ _ hy
        replace hpre := Lib.hid hpre
        replace hB := Lib.hid hB
        have hlI : (pre.length : Int) < (want.length : Int) := by omega
        have hgl := hAl _ rfl
        clear qw hBkD hWI hBwD
        by_cases hx : x = y
        · subst hx
          have hpn := Lib.hid (prefix_snoc hpre.out hy)
          have hbn := Lib.hid (hbk'.out.box (by omega) (by omega) (fun a e => by cases e; show g ≠ _; have : g < wA.heap.size := hgl; omega) ((pre.length : Int) + 1))
          gi_wp2
          exact ⟨KeepsOthers.setCell _ _ _, KW.setCell (by have := sC.out; omega) (by omega) _ _, ⟨hpn.out, by have h := hbn.out; rw [List.length_append]; exact h⟩, hB.out.setCell (p := ⟨wA.heap.size + 1, 0, none⟩) (show w.heap.size ≤ wA.heap.size + 1 by omega) _⟩
        · by_cases h1 : y.1 = x.1
          · have h2 : y.2 ≠ x.2 := fun e => hx (Prod.ext h1.symm e.symm)
            have b1 : ((y.1 : Int) == (x.1 : Int)) = true := by rw [h1]; simp
            have b2 : ((y.2 : Int) == (x.2 : Int)) = false := by rw [beq_eq_false_iff_ne]; omega
            have hno := Lib.hid (show ¬ pre ++ [x] <+: want from fun h => hx (prefix_last h hy))
            clear h1 h2 hx
            gi_wp2
            exact ⟨KeepsOthers.setCell _ _ _, ⟨rfl, hno.out⟩, hB.out.setCell (p := ⟨w.heap.size, 0, none⟩) (Nat.le_refl _) _⟩
          · have b1 : ((y.1 : Int) == (x.1 : Int)) = false := by rw [beq_eq_false_iff_ne]; omega
            have hno := Lib.hid (show ¬ pre ++ [x] <+: want from fun h => hx (prefix_last h hy))
            clear h1 hx
            gi_wp2
            exact ⟨KeepsOthers.setCell _ _ _, ⟨rfl, hno.out⟩, hB.out.setCell (p := ⟨w.heap.size, 0, none⟩) (Nat.le_refl _) _⟩
      case done =>
        rintro D ys W hD rfl ⟨⟨-, q1, q2, q7, q8, q9, -⟩, hB⟩ hK
        rw [hws.out] at q8
        replace hB := Lib.hid hB
        clear hBkD hWI hBwD hAl
        go_wp2_with (fail)
        refine (awake_any W).mono ?_
        rintro e W1 ⟨rfl, hB1⟩
        have t1 := keep_cell hB1 q1
        have v1 := keep_frozen hB1 q1 q2
        have t7 := keep_cell hB1 q7
        have t8 := keep_cell hB1 q8
        have hKb : W1.heap[D]? = some (.deferred (some [])) := (hB1.block D (Array.getElem?_eq_some_iff.1 hK).1).trans hK
        have hB2 := Lib.hid (trans0 hB.out hB1)
        replace hKb := Lib.hid hKb
        have hfin := Lib.hid (World.cell?_setCell_same' W1 ⟨w.heap.size, 0, none⟩ (.bool true) (by rw [t1]; rfl))
        clear hB1 hK q1 q2 q7 q8 q9 hB
        go_wp2
        have hK' := (KeepsOthers.setCell W1 ⟨w.heap.size, 0, none⟩ (.bool true)).same D _ hKb.out rfl
        refine ⟨by simp, .inl ⟨_, _, rfl, run_takeDeferred hK', ?_⟩⟩
        have hc5 := cell_kept hfin.out (grownBy_putObj' _ D (.deferred none)) (fun r e => by cases e; exact ⟨_, hK', rfl⟩)
        refine ⟨.bool true, ?_, rfl, (hB2.out.setCell (p := ⟨w.heap.size, 0, none⟩) (Nat.le_refl _) _).trans (belowK_b (w := w) (Nat.le_refl _) _ D _ _ (by have := sC.out; omega) hK' rfl rfl)⟩
        simp [results, Try.f3, go_sem, hc5]
      case stop =>
        rintro D c pre W hD hpre ⟨⟨rfl, hno⟩, hB⟩ hK
        rw [hws.out] at hpre
        exact absurd hpre hno
end Go.Proofs.Ytggoaglcffdcnaa.netSi
