/- The contract of first, in the program. -/
import Derived.Test.YtgjgjnahdkoofaaFraC
import Derived.Deep.QuietTactic
import Derived.BigQuiet
import Derived.Deep.RegionLaw
namespace Go.Proofs.Ytgjgjnahdkoofaa.fraD
open Go.ChangeShapes Go.WideShapes Go.ChangeAt Go.RowKit Go.Deep
open numM numN rowA byt numA numB numC numD fraM fraB fraC
attribute [local go_sem] Oper.semAt_some

/-- the cells of a frame -/
abbrev cf (f : Fm) (A : Option Addr) (c : Nat) : Array Value := #[.int .i64 f.v, .int .i64 f.e, .int .i64 f.s, .int .i64 f.a, .slice A f.body.length c]
/-- What first answers: a frame whose body is the call's own. -/
def GivesF (w : World) (f : Fm) (n err : Nat) (e : Ending) (w' : World) : Prop :=
  ∃ A c, e = .returned (.tuple #[.agg (cf f A c), .int .i64 n, .int .i64 err]) ∧ Own w' w.heap.size (.slice A f.body.length c) f.body.length f.body ∧ Below w.heap.size w w'
theorem givesF_none {w w' : World} {n err : Nat} (hB : Below w.heap.size w w') : GivesF w Fm.zero n err (.returned (.tuple #[.agg #[.int .i64 0, .int .i64 0, .int .i64 0, .int .i64 0, .slice none 0 0], .int .i64 n, .int .i64 err])) w' := ⟨none, 0, rfl, Own.nil_ w' _, hB⟩

/-- a struct's five cells, one by one -/
theorem five (w : World) (T : TypeId) : (w.alloc (.cells #[.int .i64 0, .int .i64 0, .int .i64 0, .int .i64 0, .slice none 0 0] T)).rowIs w.heap.size T 5 (fun i => if i < 4 then .int .i64 0 else .slice none 0 0) := by
  have h := World.rowIs_alloc w #[.int .i64 0, .int .i64 0, .int .i64 0, .int .i64 0, .slice none 0 0] T (fun i => if i < 4 then .int .i64 0 else .slice none 0 0) (fun i hi => ?_)
  · exact h
  · have : i = 0 ∨ i = 1 ∨ i = 2 ∨ i = 3 ∨ i = 4 := by simp at hi; omega
    rcases this with rfl | rfl | rfl | rfl | rfl <;> rfl

def f5 (a b c d i : Nat) : Value := if i = 0 then .int .i64 a else if i = 1 then .int .i64 b else if i = 2 then .int .i64 c else if i = 3 then .int .i64 d else .slice none 0 0
theorem five5 (w : World) (a b c d : Nat) : (w.alloc (.cells #[.int .i64 a, .int .i64 b, .int .i64 c, .int .i64 d, .slice none 0 0] 26)).rowIs w.heap.size 26 5 (f5 a b c d) := by
  have h := World.rowIs_alloc w #[.int .i64 a, .int .i64 b, .int .i64 c, .int .i64 d, .slice none 0 0] 26 (f5 a b c d) (fun i hi => ?_)
  · exact h
  · have : i = 0 ∨ i = 1 ∨ i = 2 ∨ i = 3 ∨ i = 4 := by simp at hi; omega
    rcases this with rfl | rfl | rfl | rfl | rfl <;> rfl

set_option maxRecDepth 100000 in
theorem first_no (a : Option Addr) (n cap : Nat) (l : List Nat) (w : World) (hb : BL w a n l) (hcap : n ≤ cap) (hc9 : cap ≤ 9223372036854775807) (hno : szE l ≠ 0) :
    Calls Try.prog 14 #[.slice a n cap] w (GivesF w Fm.zero 0 (szE l)) := by
  have ht : ((szE l : Int) != 0) = true := by rw [bne_iff_ne]; omega
  have hBa := Lib.hid ((Below.refl w.heap.size w).alloc (Nat.le_refl _) (.cells #[.int .i64 0, .int .i64 0, .int .i64 0, .int .i64 0, .slice none 0 0] 26))
  have r0 := five w 26
  replace r0 := Lib.hid r0
  have hb' := Lib.hid (hb.below hBa.out)
  generalize hs : szE l = s at *
  replace hs := Lib.hid hs
  clear hno hb
  go_enter Try.func14, Try.ntmps14
  go_wp2_with (fail)
  generalize w.alloc (.cells #[.int .i64 0, .int .i64 0, .int .i64 0, .int .i64 0, .slice none 0 0] 26) = W at *
  refine (size_any a n cap l W hb'.out hcap hc9).mono ?_
  rintro e w1 ⟨rfl, hB⟩
  rw [hs.out]
  have hB1 := Lib.hid (hBa.out.trans (hB.mono hBa.out.size))
  have r1 := Lib.hid (r0.out.of_block (hB.block w.heap.size r0.out.lt))
  have c0 := r1.out.cell (i := 0) (by omega)
  have c1 := r1.out.cell (i := 1) (by omega)
  have c2 := r1.out.cell (i := 2) (by omega)
  have c3 := r1.out.cell (i := 3) (by omega)
  have c4 := r1.out.cell (i := 4) (by omega)
  have f0 := r1.out.frozen 0
  have f1 := r1.out.frozen 1
  have f2 := r1.out.frozen 2
  have f3 := r1.out.frozen 3
  have f4 := r1.out.frozen 4
  clear hB
  go_wp2
  refine bodyPost_ret (v := .tuple #[.agg #[.int .i64 0, .int .i64 0, .int .i64 0, .int .i64 0, .slice none 0 0], .int .i64 0, .int .i64 s]) (by simp [results, Try.results14, go_sem, c0, c1, c2, c3, c4]) rfl (givesF_none ?_)
  exact ((((hB1.out.setCell (by simp) _).setCell (by simp) _).setCell (by simp) _).setCell (by simp) _).setCell (by simp) _

/-- append of bytes onto a row of the call's own, as a step of a region that draws its order -/
theorem step_app {P : Program} {ops : Array Oper} {o : Oper} {a : Act} {w : World} {K : Act → World → Prop} {Q : Exit → Act → World → Prop} {E : Prop} (hgd : o.guard = none) (s x : Operand) (t : TypeId)
    (ho : o.op = .call { callee := .builtin .append, args := #[s, x], argTypes := #[t, t] })
    (base : Nat) (i : TypeInfo) (ht : P.underlying t = some (.slice 5)) (hi : P.info? 5 = some i) (hz : i.zero = some (.int .u8 0)) (h1 : i.size = 1) (h2 : i.bytes = 1)
    (v : Value) (n : Nat) (l : List Nat) (hs : a.eval s = v) (hown : byt.Own w base v n l) (A : Option Addr) (m c : Nat) (k : List Nat) (hx : a.eval x = .slice A m c) (hb : BL w A m k)
    (hroom : n + m + (n + m) / 4 + 192 ≤ 281474976710656) (hbase : base ≤ w.heap.size)
    (h : ∀ A' c' w', byt.Own w' base (.slice A' (n + m) c') (n + m) (l ++ k) → w.grownBy w' v.ownBlock → K (a.put o.dst (.slice A' (n + m) c')) w') :
    if Region.wanted o (yielded ops a.tmps) = true then Oper.wp P o a w K Q else E := by
  have hw : Region.wanted o (yielded ops a.tmps) = true := by simp [Region.wanted, hgd]
  rw [if_pos hw]
  obtain ⟨v', w', hr, h3, h4⟩ := run_app (P := P) w base t o.type i ht hi hz h1 h2 hown A m c hb hroom hbase
  unfold Oper.wp execOp
  simp only [ho, resolve, invoke, builtin, Sem.run_bind, Sem.run_pure, Result.andThen_ok, List.map_toArray, List.map_cons, List.map_nil, hs, hx, hr]
  obtain ⟨A', c', rfl, _⟩ := h3.form
  exact h A' c' w' h3 h4
theorem own_set {w : World} {base n B j : Nat} {v : Value} {l : List Nat} (h : byt.Own w base v n l) (hB : B < base) (x : Value) : byt.Own (w.setCell ⟨B, j, none⟩ x) base v n l := by
  refine ⟨h.1, h.2.1, h.2.2.1, h.2.2.2.1, ?_⟩
  rcases h.2.2.2.2 with h | ⟨g, cap, cur, rfl, h2, h3, h4⟩
  · exact .inl h
  · exact .inr ⟨g, cap, cur, rfl, h2, (Below.heap_setCell w ⟨B, j, none⟩ x g (show g ≠ B by omega)).trans h3, h4⟩
theorem cut_lh (b off l c i j : Nat) (x y : Int) (hx : x = i) (hy : y = j) (h1 : i ≤ j) (h2 : j ≤ c) (h3 : i < c) (w : World) :
    (Instr.slice 23 (.slice (some ⟨b, off, none⟩) l c) (some (.int .i64 x)) (some (.int .i64 y)) none).run Try.prog w = .ok (.slice (some ⟨b, off + i, none⟩) (j - i) (c - i)) w := by
  have ht : Try.prog.underlying 23 = some (.slice (Try.prog.elem 23)) := by kernel_rfl
  have hs : ∀ w, (sizeOf (Try.prog.elem 23)).run Try.prog w = .ok 1 w := fun _ => by kernel_rfl
  subst hx hy
  rw [run_slice_lh w 23 _ l c ht .i64 .i64 (i : Int) (j : Int) (by omega) (by omega) (by omega), hs]
  simp only [Result.andThen, sliced, Int.toNat_natCast]
  rw [if_neg (by omega)]
  simp [Addr.add]
theorem cut_h (a : Option Addr) (l c j : Nat) (h : j ≤ c) (w : World) : (Instr.slice 23 (.slice a l c) none (some (.int .i64 (j : Int))) none).run Try.prog w = .ok (.slice a j c) w := by
  have ht : Try.prog.underlying 23 = some (.slice (Try.prog.elem 23)) := by kernel_rfl
  have hs : ∀ w, (sizeOf (Try.prog.elem 23)).run Try.prog w = .ok 1 w := fun _ => by kernel_rfl
  rw [run_slice_h w 23 a l c ht .i64 (j : Int) (by omega) (by omega), hs]
  cases a <;> simp [Result.andThen, sliced, Addr.add_zero']
theorem quiet2 {P : Program} {f : FuncId} {args : Array Value} {w : World} {n : Nat} {v : Value} (h : Calls P f args (w.drewN n) fun e w' => e = .returned v ∧ w.drewN n = w') :
    Calls P f args (w.drewN n) fun e w'' => e = .returned v ∧ ∃ m, w'' = w.drewN m := h.mono fun _ _ ⟨he, hm⟩ => ⟨he, n, hm.symm⟩
theorem bl_drewN {w : World} {a : Option Addr} {n : Nat} {l : List Nat} (k : Nat) (h : BL w a n l) : BL (w.drewN k) a n l := h

set_option maxRecDepth 100000 in
theorem first_sum (b off n cap : Nat) (l : List Nat) (w : World) (hb : BL w (some ⟨b, off, none⟩) n l) (hcap : n ≤ cap) (hc9 : cap ≤ 9223372036854775807) (hsz : szE l = 0) :
    Calls Try.prog 14 #[.slice (some ⟨b, off, none⟩) n cap] w (GivesF w (fsF l) (fsN l) (fsE l)) := by
  have hBa := Lib.hid ((Below.refl w.heap.size w).alloc (Nat.le_refl _) (.cells #[.int .i64 0, .int .i64 0, .int .i64 0, .int .i64 0, .slice none 0 0] 26))
  have r0 := five w 26
  replace r0 := Lib.hid r0
  have hb' := Lib.hid (hb.below hBa.out)
  obtain ⟨hcm, hcn⟩ := sz_fit hsz
  rw [hb.1] at hcn
  obtain ⟨m, hm⟩ : ∃ m, m = 17 + cnt l := ⟨_, rfl⟩
  have hnm : szN l = m + 4 := by unfold szN; rw [if_pos hsz]; omega
  have hm1 : m + 4 ≤ n := by omega
  have hm2 : m ≤ 1048593 := by omega
  have hm3 : 17 ≤ m := by omega
  have hmc : m < cap := by omega
  replace hm := Lib.hid hm
  replace hsz := Lib.hid hsz
  replace hnm := Lib.hid hnm
  have hln := Lib.hid hb.1
  clear hb hcm hcn
  go_enter Try.func14, Try.ntmps14
  go_wp2_with (fail)
  generalize w.alloc (.cells #[.int .i64 0, .int .i64 0, .int .i64 0, .int .i64 0, .slice none 0 0] 26) = W at *
  refine (size_any _ n cap l W hb'.out hcap hc9).mono ?_
  rintro e w1 ⟨rfl, hB⟩
  rw [hsz.out, hnm.out]
  have hB1 := Lib.hid (hBa.out.trans (hB.mono hBa.out.size))
  have hb1 := Lib.hid (hb'.out.below hB)
  have r1 := Lib.hid (r0.out.of_block (hB.block w.heap.size r0.out.lt))
  clear hB hb' hBa r0
  have hd := hb1.out.drop m
  have hd4 := Lib.hid (hd.take 4 (by omega))
  have ht := Lib.hid (hb1.out.take m (by omega))
  clear hd
  have s1 := cut_lh b off n cap m (m + 4) (m : Int) ((m : Int) + 4) rfl (by omega) (by omega) (by omega) hmc
  rw [Nat.add_sub_cancel_left] at s1
  have s2 := cut_h (some ⟨b, off, none⟩) n cap m (by omega)
  go_wp2
  have c0 := r1.out.cell (i := 0) (by omega)
  have c1 := r1.out.cell (i := 1) (by omega)
  have c2 := r1.out.cell (i := 2) (by omega)
  have c3 := r1.out.cell (i := 3) (by omega)
  have c4 := r1.out.cell (i := 4) (by omega)
  have f0 := r1.out.frozen 0
  have f1 := r1.out.frozen 1
  have f2 := r1.out.frozen 2
  have f3 := r1.out.frozen 3
  have f4 := r1.out.frozen 4
  by_cases hs : lep ((l.drop m).take 4) 4 = crc (l.take m)
  · have hne : ((lep ((l.drop m).take 4) 4 : Int) != (crc (l.take m) : Int)) = false := by rw [bne_eq_false_iff_eq]; omega
    have hE : fsE l = 0 := by unfold fsE; rw [if_pos hsz.out, ← lep_ld, ← hm.out, if_pos hs]
    replace hs := Lib.hid hs
    replace hE := Lib.hid hE
    go_quiet (first
      | (go_at_call 23; exact quiet2 (tsum_any _ _ _ _ (bl_drewN _ hd4.out)))
      | (go_at_call 20; exact quiet2 (sum_any _ _ _ _ _ (bl_drewN _ ht.out))))
    go_wp2_with (fail)
    refine (nums_any b off n cap l _ (bl_drewN nq hb1.out) hcap hc9 (by omega)).mono ?_
    rintro e w2 ⟨rfl, hB2⟩
    have hB2' : Below w1.heap.size w1 w2 := ⟨hB2.os, hB2.tape, hB2.output, hB2.size, hB2.block⟩
    have hB3 := Lib.hid (hB1.out.trans (hB2'.mono hB1.out.size))
    have r2 := Lib.hid (r1.out.of_block (hB2'.block w.heap.size r1.out.lt))
    have hb2 := Lib.hid (hb1.out.below hB2')
    obtain ⟨b', off', e0, cb⟩ := hb2.out.at (show 0 < n by omega)
    cases e0
    rw [Nat.add_zero] at cb
    have cbl := World.block_lt_of_cell? _ _ cb
    have hx0 : nth l 0 < 256 := nth_lt hb2.out.lt (by have := hln.out; omega)
    generalize hv0 : nth l 0 = v0 at *
    replace hv0 := Lib.hid hv0
    have rA := five5 (w2.alloc (.cells #[.int .i64 (wd l 1), .int .i64 (wd l 5), .int .i64 (wd l 9), .int .i64 (wd l 13)] 46)) v0 (wd l 1) (wd l 5) (wd l 9)
    rw [nblk_alloc] at rA
    have rB := (r2.out.alloc (.cells #[.int .i64 (wd l 1), .int .i64 (wd l 5), .int .i64 (wd l 9), .int .i64 (wd l 13)] 46)).alloc (.cells #[.int .i64 v0, .int .i64 (wd l 1), .int .i64 (wd l 5), .int .i64 (wd l 9), .slice none 0 0] 26)
    have hB4 := (hB3.out.alloc hB3.out.size (.cells #[.int .i64 (wd l 1), .int .i64 (wd l 5), .int .i64 (wd l 9), .int .i64 (wd l 13)] 46)).alloc (by have := hB3.out.size; simp; omega) (.cells #[.int .i64 v0, .int .i64 (wd l 1), .int .i64 (wd l 5), .int .i64 (wd l 9), .slice none 0 0] 26)
    have hb4 := hb2.out.below (((Below.refl w2.heap.size w2).alloc (Nat.le_refl _) (.cells #[.int .i64 (wd l 1), .int .i64 (wd l 5), .int .i64 (wd l 9), .int .i64 (wd l 13)] 46)).alloc (by simp) (.cells #[.int .i64 v0, .int .i64 (wd l 1), .int .i64 (wd l 5), .int .i64 (wd l 9), .slice none 0 0] 26))
    replace rA := Lib.hid rA
    replace rB := Lib.hid rB
    replace hB4 := Lib.hid hB4.drew
    replace hb4 := Lib.hid hb4
    have hlt2 := Lib.hid (show w.heap.size < w2.heap.size from r2.out.lt)
    clear hB2 hB2' hne s1 s2 c0 c1 c2 c3 c4 f0 f1 f2 f3 f4 r2 hB3 hb2 hb1 r1 hB1 hd4 ht
    go_wp2
    go_region
    clear cb
    generalize ((w2.alloc (.cells #[.int .i64 (wd l 1), .int .i64 (wd l 5), .int .i64 (wd l 9), .int .i64 (wd l 13)] 46)).alloc (.cells #[.int .i64 v0, .int .i64 (wd l 1), .int .i64 (wd l 5), .int .i64 (wd l 9), .slice none 0 0] 26)) = W4 at *
    obtain ⟨i0, hi, hz0, hz1, hz2⟩ := info_parts bytes8
    have hbk := Lib.hid ((hb4.out.drop 17).take (m - 17) (by omega))
    have s3 := cut_lh b off n cap 17 m 17 (m : Int) rfl rfl hm3 (by omega) (by omega)
    have rA' : Hid (W4.drew.rowIs (w2.heap.size + 1) 26 5 (f5 v0 (wd l 1) (wd l 5) (wd l 9))) := rA
    have rB' : Hid (W4.drew.rowIs w.heap.size 26 5 (fun i => if i < 4 then .int .i64 0 else .slice none 0 0)) := rB
    have hb5 : Hid (BL W4.drew (some ⟨b, off + 17, none⟩) (m - 17) ((l.drop 17).take (m - 17))) := hbk
    clear rA rB hbk hb4
    generalize W4.drew = W5 at *
    have k4 : W5.cell? ⟨w2.heap.size + 1, 4, none⟩ = some (.slice none 0 0) := rA'.out.cell (i := 4) (by omega)
    have kf4 := rA'.out.frozen 4
    have hszA := Lib.hid rA'.out.lt
    have hszB := Lib.hid rB'.out.lt
    go_wp2
    go_region_law (refine step_app (by rfl) _ _ _ (by rfl) W5.heap.size i0 Try.underlying23 hi hz0 hz1 hz2 (.slice none 0 0) 0 [] (by rfl) (Own.nil_ W5.drew W5.heap.size) (some ⟨b, off + 17, none⟩) (m - 17) (cap - 17) ((l.drop 17).take (m - 17)) (by rfl) hb5.out (by omega) (Nat.le_refl _) ?_; intro A7 c7 w7 hown7 hg7; have hB7 := Own.grown (Own.nil_ W5.drew W5.heap.size) (Below.refl W5.heap.size W5.drew) hg7 (Nat.le_refl _); have k7 := hB7.cell (p := ⟨w2.heap.size + 1, 4, none⟩) hszA.out; have f7 := hB7.frozen (p := ⟨w2.heap.size + 1, 4, none⟩) hszA.out)
    rw [Nat.zero_add, List.nil_append] at hown7
    have hB7' : Below W5.heap.size W5 w7 := ⟨hB7.os, hB7.tape, hB7.output, hB7.size, hB7.block⟩
    have rA7 := (rA'.out.of_block (hB7'.block _ hszA.out)).set 4 (.slice A7 (m - 17) c7)
    have rB7 := (rB'.out.of_block (hB7'.block _ hszB.out)).setOther (a := ⟨w2.heap.size + 1, 4, none⟩) (show w.heap.size ≠ w2.heap.size + 1 by have := hlt2.out; omega) (.slice A7 (m - 17) c7)
    have ho8 := Lib.hid (own_set hown7 (B := w2.heap.size + 1) (j := 4) hszA.out (.slice A7 (m - 17) c7))
    have hB8 := Lib.hid ((hB4.out.trans (hB7'.mono hB4.out.size)).setCell (p := ⟨w2.heap.size + 1, 4, none⟩) (show w.heap.size ≤ w2.heap.size + 1 by have := hlt2.out; omega) (.slice A7 (m - 17) c7))
    clear hown7 hg7 hB7 k7 f7 hB7' k4 kf4 rA' rB' hb5 s3 hB4
    generalize w7.setCell ⟨w2.heap.size + 1, 4, none⟩ (.slice A7 (m - 17) c7) = W8 at *
    have a0 : W8.cell? ⟨w2.heap.size + 1, 0, none⟩ = some (.int .i64 v0) := rA7.cell (i := 0) (by omega)
    have a1 : W8.cell? ⟨w2.heap.size + 1, 1, none⟩ = some (.int .i64 (wd l 1)) := rA7.cell (i := 1) (by omega)
    have a2 : W8.cell? ⟨w2.heap.size + 1, 2, none⟩ = some (.int .i64 (wd l 5)) := rA7.cell (i := 2) (by omega)
    have a3 : W8.cell? ⟨w2.heap.size + 1, 3, none⟩ = some (.int .i64 (wd l 9)) := rA7.cell (i := 3) (by omega)
    have a4 : W8.cell? ⟨w2.heap.size + 1, 4, none⟩ = some (.slice A7 (m - 17) c7) := rA7.cell (i := 4) (by omega)
    have b0 : W8.cell? ⟨w.heap.size, 0, none⟩ = some (.int .i64 0) := rB7.cell (i := 0) (by omega)
    have b1 : W8.cell? ⟨w.heap.size, 1, none⟩ = some (.int .i64 0) := rB7.cell (i := 1) (by omega)
    have b2 : W8.cell? ⟨w.heap.size, 2, none⟩ = some (.int .i64 0) := rB7.cell (i := 2) (by omega)
    have b3 : W8.cell? ⟨w.heap.size, 3, none⟩ = some (.int .i64 0) := rB7.cell (i := 3) (by omega)
    have b4 : W8.cell? ⟨w.heap.size, 4, none⟩ = some (.slice none 0 0) := rB7.cell (i := 4) (by omega)
    have g0 := rB7.frozen 0
    have g1 := rB7.frozen 1
    have g2 := rB7.frozen 2
    have g3 := rB7.frozen 3
    have g4 := rB7.frozen 4
    clear rA7 rB7
    go_wp2
    refine bodyPost_ret (v := .tuple #[.agg #[.int .i64 v0, .int .i64 (wd l 1), .int .i64 (wd l 5), .int .i64 (wd l 9), .slice A7 (m - 17) c7], .int .i64 ((m : Int) + 4), .int .i64 0]) (by simp [results, Try.results14, go_sem, b0, b1, b2, b3, b4]) rfl ?_
    have e1 := (fs_yes hE.out).1
    have e2 := (fs_yes hE.out).2
    have e3 : ((l.drop 17).take (cnt l)).length = m - 17 := by rw [List.length_take, List.length_drop, hln.out]; have := hm.out; omega
    rw [e1, e2, hE.out]
    unfold GivesF got
    refine ⟨A7, c7, ?_, ?_, ?_⟩
    · simp only [cf, e3, hv0.out]
      congr 3
      have := hm.out
      simp; omega
    · have e4 : m - 17 = cnt l := by have := hm.out; omega
      simp only [e3]
      have q := (own_set (j := 4) (own_set (j := 3) (own_set (j := 2) (own_set (j := 1) (own_set (j := 0) ho8.out hszB.out (.int .i64 v0)) hszB.out (.int .i64 (wd l 1))) hszB.out (.int .i64 (wd l 5))) hszB.out (.int .i64 (wd l 9))) hszB.out (.slice A7 (m - 17) c7)).more (base' := w.heap.size) (Nat.le_of_lt hszB.out)
      rw [e4] at q ⊢
      exact q
    · exact ((((hB8.out.setCell (by simp) _).setCell (by simp) _).setCell (by simp) _).setCell (by simp) _).setCell (by simp) _
  · have hne : ((lep ((l.drop m).take 4) 4 : Int) != (crc (l.take m) : Int)) = true := by rw [bne_iff_ne]; omega
    have hE : fsE l = 4 := by unfold fsE; rw [if_pos hsz.out, ← lep_ld, ← hm.out, if_neg hs]
    have hF := fs_no (l := l) (by omega)
    have hgf : Hid (∀ e w', GivesF w Fm.zero 0 4 e w' → GivesF w (fsF l) (fsN l) (fsE l) e w') := Lib.hid (by rw [hF.1, hF.2, hE]; exact fun _ _ h => h)
    clear hE hF
    replace hs := Lib.hid hs
    go_quiet (first
      | (go_at_call 23; exact quiet2 (tsum_any _ _ _ _ (bl_drewN _ hd4.out)))
      | (go_at_call 20; exact quiet2 (sum_any _ _ _ _ _ (bl_drewN _ ht.out))))
    go_wp2
    refine bodyPost_ret (v := .tuple #[.agg #[.int .i64 0, .int .i64 0, .int .i64 0, .int .i64 0, .slice none 0 0], .int .i64 0, .int .i64 4]) (by simp [results, Try.results14, go_sem, c0, c1, c2, c3, c4]) rfl (hgf.out _ _ (givesF_none ?_))
    have hq : Below w.heap.size w (w1.drewN nq) := ⟨hB1.out.os, hB1.out.tape, hB1.out.output, hB1.out.size, hB1.out.block⟩
    exact ((((hq.setCell (by simp) _).setCell (by simp) _).setCell (by simp) _).setCell (by simp) _).setCell (by simp) _
end Go.Proofs.Ytgjgjnahdkoofaa.fraD
