/- FrameScans. -/
import Derived.Test.YtgjgjnahdkoofaaFrP
import Derived.Test.YtgjgjnahdkoofaaFrO
import Derived.Test.YtgjgjnahdkoofaaFraF
import Derived.Test.YtgjgjnahdkoofaaFraH
namespace Go.Proofs.Ytgjgjnahdkoofaa.frQ
open Go.ChangeShapes Go.WideShapes Go.ChangeAt Go.RowKit Go.Shelf
open numM numN rowA byt numA numB numC numD opn fraM fraB fraC fraD fraE fraF fraG fraH frO frP rngR
attribute [local go_sem] Oper.semAt_some

theorem keep_cell {W W' : World} (hB : Below W.heap.size W W') {b o : Nat} {v : Value} (h : W.cell? ⟨b, o, none⟩ = some v) : W'.cell? ⟨b, o, none⟩ = some v :=
  (hB.cell (p := ⟨b, o, none⟩) (World.block_lt_of_cell? _ _ h)).trans h
theorem keep_frozen {W W' : World} (hB : Below W.heap.size W W') {b o : Nat} {v : Value} (h : W.cell? ⟨b, o, none⟩ = some v) (hf : W.frozen? ⟨b, o, none⟩ = false) : W'.frozen? ⟨b, o, none⟩ = false :=
  (hB.frozen (p := ⟨b, o, none⟩) (World.block_lt_of_cell? _ _ h)).trans hf
theorem cell_box (w : World) (v : Value) (t : TypeId) : (w.alloc (.cells #[v] t)).cell? ⟨w.heap.size, 0, none⟩ = some v := cell_of_row _ _ 0 #[v] t (0, 0) (heap_alloc_new w _)
theorem frozen_box (w : World) (v : Value) (t : TypeId) : (w.alloc (.cells #[v] t)).frozen? ⟨w.heap.size, 0, none⟩ = false := by simp
theorem pk_le (f : Fm) (h : f.body.length ≤ 1000) : (pkL f).length ≤ 1021 := by
  unfold pkL
  split
  · split
    · simp
    · rw [pk_len]; omega
  · simp
theorem own_stay {w w' : World} {base n : Nat} {v : Value} {l : List Nat} (h : byt.Own w base v n l) (hB : Below w.heap.size w w') : byt.Own w' base v n l := by
  refine ⟨h.1, h.2.1, h.2.2.1, h.2.2.2.1, ?_⟩
  rcases h.2.2.2.2 with h0 | ⟨g, cap, cur, rfl, h1, h2, h3⟩
  · exact .inl h0
  · exact .inr ⟨g, cap, cur, rfl, h1, (hB.block g (Array.getElem?_eq_some_iff.1 h2).1).trans h2, h3⟩
/-- the first loop's boxes: the answer so far, the bytes -/
structure LB (w : World) (r pb : Nat) (v : Value) (l : List Nat) (W : World) : Prop where
  r0 : W.cell? ⟨r, 0, none⟩ = some (.bool false)
  rf : W.frozen? ⟨r, 0, none⟩ = false
  b0 : W.cell? ⟨pb, 0, none⟩ = some v
  bf : W.frozen? ⟨pb, 0, none⟩ = false
  own : byt.Own W (pb + 1) v l.length l
  bel : Below w.heap.size w W
theorem LB.below {w W W' : World} {r pb : Nat} {v : Value} {l : List Nat} (h : LB w r pb v l W) (hB : Below W.heap.size W W') : LB w r pb v l W' :=
  ⟨keep_cell hB h.r0, keep_frozen hB h.r0 h.rf, keep_cell hB h.b0, keep_frozen hB h.b0 h.bf, own_stay h.own hB, h.bel.trans (hB.mono h.bel.size)⟩
/-- an append onto the bytes -/
theorem LB.more {w W W' : World} {r pb : Nat} {v v' : Value} {l k : List Nat} (h : LB w r pb v l W) (hr : r < pb) (hw : w.heap.size ≤ pb) (ho : byt.Own W' (pb + 1) v' (l ++ k).length (l ++ k)) (hg : W.grownBy W' v.ownBlock) : LB w r pb v' (l ++ k) (W'.setCell ⟨pb, 0, none⟩ v') := by
  have hge := fun b (e : v.ownBlock = some b) => (h.own.2.2.2.lt b e)
  have hpl := World.block_lt_of_cell? _ _ h.b0
  have hrl := World.block_lt_of_cell? _ _ h.r0
  have kp : ∀ b, b < pb + 1 → b < W.heap.size → W'.heap[b]? = W.heap[b]? := fun b hb hl => hg.block b hl (fun e => by have := (hge b e.symm).1; omega)
  have hB' : Below w.heap.size w W' := h.bel.grown hg (by have := h.bel.size; omega) (fun b e => by have := (hge b e).1; omega)
  have e1 := kp r (by omega) hrl
  have e2 := kp pb (by omega) hpl
  refine ⟨?_, ?_, ?_, ?_, ?_, hB'.setCell (p := ⟨pb, 0, none⟩) hw _⟩
  · rw [World.cell?_setCell_other _ _ _ _ (by intro e; injection e with e1; omega)]
    exact (World.cell?_of_block (a := ⟨r, 0, none⟩) e1).trans h.r0
  · rw [World.frozen?_setCell]; exact (World.frozen?_of_block (a := ⟨r, 0, none⟩) e1).trans h.rf
  · exact World.cell?_setCell_same' _ _ _ (by rw [(World.cell?_of_block (a := ⟨pb, 0, none⟩) e2).trans h.b0]; rfl)
  · rw [World.frozen?_setCell]; exact (World.frozen?_of_block (a := ⟨pb, 0, none⟩) e2).trans h.bf
  · exact own_set ho (by omega) _
/-- between two rounds: the answer so far, the bytes, the place -/
def SI (w : World) (r pb pa : Nat) (A' : Option Addr) (N c' : Nat) (bs : List Nat) (pre : List FY) (W : World) : Prop :=
  (W.cell? ⟨r, 0, none⟩ = some (.bool false) ∧ W.frozen? ⟨r, 0, none⟩ = false ∧ W.cell? ⟨pb, 0, none⟩ = some (.slice A' N c') ∧ W.cell? ⟨pa, 0, none⟩ = some (.int .i64 (endp pre : Nat)) ∧ W.frozen? ⟨pa, 0, none⟩ = false ∧ BL W A' N bs) ∧ Below w.heap.size w W
theorem SI.from_ {w : World} {r pb pa N c' C : Nat} {A' : Option Addr} {bs : List Nat} (hC : w.heap.size ≤ C) : OwnFrom C (SI w r pb pa A' N c' bs) := by
  rintro pre W W' row ⟨⟨h1, h2, h3, h4, h5, h6⟩, hB⟩ hg hrow
  have kr := fun r e => (hrow r e).2
  exact ⟨⟨cell_kept h1 hg kr, (frozen_kept h1 hg kr).trans h2, cell_kept h3 hg kr, cell_kept h4 hg kr, (frozen_kept h4 hg kr).trans h5, bl_kept h6 hg kr⟩, hB.grown hg hB.size (fun k e => Nat.le_trans hC (hrow k e).1)⟩
theorem SI.below {w W W' : World} {r pb pa N c' : Nat} {A' : Option Addr} {bs : List Nat} {pre : List FY} (h : SI w r pb pa A' N c' bs pre W) (hB : Below W.heap.size W W') : SI w r pb pa A' N c' bs pre W' := by
  obtain ⟨⟨h1, h2, h3, h4, h5, h6⟩, h7⟩ := h
  exact ⟨⟨keep_cell hB h1, keep_frozen hB h1 h2, keep_cell hB h3, keep_cell hB h4, keep_frozen hB h4 h5, h6.below hB⟩, h7.trans (hB.mono h7.size)⟩
theorem SI.next {w W : World} {r pb pa N c' : Nat} {A' : Option Addr} {bs : List Nat} {pre : List FY} (h : SI w r pb pa A' N c' bs pre W) (x : FY) (h1 : r ≠ pa) (h2 : pb ≠ pa) (h3 : ∀ z, A' = some z → z.block ≠ pa) (hw : w.heap.size ≤ pa) : SI w r pb pa A' N c' bs (pre ++ [x]) (W.setCell ⟨pa, 0, none⟩ (.int .i64 ((x.p : Int) + x.n))) := by
  obtain ⟨⟨q1, q2, q3, q4, q5, q6⟩, q7⟩ := h
  refine ⟨⟨?_, by rw [World.frozen?_setCell]; exact q2, ?_, ?_, by rw [World.frozen?_setCell]; exact q5, ?_⟩, q7.setCell (p := ⟨pa, 0, none⟩) hw _⟩
  · rw [World.cell?_setCell_other _ _ _ _ (by intro e; injection e with e1; omega)]; exact q1
  · rw [World.cell?_setCell_other _ _ _ _ (by intro e; injection e with e1; omega)]; exact q3
  · rw [endp_snoc]; exact World.cell?_setCell_same' _ _ _ (by rw [q4]; rfl)
  · refine ⟨q6.1, q6.2.1, q6.2.2.1, q6.2.2.2.imp id ?_⟩
    rintro ⟨b, off, e, hlt, hc⟩
    have hne : b ≠ pa := h3 _ e
    exact ⟨b, off, e, by simpa using hlt, fun i hi => by rw [World.cell?_setCell_other _ _ _ _ (by intro e; injection e with e1; exact hne e1.symm)]; exact hc i hi⟩
def fbox (x : FY) : Obj := .cells #[.int .i64 x.f.v, .int .i64 x.f.e, .int .i64 x.f.s, .int .i64 x.f.a, .slice x.A x.f.body.length x.c] 26
set_option maxRecDepth 100000 in
set_option maxHeartbeats 4000000 in
theorem scans (A : Option Addr) (n c : Nat) (ls : List frO.Fk) (tA : Option Addr) (tn tc : Nat) (t : List Nat) (w : World) (h1 : Rs w frO.QFk 5 A n ls) (ht : BL w tA tn t) (htn : tn ≤ 140737488351232) :
    Calls Try.prog 3 #[.slice A n c, .slice tA tn tc] w fun e w' => e = .returned (.bool true) ∧ Below w.heap.size w w' := by
  have hn9 := h1.2.1
  replace h1 := Lib.hid h1
  replace ht := Lib.hid ht
  obtain ⟨i0, hi, hz0, hz1, hz2⟩ := info_parts bytes8
  obtain ⟨w1, hw1⟩ : ∃ w1, w.alloc (.cells #[.bool false] 4) = w1 := ⟨_, rfl⟩
  have hB1 : Below w.heap.size w w1 := by rw [← hw1]; exact al0 _ _
  have c1 : w1.cell? ⟨w.heap.size, 0, none⟩ = some (.bool false) := by rw [← hw1]; exact cell_box w _ _
  have f1 : w1.frozen? ⟨w.heap.size, 0, none⟩ = false := by rw [← hw1]; exact frozen_box w _ _
  have hw1' := Lib.hid hw1
  have hB1' := Lib.hid hB1
  clear hw1 hB1
  refine (callsIn_wide (n := 6)).1 ?_
  refine callsIn_of_wp_marks Try.func3 rfl trivial ?_ rfl
  simp only [Try.ntmps3, List.size_toArray, List.length_cons, List.length_nil, Nat.reduceAdd, Nat.reduceSub, Array.replicate_succ, Array.replicate_zero, List.push_toArray, List.append_toArray, List.nil_append, List.cons_append]
  refine wpIn_wide.2 ?_
  go_wp2_with (fail)
  rw [hw1'.out]
  refine (awake_any w1).mono ?_
  rintro e w2 ⟨rfl, hB2⟩
  obtain ⟨w3, hw3⟩ : ∃ w3, w2.alloc (.cells #[.slice none 0 0] 23) = w3 := ⟨_, rfl⟩
  have hB3 : Below w2.heap.size w2 w3 := by rw [← hw3]; exact al0 _ _
  have hrl : w.heap.size < w2.heap.size := Nat.lt_of_lt_of_le (World.block_lt_of_cell? _ _ c1) hB2.size
  have hLB : Hid (LB w w.heap.size w2.heap.size (.slice none 0 0) [] w3) := Lib.hid
    ⟨keep_cell hB3 (keep_cell hB2 c1), keep_frozen hB3 (keep_cell hB2 c1) (keep_frozen hB2 c1 f1), by rw [← hw3]; exact cell_box _ _ _, by rw [← hw3]; exact frozen_box _ _ _, byt.Own.nil_ w3 _, hB1'.out.trans ((trans0 hB2 hB3).mono hB1'.out.size)⟩
  clear hB2 hB3 c1 f1 hw1'
  go_wp2
  generalize hpb : w2.heap.size = pb at *
  replace hpb := Lib.hid hpb
  go_loopw [23] (fun i wr => ∃ (k : Nat) (v : Value) (l : List Nat), k ≤ n ∧ k ≤ 40 ∧ i = .int .i64 k ∧ l.length ≤ 1021 * k ∧ Hid (LB w w.heap.size pb v l wr)) (fun i _ => n - (intOf i).toNat)
  case atStart => exact ⟨0, _, _, by omega, by omega, rfl, by simp, hLB⟩
  case round =>
    clear hLB hw3
    obtain ⟨k, v, l, hk, hk40, rfl, hl, hL⟩ := hrel
    by_cases hlt : k < n
    · obtain ⟨b, off, rfl, hbl, A4, c4, ⟨f0, f1, f2, f3, f4⟩, hkO⟩ : ∃ b off, A = some ⟨b, off, none⟩ ∧ b < w.heap.size ∧ frO.QFk w b (off + k * 5) (ls.getD k default) := by
        rcases h1.out.2.2 with h0 | ⟨b, off, e, h3, h4⟩
        · omega
        · exact ⟨b, off, e, h3, h4 k hlt⟩
      generalize ls.getD k default = M at *
      have ge : ∀ o, wr.cell? ⟨b, o, none⟩ = w.cell? ⟨b, o, none⟩ := fun o => hL.out.bel.cell (p := ⟨b, o, none⟩) hbl
      rw [← ge] at f0 f1 f2 f3 f4
      obtain ⟨fv, fe, fs, fa, l4⟩ := M
      simp only at f0 f1 f2 f3 f4
      have hbb := hkO.2.2.2.2.1
      simp only at hbb
      have hkI : (k : Int) < (n : Int) := by omega
      have hal := al0 wr (.cells #[.int .i64 fv, .int .i64 fe, .int .i64 fs, .int .i64 fa, .slice A4 l4.length c4] 26)
      obtain ⟨r0, r1, r2, r3, r4⟩ := row5 wr (.int .i64 fv) (.int .i64 fe) (.int .i64 fs) (.int .i64 fa) (.slice A4 l4.length c4) 26
      have hL5 := Lib.hid (hL.out.below hal)
      have hb5 := Lib.hid (hbb.below hL5.out.bel)
      clear ge hbb hal hkO
      generalize hW : wr.alloc (.cells #[.int .i64 fv, .int .i64 fe, .int .i64 fs, .int .i64 fa, .slice A4 l4.length c4] 26) = w5 at *
      by_cases hout : k = 40 ∨ 1000 < l4.length
      · have hE : Hid (w5.cell? ⟨w.heap.size, 0, none⟩ = some (.bool false) ∧ w5.frozen? ⟨w.heap.size, 0, none⟩ = false ∧ Below w.heap.size w w5) := Lib.hid ⟨hL5.out.r0, hL5.out.rf, hL5.out.bel⟩
        have hcs : ((k : Int) == 40) = true ∨ (((k : Int) == 40) = false ∧ (1000 : Int) < (l4.length : Int)) := by
          rcases hout with h | h
          · exact .inl (by rw [beq_iff_eq]; omega)
          · by_cases h4 : k = 40
            · exact .inl (by rw [beq_iff_eq]; omega)
            · exact .inr ⟨by rw [beq_eq_false_iff_ne]; omega, by omega⟩
        clear hL hL5 hb5 h1 hout ht
        rcases hcs with hk4 | ⟨hk4, hb4⟩
        all_goals
          go_wp2_with (fail)
          refine (awake_any w5).mono ?_
          rintro e w6 ⟨rfl, hB6⟩
          have t1 := keep_cell hB6 hE.out.1
          have t2 := keep_frozen hB6 hE.out.1 hE.out.2.1
          have hB7 := Lib.hid (hE.out.2.2.trans (hB6.mono hE.out.2.2.size))
          have hfin := Lib.hid (World.cell?_setCell_same' w6 ⟨w.heap.size, 0, none⟩ (.bool true) (by rw [t1]; rfl))
          clear hB6 hW r0 r1 r2 r3 r4 f0 f1 f2 f3 f4
          go_wp2
          refine ⟨.bool true, ?_, rfl, hB7.out.setCell (p := ⟨w.heap.size, 0, none⟩) (Nat.le_refl _) _⟩
          simp [results, Try.f3, go_sem, hfin.out]
      · have hk4 : ((k : Int) == 40) = false := by rw [beq_eq_false_iff_ne]; omega
        have hb4 : ¬ (1000 : Int) < (l4.length : Int) := by omega
        have hpk := Lib.hid (rpack_any ⟨fv, fe, fs, fa, l4⟩ A4 c4 w5 hb5.out)
        have hpl := pk_le ⟨fv, fe, fs, fa, l4⟩ (by show l4.length ≤ 1000; omega)
        obtain ⟨x, hx⟩ : ∃ x, pkL ⟨fv, fe, fs, fa, l4⟩ = x := ⟨_, rfl⟩
        rw [hx] at hpk hpl
        replace hx := Lib.hid hx
        clear hL h1
        generalize pkE ⟨fv, fe, fs, fa, l4⟩ = E at *
        go_wp2_with (fail)
        refine hpk.out.mono ?_
        rintro e w6 ⟨A6, c6, rfl, hO6, hB6⟩
        have hL6 := hL5.out.below hB6
        have g1 := hL6.b0
        have g2 := hL6.bf
        have hpb6 := World.block_lt_of_cell? _ _ g1
        have hx6 := Lib.hid (own_bl hO6)
        replace hL6 := Lib.hid hL6
        have hll := Lib.hid hL6.out.own.1
        clear hO6 hB6 hL5 hb5 hpk r0 r1 r2 r3 r4 hW f0 f1 f2 f3 f4
        go_wp2_with (at_builtin; refine wpList_app rfl (.tmp 42) (.tmp 43) 23 rfl (pb + 1) i0 Try.underlying23 hi hz0 hz1 hz2 v l.length l (by rfl) hL6.out.own A6 x.length c6 x (by rfl) hx6.out (by omega) (by omega) ?_; intro v' w7 ho7 hg7; obtain ⟨A', c', rfl, -⟩ := ho7.form; have hL7 := Lib.hid (hL6.out.more hrl (by omega) (by rw [List.length_append]; exact ho7) hg7); have s1 := (hg7.block pb hpb6 (fun e => by have := (hL6.out.own.2.2.2.lt pb e.symm).1; omega)); have s2 := (World.cell?_of_block (a := ⟨pb, 0, none⟩) s1).trans g1; have s3 := (World.frozen?_of_block (a := ⟨pb, 0, none⟩) s1).trans g2; clear ho7 hg7 s1)
        go_roundw
        case rel => exact ⟨k + 1, _, l ++ x, by omega, by omega, by go_num, by rw [List.length_append]; omega, hL7⟩
        case measure => simp [intOf]; omega
    · have hkn : k = n := by omega
      subst hkn
      have g1 := hL.out.b0
      have g2 := hL.out.bf
      have hpb6 : pb < wr.heap.size := World.block_lt_of_cell? _ _ g1
      have htw := Lib.hid (ht.out.below hL.out.bel)
      have hNb : l.length + tn ≤ 150000000000000 := by omega
      clear h1 ht hlt
      go_wp2_with (first
        | (at_builtin; refine wpList_app rfl (.tmp 46) (.tmp 47) 23 rfl (pb + 1) i0 Try.underlying23 hi hz0 hz1 hz2 v l.length l (by rfl) hL.out.own tA tn tc t (by rfl) htw.out (by omega) (by omega) ?_; intro v' w7 ho7 hg7; obtain ⟨A', c', rfl, hnc7, hc97, hnn7, -, hbl7⟩ := ho7.form; have htl := htw.out.1; have hL7 := Lib.hid (hL.out.more (k := t) hrl (by omega) (by rw [List.length_append, htl]; exact ho7) hg7); have s1 := (hg7.block pb hpb6 (fun e => by have := (hL.out.own.2.2.2.lt pb e.symm).1; omega)); have s2 := (World.cell?_of_block (a := ⟨pb, 0, none⟩) s1).trans g1; have s3 := (World.frozen?_of_block (a := ⟨pb, 0, none⟩) s1).trans g2; obtain ⟨w8, hw8⟩ : ∃ w8, w7.setCell ⟨pb, 0, none⟩ (.slice A' (l.length + tn) c') = w8 := ⟨_, rfl⟩; have hL8 := hL7.out; rw [hw8] at hL8; have g8 := hL8.b0; have g9 := keep_cell (al0 w8 (.cells #[.int .i64 0] 3)) g8; have hL8' := Lib.hid hL8; have hbl8 := Lib.hid (own_bl hL8.own); clear ho7 hg7 s1 hL8 hL7)
        | fail)
      have hNN : (l ++ t).length = l.length + tn := by rw [List.length_append, htl]
      have hbl9 := hbl8.out
      rw [hNN] at hbl9
      have hsz8 := hL8'.out.bel.size
      have hpb8 : pb < w8.heap.size := World.block_lt_of_cell? _ _ g8
      have hAb : ∀ z, A' = some z → z.block < w8.heap.size := fun z e => (hL8'.out.own.2.2.2.lt z.block (by rw [e]; rfl)).2
      obtain ⟨bs, hbs⟩ : ∃ bs, l ++ t = bs := ⟨_, rfl⟩
      obtain ⟨N, hN⟩ : ∃ N, l.length + tn = N := ⟨_, rfl⟩
      rw [hbs] at hbl9 hNN
      rw [hN] at hNN hbl9 hnc7 hNb g8 g9
      have hr8 := hL8'.out.r0
      have hr8f := hL8'.out.rf
      have hbel8 := hL8'.out.bel
      have hnn : A' = none → N = 0 := fun e => by
        rcases hbl9.2.2.2 with h0 | ⟨_, _, e2, _⟩
        · exact h0
        · rw [e] at e2; cases e2
      clear hL htw g1 g2 s2 s3 hw8 hL8' hbl8 hbl7 hnn7 htl hl hk40 hk
      simp only [hN]
      obtain ⟨w9, hw9⟩ : ∃ w9, w8.alloc (.cells #[.int .i64 0] 3) = w9 := ⟨_, rfl⟩
      have hB9 : Below w8.heap.size w8 w9 := by rw [← hw9]; exact al0 _ _
      have a9 : w9.cell? ⟨w8.heap.size, 0, none⟩ = some (.int .i64 0) := by rw [← hw9]; exact cell_box _ _ _
      have a9f : w9.frozen? ⟨w8.heap.size, 0, none⟩ = false := by rw [← hw9]; exact frozen_box _ _ _
      have s9 : w9.heap.size = w8.heap.size + 1 := by rw [← hw9]; simp
      rw [hw9] at g9 ⊢
      refine (scan_any A' N c' bs w9 (hbl9.below hB9) hnn hnc7 hNb).mono ?_
      rintro e w10 ⟨B, A2, c2, rfl, hI, hB10⟩
      have hB810 := trans0 hB9 hB10
      have hS10 : SI w w.heap.size pb w8.heap.size A' N c' bs [] w10 := ⟨⟨keep_cell hB810 hr8, keep_frozen hB810 hr8 hr8f, keep_cell hB10 g9, keep_cell hB10 a9, keep_frozen hB10 a9 a9f, (hbl9.below hB9).below hB10⟩, hbel8.trans (hB810.mono hbel8.size)⟩
      have hwl : w.heap.size ≤ w10.heap.size := hS10.2.size
      replace hS10 := Lib.hid hS10
      replace hI := Lib.hid hI
      clear hr8 hr8f g8 g9 a9 a9f hbl9 hbel8 hB9 hB10 hB810 hw9
      go_wp2
      refine (wpIn_wide (n := 6)).1 ?_
      refine' range_reads rfl (by omega) (gf := 13) (lb := #[.pointer (some ⟨B, 0, none⟩)]) rfl trivial (enters_of Try.func13 (by kernel_rfl) rfl)
        (scan_reads 5 (by omega) w9.heap.size w10.heap.size B bs.length c2 A2 bs w10 (Nat.le_refl _) hI.out) KS.trans (KS.book (Nat.le_refl _)) (fun _ => rfl)
        (SI w w.heap.size pb w8.heap.size A' N c' bs) (fun _ _ _ => False) (SI.from_ hwl) (fun _ _ _ _ _ h _ _ => h.elim) (fun pre => RF.from_ bs pre _) hS10.out fbox (KS.alloc _ _) _ ?assign ?body ?done ?stop
      case assign =>
        intro l x W b K hbe hK
        simp only [encs]
        unfold fbox at hK
        replace hbe := Lib.hid hbe
        gi_wp2
        rw [← hbe.out]
        exact hK
      case stop =>
        rintro D c pre W hD _ h _
        exact h.elim
      case body =>
        rintro l pre ⟨p, nn, f, A3, c3⟩ b W hb0 hb hSI ⟨⟨e1, e2, e3, e4, e5⟩, hbx⟩
        simp only at e1 e2 e3 e4 e5 hbx
        unfold fbox at hb
        have u0 := (cell_of_row W b 0 _ _ (0, 0) hb).trans (show _ = some (.int .i64 f.v) from rfl)
        have u1 := (cell_of_row W b 1 _ _ (0, 0) hb).trans (show _ = some (.int .i64 f.e) from rfl)
        have u2 := (cell_of_row W b 2 _ _ (0, 0) hb).trans (show _ = some (.int .i64 f.s) from rfl)
        have u3 := (cell_of_row W b 3 _ _ (0, 0) hb).trans (show _ = some (.int .i64 f.a) from rfl)
        have u4 := (cell_of_row W b 4 _ _ (0, 0) hb).trans (show _ = some (.slice A3 f.body.length c3) from rfl)
        have hSI' := Lib.hid hSI
        obtain ⟨⟨q1, q2, q3, q4, q5, q6⟩, q7⟩ := hSI
        rw [← e1] at q4
        have hpN : p ≤ N := by rw [← hNN]; exact e2
        have hsl := sl_at A' N c' p hpN
        have hfr := rfirst_any (frm A' c' p) (N - p) (c' - p) (bs.drop p) W (BL.from_ q6 p hpN hnc7) (by omega) (by omega)
        rw [e3, ← e4, ← e5] at hfr
        replace hfr := Lib.hid hfr
        have hbx' := Lib.hid hbx
        have hpa : w8.heap.size < W.heap.size := World.block_lt_of_cell? _ _ q4
        have hbl : b < W.heap.size := World.block_lt_of_cell? _ _ u0
        have hfit := fs_fit e3
        rw [← e5, List.length_drop] at hfit
        have hsum : p + nn ≤ bs.length := by omega
        clear hb e1 e2 e3 e4 e5 q6 q7 hS10 hI hbx hfit
        gi_wp2
        refine ⟨trivial, ?_⟩
        refine (CallsIn.inRound l (callsIn_wide.2 hfr.out)).mono ?_
        rintro e w' ⟨A5, c5, rfl, hO5, hB5⟩
        have hal := al0 w' (.cells #[.int .i64 f.v, .int .i64 f.e, .int .i64 f.s, .int .i64 f.a, .slice A5 f.body.length c5] 26)
        obtain ⟨o0, o1, o2, o3, o4⟩ := row5 w' (.int .i64 f.v) (.int .i64 f.e) (.int .i64 f.s) (.int .i64 f.a) (.slice A5 f.body.length c5) 26
        have hBV := trans0 hB5 hal
        have t0 := keep_cell hBV u0
        have t1 := keep_cell hBV u1
        have t2 := keep_cell hBV u2
        have t3 := keep_cell hBV u3
        have t4 := keep_cell hBV u4
        have hs5 := Lib.hid (same5 f A3 c3 A5 c5 _ (hbx'.out.below hBV) ((own_bl hO5).below hal))
        have hSV := hSI'.out.below hBV
        have v4 := keep_cell hBV q4
        have v5 := keep_frozen hBV q4 q5
        clear hO5 hB5 hal u0 u1 u2 u3 u4 q1 q2 q3 q4 q5
        generalize hV : w'.alloc (.cells #[.int .i64 f.v, .int .i64 f.e, .int .i64 f.s, .int .i64 f.a, .slice A5 f.body.length c5] 26) = V at *
        gi_wp2
        refine ⟨trivial, ?_⟩
        refine (CallsIn.inRound l (callsIn_wide.2 hs5.out)).mono ?_
        rintro e w11 ⟨rfl, hB11⟩
        have z4 := keep_cell hB11 v4
        have z5 := keep_frozen hB11 v4 v5
        have hfin := Lib.hid (show SI w w.heap.size pb w8.heap.size A' N c' bs (pre ++ [⟨p, nn, f, A3, c3⟩]) (w11.setCell ⟨w8.heap.size, 0, none⟩ (.int .i64 ((p : Int) + nn))) from
          SI.next (hSV.below hB11) ⟨p, nn, f, A3, c3⟩ (by omega) (by omega) (fun z e => by have := hAb z e; omega) hsz8)
        have hBW := trans0 hBV hB11
        have hko : KeepsOthers W w11 := ⟨hBW.size, fun k o hk ho => (hBW.block k (Array.getElem?_eq_some_iff.1 hk).1).trans hk⟩
        have hks := Lib.hid (show KS w9.heap.size w10.heap.size W (w11.setCell ⟨w8.heap.size, 0, none⟩ (.int .i64 ((p : Int) + nn))) from
          ⟨by rw [World.size_setCell]; exact hBW.size, fun e k g1 g2 => (Below.heap_setCell w11 ⟨w8.heap.size, 0, none⟩ _ k (show k ≠ w8.heap.size by omega)).trans (hBW.block k (by omega))⟩)
        have hkf := Lib.hid (hko.trans (KeepsOthers.setCell w11 ⟨w8.heap.size, 0, none⟩ (.int .i64 ((p : Int) + nn))))
        clear hB11 v4 v5 hSV hBV hBW hko hV t0 t1 t2 t3 t4 o0 o1 o2 o3 o4
        gi_wp2
        exact ⟨hkf.out, hks.out, hfin.out⟩
      case done =>
        rintro D ys W hD ⟨hne, hle⟩ ⟨⟨q1, q2, q3, q4, q5, q6⟩, q7⟩ hK
        obtain ⟨p, hp⟩ : ∃ p, endp ys = p := ⟨_, rfl⟩
        rw [hp] at hne hle q4
        have hpN : p ≤ N := by rw [← hNN]; exact hle
        have hsl := sl_at A' N c' p hpN
        have hfr := rfirst_any (frm A' c' p) (N - p) (c' - p) (bs.drop p) W (BL.from_ q6 p hpN hnc7) (by omega) (by omega)
        generalize fsE (bs.drop p) = E at *
        generalize fsF (bs.drop p) = F at *
        generalize fsN (bs.drop p) = M at *
        have hE0 : ((E : Int) != 0) = true := by rw [bne_iff_ne]; omega
        replace hfr := Lib.hid hfr
        clear hp hS10 hI q6 hle
        go_wp2_with (fail)
        refine hfr.out.mono ?_
        rintro e w' ⟨A5, c5, rfl, hO5, hB5⟩
        have hal := al0 w' (.cells #[.int .i64 F.v, .int .i64 F.e, .int .i64 F.s, .int .i64 F.a, .slice A5 F.body.length c5] 26)
        have hBV := trans0 hB5 hal
        have v1 := keep_cell hBV q1
        have v2 := keep_frozen hBV q1 q2
        have hKV : _ := (hBV.block D (Array.getElem?_eq_some_iff.1 hK).1).trans hK
        have hbV := q7.trans (hBV.mono q7.size)
        obtain ⟨V, hV⟩ : ∃ V, w'.alloc (.cells #[.int .i64 F.v, .int .i64 F.e, .int .i64 F.s, .int .i64 F.a, .slice A5 F.body.length c5] 26) = V := ⟨_, rfl⟩
        rw [hV] at v1 v2 hKV hbV
        replace hbV := Lib.hid hbV
        replace hKV := Lib.hid hKV
        replace hV := Lib.hid hV
        clear hO5 hB5 hal hBV q1 q2 q3 q4 q5 q7 hK
        go_wp2_with (fail)
        rw [hV.out]
        refine (awake_any V).mono ?_
        rintro e W1 ⟨rfl, hB1⟩
        have t1 := keep_cell hB1 v1
        have t2 := keep_frozen hB1 v1 v2
        have hKb : W1.heap[D]? = some (.deferred (some [])) := (hB1.block D (Array.getElem?_eq_some_iff.1 hKV.out).1).trans hKV.out
        have hB2 := Lib.hid (hbV.out.trans (hB1.mono hbV.out.size))
        replace hKb := Lib.hid hKb
        have hfin := Lib.hid (World.cell?_setCell_same' W1 ⟨w.heap.size, 0, none⟩ (.bool true) (by rw [t1]; rfl))
        clear hB1 v1 v2 hKV hbV
        go_wp2
        have hK' := (KeepsOthers.setCell W1 ⟨w.heap.size, 0, none⟩ (.bool true)).same D _ hKb.out rfl
        refine ⟨by simp, .inl ⟨_, _, rfl, run_takeDeferred hK', ?_⟩⟩
        have hc5 := cell_kept hfin.out (grownBy_putObj' _ D (.deferred none)) (fun r e => by cases e; exact ⟨_, hK', rfl⟩)
        refine ⟨.bool true, ?_, rfl, (hB2.out.setCell (p := ⟨w.heap.size, 0, none⟩) (Nat.le_refl _) _).trans (belowK_b (w := w) (Nat.le_refl _) _ D _ _ (by omega) hK' rfl rfl)⟩
        simp [results, Try.f3, go_sem, hc5]
end Go.Proofs.Ytgjgjnahdkoofaa.frQ
