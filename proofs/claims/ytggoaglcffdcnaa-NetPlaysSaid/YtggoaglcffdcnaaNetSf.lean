/- NetApart. -/
import Derived.Test.YtggoaglcffdcnaaNetSe
import Derived.Deep.CutBlock
namespace Go.Proofs.Ytggoaglcffdcnaa.netSf
open Go.ChangeShapes Go.WideShapes Go.ChangeAt Go.RowKit Go.Deep
open numM rowA byt numA numB numC opn netA netB netC netD netE netG netS netT netK netL netP netQ netR netRa netRb netRc netRd netRe netSa netX netSb netSc netSd netSe

/-- the rows of the one way -/
structure AI (f t : Int) (k : Nat) (sa sb : Ns) (dx dy : Dn) : Prop where
  ra : Rel sa dx
  rb : Rel sb dy
  la : sa.lost ≤ k
  lb : sb.lost ≤ k
  na : dx.row.length ≤ k
  nb : dy.row.length ≤ k
  way : IsWay f t → sa.row (wn f t) = sb.row (wn f t)
theorem AI.one {f t : Int} {k : Nat} {sa sb : Ns} {dx dy dx' : Dn} (h : AI f t k sa sb dx dy) (m : netO.Op) (hr : Rel (stepS m sa) dx') (hl : dx'.row.length ≤ dx.row.length + 1) (hn : ¬ (m.from_ = f ∧ m.to_ = t)) : AI f t (k + 1) (stepS m sa) sb dx' dy :=
  ⟨hr, h.rb, by have := stepS_lost m sa; have := h.la; omega, by have := h.lb; omega, by have := h.na; omega, by have := h.nb; omega, fun hw => by
    rw [stepS_other m sa fun hw2 e => hn ((wn_inj hw2 hw e.symm))]
    exact h.way hw⟩
theorem AI.two {f t : Int} {k : Nat} {sa sb : Ns} {dx dy dx' dy' : Dn} (h : AI f t k sa sb dx dy) (m : netO.Op) (hr : Rel (stepS m sa) dx') (hl : dx'.row.length ≤ dx.row.length + 1) (hr2 : Rel (stepS m sb) dy') (hl2 : dy'.row.length ≤ dy.row.length + 1) (e1 : m.from_ = f) (e2 : m.to_ = t) : AI f t (k + 1) (stepS m sa) (stepS m sb) dx' dy' :=
  ⟨hr, hr2, by have := stepS_lost m sa; have := h.la; omega, by have := stepS_lost m sb; have := h.lb; omega, by have := h.na; omega, by have := h.nb; omega, fun hw => by
    have := stepS_same m sa sb (by rw [e1, e2]; exact h.way hw)
    rw [e1, e2] at this
    exact this⟩
open Classical in
noncomputable def lenS (s : Ns) (f t : Int) : Nat := if IsWay f t then (s.row (wn f t)).length else 0
theorem len_all {col : Nat → Nat} {c p : Nat} {s : Ns} {w : World} (f t : Int) (h : NetAt col c w p s) : Calls Try.prog 12 #[.pointer (some ⟨p, 0, none⟩), .int .i64 f, .int .i64 t] w fun e w' => e = .returned (.int .i64 (lenS s f t)) ∧ w = w' := by
  unfold lenS
  by_cases hw : IsWay f t
  · rw [if_pos hw]; exact len_ok w h hw
  · rw [if_neg hw]; exact len_bad _ f t w (.inr ⟨⟨p, rfl⟩, hw⟩)
theorem rs_below {w w' : World} {A : Option Addr} {n : Nat} {ops : List netO.Op} (h : Rs w netO.QOp 7 A n ops) (hB : Below w.heap.size w w') : Rs w' netO.QOp 7 A n ops := by
  refine ⟨h.1, h.2.1, ?_⟩
  rcases h.2.2 with h0 | ⟨b, off, e, hlt, hq⟩
  · exact .inl h0
  · refine .inr ⟨b, off, e, Nat.lt_of_lt_of_le hlt hB.size, fun i hi => ?_⟩
    obtain ⟨A6, c6, ⟨f0, f1, f2, f3, f4, f5, f6⟩, hk⟩ := hq i hi
    have g := fun o => hB.cell (p := ⟨b, o, none⟩) hlt
    exact ⟨A6, c6, ⟨(g _).trans f0, (g _).trans f1, (g _).trans f2, (g _).trans f3, (g _).trans f4, (g _).trans f5, (g _).trans f6⟩, kop_below hk hB⟩
/-- one of the few, read -/
theorem few_at {wf W0 : World} {N cp g : Nat} {xs : List XO} (hO : W0.ownsRow wf.heap.size 32 7 (.slice (some ⟨g, 0, none⟩) N cp) N (fl XO.cs xs)) (hl : xs.length = N) {k : Nat} (hk : k < N) : ∃ x, xs[k]? = some x ∧
    (W0.cell? ⟨g, k * 7, none⟩ = some (.int .i64 x.m.kind) ∧ W0.cell? ⟨g, k * 7 + 1, none⟩ = some (.int .i64 x.m.from_) ∧ W0.cell? ⟨g, k * 7 + 2, none⟩ = some (.int .i64 x.m.to_) ∧ W0.cell? ⟨g, k * 7 + 3, none⟩ = some (.int .i64 x.m.i) ∧
     W0.cell? ⟨g, k * 7 + 4, none⟩ = some (.int .i64 x.m.at_) ∧ W0.cell? ⟨g, k * 7 + 5, none⟩ = some (.int .u8 x.m.mask) ∧ W0.cell? ⟨g, k * 7 + 6, none⟩ = some (.slice x.A x.m.body.length x.c)) := by
  have hx : xs[k]? = some xs[k] := List.getElem?_eq_getElem (by omega)
  refine ⟨_, hx, ?_⟩
  have h := fun (j : Nat) (u : Value) (hj : j < 7) (hu : (XO.cs xs[k])[j]? = some u) => (hO.cellAt (k * 7 + j) (by omega)).trans (fl_get XO.cs_len hx hu)
  exact ⟨h 0 _ (by omega) rfl, h 1 _ (by omega) rfl, h 2 _ (by omega) rfl, h 3 _ (by omega) rfl, h 4 _ (by omega) rfl, h 5 _ (by omega) rfl, h 6 _ (by omega) rfl⟩
/-- a packet of the one and the same packet of the other -/
theorem AP.looks {W0 wx : World} {col0 : Nat → Nat} {a x b y : Nat} {sa sb : Ns} {dx dy : Dn} {f t : Int} (h : AP W0 col0 a x b y wx sa sb dx dy) (hway : IsWay f t → sa.row (wn f t) = sb.row (wn f t)) {k : Nat} (hk : k < lenS sa f t) :
    ∃ (l : List Nat) (sp : Bool), Calls Try.prog 17 #[.pointer (some ⟨a, 0, none⟩), .int .i64 f, .int .i64 t, .int .i64 k] wx (fun e w' => ∃ A cp, e = .returned (.tuple #[.agg #[.slice A l.length cp, .bool sp], .int .i64 0]) ∧ BL w' A l.length l ∧ Below wx.heap.size wx w') ∧
      ∀ w1, Below wx.heap.size wx w1 → Calls Try.prog 17 #[.pointer (some ⟨b, 0, none⟩), .int .i64 f, .int .i64 t, .int .i64 k] w1 (fun e w' => ∃ A cp, e = .returned (.tuple #[.agg #[.slice A l.length cp, .bool sp], .int .i64 0]) ∧ BL w' A l.length l ∧ Below w1.heap.size w1 w') := by
  by_cases hw : IsWay f t
  · have e1 : lenS sa f t = (sa.row (wn f t)).length := if_pos hw
    obtain ⟨col, h1, h2, h3, h4, h5, h6⟩ := h
    have e2 : pkt sb (wn f t) k = pkt sa (wn f t) k := by unfold pkt; rw [hway hw]
    refine ⟨(pkt sa (wn f t) k).1, (pkt sa (wn f t) k).2, (look_ok k wx h3 hw (by omega)).mono ?_, fun w1 hB => ((look_ok k w1 (h5.below hB) hw (by rw [← hway hw]; omega))).mono ?_⟩
    · rintro e w' ⟨A, cp, rfl, g1, g2⟩
      exact ⟨A, cp, rfl, own_bl g1, g2⟩
    · rintro e w' ⟨A, cp, rfl, g1, g2⟩
      rw [e2] at g1 ⊢
      exact ⟨A, cp, rfl, own_bl g1, g2⟩
  · have e1 : lenS sa f t = 0 := if_neg hw
    omega
theorem AP.len48 {W0 wx : World} {col0 : Nat → Nat} {a x b y : Nat} {sa sb : Ns} {dx dy : Dn} {f t : Int} (h : AP W0 col0 a x b y wx sa sb dx dy) : lenS sa f t ≤ 48 := by
  obtain ⟨col, h1, h2, h3, -⟩ := h
  unfold lenS
  split
  · rename_i hw
    exact (h3.cell (wn_lt hw)).2.choose_spec.choose_spec.2
  · omega
theorem AP.lens {W0 wx : World} {col0 : Nat → Nat} {a x b y : Nat} {sa sb : Ns} {dx dy : Dn} {f t : Int} (h : AP W0 col0 a x b y wx sa sb dx dy) (hway : IsWay f t → sa.row (wn f t) = sb.row (wn f t)) :
    Calls Try.prog 12 #[.pointer (some ⟨a, 0, none⟩), .int .i64 f, .int .i64 t] wx (fun e w' => e = .returned (.int .i64 (lenS sa f t)) ∧ wx = w') ∧
    Calls Try.prog 12 #[.pointer (some ⟨b, 0, none⟩), .int .i64 f, .int .i64 t] wx (fun e w' => e = .returned (.int .i64 (lenS sa f t)) ∧ wx = w') := by
  obtain ⟨col, h1, h2, h3, h4, h5, h6⟩ := h
  have e1 : lenS sb f t = lenS sa f t := by
    unfold lenS
    by_cases hw : IsWay f t
    · rw [if_pos hw, if_pos hw, hway hw]
    · rw [if_neg hw, if_neg hw]
  refine ⟨len_all f t h3, ?_⟩
  rw [← e1]
  exact len_all f t h5
set_option maxRecDepth 100000 in
set_option maxHeartbeats 4000000 in
theorem apart_any (A : Option Addr) (n c : Nat) (ops : List netO.Op) (f t : Int) (w : World) (h1 : Rs w netO.QOp 7 A n ops) :
    Calls Try.prog 4 #[.slice A n c, .int .i64 f, .int .i64 t] w fun e w' => e = .returned (.bool true) ∧ Below w.heap.size w w' := by
  replace h1 := Lib.hid h1
  go_enter Try.func4, Try.ntmps4
  go_wp2_with (fail)
  refine (new_any w).mono ?_
  rintro e w1 ⟨rfl, hB1, l1, n1⟩
  have n1' := Lib.hid n1
  have hB1' := Lib.hid hB1
  clear n1 hB1
  go_wp2_with (fail)
  refine (new_any w1).mono ?_
  rintro e w2 ⟨rfl, hB2, l2, n2⟩
  have hst := Lib.hid (fun W0 hB0 => AP.start (W0 := W0) hB1'.out l1 n1'.out hB2 l2 n2 hB0)
  have hBf := Lib.hid (trans0 (trans0 (trans0 hB1'.out hB2) (al0 w2 (.cells #[.slice none 0 0, .int .i64 0] 28))) (al0 _ (.cells #[.slice none 0 0, .int .i64 0] 28)))
  clear hB2 n2 n1' hB1'
  go_wp2_with (fail)
  refine (few_any A n c ops 100 (by omega) w _ hBf.out h1.out).mono ?_
  rintro e W0 ⟨v, N, rfl, hN, hF⟩
  obtain ⟨xs, hxl, hO, hX, hBW⟩ := hF
  have hbs : ((w2.alloc (.cells #[.slice none 0 0, .int .i64 0] 28)).alloc (.cells #[.slice none 0 0, .int .i64 0] 28)).heap.size = w2.heap.size + 2 := by simp
  obtain ⟨col0, hbase, hc0, hP⟩ := hst.out W0 hBW
  obtain ⟨A9, c9, rfl, hnc, hc9⟩ := own_form hO
  have hgx : Hid (0 < N → ∃ g, A9 = some ⟨g, 0, none⟩ ∧ g < W0.heap.size ∧ col0 g = 0 ∧ ∀ k, k < N → ∃ x, xs[k]? = some x ∧
      (W0.cell? ⟨g, k * 7, none⟩ = some (.int .i64 x.m.kind) ∧ W0.cell? ⟨g, k * 7 + 1, none⟩ = some (.int .i64 x.m.from_) ∧ W0.cell? ⟨g, k * 7 + 2, none⟩ = some (.int .i64 x.m.to_) ∧ W0.cell? ⟨g, k * 7 + 3, none⟩ = some (.int .i64 x.m.i) ∧
       W0.cell? ⟨g, k * 7 + 4, none⟩ = some (.int .i64 x.m.at_) ∧ W0.cell? ⟨g, k * 7 + 5, none⟩ = some (.int .u8 x.m.mask) ∧ W0.cell? ⟨g, k * 7 + 6, none⟩ = some (.slice x.A x.m.body.length x.c))) := Lib.hid fun h0 => by
    rcases hO.2 with ⟨e, -⟩ | ⟨g, cap', cur, e, -⟩
    · exfalso
      have : N = 0 := (Value.slice.inj e).2.1
      omega
    · have e1 : A9 = some ⟨g, 0, none⟩ := by cases e; rfl
      have hlt := hO.lt g (by rw [e1]; rfl)
      subst e1
      exact ⟨g, rfl, hlt.2, hc0 g (by omega), fun k hk => few_at hO hxl hk⟩
  have hP' := Lib.hid hP
  have hX' := Lib.hid hX
  have hb' := Lib.hid hbase
  clear hO hX hP hst hBf hc0 hBW hbs hbase h1 hc9 hnc
  go_wp2
  generalize hpa : w.heap.size = pa at *
  generalize w1.heap.size = pb at *
  generalize w2.heap.size = px at *
  go_loopw [29] (fun i wr => ∃ (k : Nat) (sa sb : Ns) (dx dy : Dn), k ≤ N ∧ i = .int .i64 k ∧ Hid (AP W0 col0 pa px pb (px + 1) wr sa sb dx dy) ∧ Hid (AI f t k sa sb dx dy)) (fun i _ => N - (intOf i).toNat)
  case atStart => exact ⟨0, _, _, _, _, by omega, rfl, hP', Lib.hid ⟨Rel.new, Rel.new, Nat.le_refl _, Nat.le_refl _, Nat.le_refl _, Nat.le_refl _, fun _ => rfl⟩⟩
  case round =>
    obtain ⟨k, sa, sb, dx, dy, hk, rfl, hA, hI⟩ := hrel
    clear hP'
    by_cases hlt : k < N
    · obtain ⟨g, rfl, hg1, hg2, hxs⟩ := hgx.out (by omega)
      obtain ⟨o, hxo, f0, f1, f2, f3, f4, f5, f6⟩ := hxs k hlt
      have hok := hX'.out o (List.mem_of_getElem? hxo)
      have hI' := hI.out
      obtain ⟨dx', q1, q2, q3⟩ := AP.first hb'.out hA.out o hok hI'.ra (by have := hI'.la; omega) (by have := hI'.na; omega)
      unfold netO.cOp at q3
      have hQ := Lib.hid q3
      have q1' := Lib.hid q1
      have ge : ∀ z, wr.cell? ⟨g, z, none⟩ = W0.cell? ⟨g, z, none⟩ := fun z => World.cell?_of_block (a := ⟨g, z, none⟩) (AP.block hA.out hg1 hg2)
      rw [← ge] at f0 f1 f2 f3 f4 f5 f6
      obtain ⟨r0, r1, r2, r3, r4, r5, r6⟩ := row7 wr (.int .i64 o.m.kind) (.int .i64 o.m.from_) (.int .i64 o.m.to_) (.int .i64 o.m.i) (.int .i64 o.m.at_) (.int .u8 o.m.mask) (.slice o.A o.m.body.length o.c) 32
      have hkI : (k : Int) < (N : Int) := by omega
      have hok' := Lib.hid hok
      have hII := Lib.hid hI'
      clear ge hxs hok hxo q3 q1 hI' hI hgx hX'
      generalize hW : wr.alloc (.cells #[.int .i64 o.m.kind, .int .i64 o.m.from_, .int .i64 o.m.to_, .int .i64 o.m.i, .int .i64 o.m.at_, .int .u8 o.m.mask, .slice o.A o.m.body.length o.c] 32) = w5 at *
      go_wp2_with (fail)
      refine hQ.out.mono ?_
      rintro e w6 ⟨rfl, hA6, ⟨s0, s1, s2, s3, s4, s5, s6⟩, s7⟩
      have hA6' := Lib.hid hA6
      clear hQ f0 f1 f2 f3 f4 f5 f6 r0 r1 r2 r3 r4 r5 r6 hW hA hA6
      by_cases e1 : o.m.from_ = f
      · by_cases e2 : o.m.to_ = t
        · obtain ⟨dy', p1, p2, p3⟩ := AP.second hb'.out hA6'.out o hok'.out hII.out.rb (by have := hII.out.lb; omega) (by have := hII.out.nb; omega)
          unfold netO.cOp at p3
          have hQ2 := Lib.hid p3
          have hN := Lib.hid (hII.out.two o.m q1'.out q2 p1 p2 e1 e2)
          have b1 : (o.m.from_ == f) = true := by rw [beq_iff_eq]; exact e1
          have b2 : (o.m.to_ == t) = true := by rw [beq_iff_eq]; exact e2
          clear p1 p2 p3 hII hA6' q1' q2 hok' hb' e1 e2
          go_wp2_with (fail)
          refine hQ2.out.mono ?_
          rintro e w7 ⟨rfl, hA7⟩
          have hA7' := Lib.hid hA7
          clear hQ2 hA7 s0 s1 s2 s3 s4 s5 s6 s7
          go_wp2
          go_roundw
          case rel => exact ⟨k + 1, _, _, _, _, by omega, by go_num, hA7', hN⟩
          case measure => simp [intOf]; omega
        · have hN := Lib.hid (hII.out.one o.m q1'.out q2 (fun e => e2 e.2))
          have b1 : (o.m.from_ == f) = true := by rw [beq_iff_eq]; exact e1
          have b2 : (o.m.to_ == t) = false := by rw [beq_eq_false_iff_ne]; exact e2
          clear hII q1' q2 hok' hb' e1 e2
          go_wp2
          go_roundw
          case rel => exact ⟨k + 1, _, _, _, _, by omega, by go_num, hA6', hN⟩
          case measure => simp [intOf]; omega
      · have hN := Lib.hid (hII.out.one o.m q1'.out q2 (fun e => e1 e.1))
        have b1 : (o.m.from_ == f) = false := by rw [beq_eq_false_iff_ne]; exact e1
        clear hII q1' q2 hok' hb' e1
        go_wp2
        go_roundw
        case rel => exact ⟨k + 1, _, _, _, _, by omega, by go_num, hA6', hN⟩
        case measure => simp [intOf]; omega
    · have hkN : k = N := by omega
      subst hkN
      have hway := hI.out.way
      obtain ⟨la, lb⟩ := AP.lens hA.out hway
      have hL48 := AP.len48 (f := f) (t := t) hA.out
      have la' := Lib.hid la
      have lb' := Lib.hid lb
      have hlk := Lib.hid (fun (wx : World) (h : AP W0 col0 pa px pb (px + 1) wx sa sb dx dy) (k : Nat) (hk : k < lenS sa f t) => AP.looks h hway hk)
      clear hI hgx hX' hlt la lb hway
      generalize lenS sa f t = L at *
      go_wp2_with (first
        | (go_at_call 12; ((with_reducible refine (la'.out).mono ?_); rintro e w' ⟨rfl, rfl⟩))
        | (go_at_call 12; ((with_reducible refine (lb'.out).mono ?_); rintro e w' ⟨rfl, rfl⟩)))
      clear la' lb'
      go_loopw [63] (fun i w8 => ∃ k : Nat, k ≤ L ∧ i = .int .i64 k ∧ Hid (AP W0 col0 pa px pb (px + 1) w8 sa sb dx dy)) (fun i _ => L - (intOf i).toNat)
      case atStart => exact ⟨0, by omega, rfl, hA⟩
      case round =>
        clear hA
        obtain ⟨k, hk, rfl, hA⟩ := hrel
        by_cases hlt : k < L
        · obtain ⟨l, sp, c1, c2⟩ := hlk.out _ hA.out k hlt
          have hkI : (k : Int) < (L : Int) := by omega
          replace c1 := Lib.hid c1
          replace c2 := Lib.hid c2
          go_wp2_with (fail)
          refine c1.out.mono ?_
          rintro e w9 ⟨A1, cp1, rfl, g1, g2⟩
          have hBo := al0 w9 (.cells #[.slice A1 l.length cp1, .bool sp] 45)
          have o0 := (cell_of_row _ _ 0 _ 45 (0, 0) (heap_alloc_new w9 (.cells #[.slice A1 l.length cp1, .bool sp] 45))).trans (show _ = some (.slice A1 l.length cp1) from rfl)
          have o1 := (cell_of_row _ _ 1 _ 45 (0, 0) (heap_alloc_new w9 (.cells #[.slice A1 l.length cp1, .bool sp] 45))).trans (show _ = some (.bool sp) from rfl)
          have ol : w9.heap.size < (w9.alloc (.cells #[.slice A1 l.length cp1, .bool sp] 45)).heap.size := by simp
          have d2 := Lib.hid (c2.out _ (trans0 g2 hBo))
          have hA2 := Lib.hid (hA.out.below (trans0 g2 hBo))
          have g1' := Lib.hid (g1.below hBo)
          clear hBo g1 g2 c1 c2 hA
          generalize hW : w9.alloc (.cells #[.slice A1 l.length cp1, .bool sp] 45) = w10 at *
          go_wp2_with (fail)
          refine d2.out.mono ?_
          rintro e w11 ⟨A2, cp2, rfl, g3, g4⟩
          have hBo := al0 w11 (.cells #[.slice A2 l.length cp2, .bool sp] 45)
          have hB2 := trans0 g4 hBo
          have t0 := (cell_of_row _ _ 0 _ 45 (0, 0) (heap_alloc_new w11 (.cells #[.slice A2 l.length cp2, .bool sp] 45))).trans (show _ = some (.slice A2 l.length cp2) from rfl)
          have t1 := (cell_of_row _ _ 1 _ 45 (0, 0) (heap_alloc_new w11 (.cells #[.slice A2 l.length cp2, .bool sp] 45))).trans (show _ = some (.bool sp) from rfl)
          have u0 := (hB2.cell (p := ⟨w9.heap.size, 0, none⟩) ol).trans o0
          have u1 := (hB2.cell (p := ⟨w9.heap.size, 1, none⟩) ol).trans o1
          have hA3 := Lib.hid (hA2.out.below hB2)
          have hs := Lib.hid (same_any A1 l.length cp1 l A2 l.length cp2 _ (g1'.out.below hB2) (g3.below hBo))
          clear hBo hB2 g3 g4 d2 hA2 g1' hW o0 o1 ol
          generalize hW : w11.alloc (.cells #[.slice A2 l.length cp2, .bool sp] 45) = w12 at *
          go_wp2_with (go_at_call 18; ((with_reducible refine (hs.out).mono ?_); rintro e w' ⟨rfl, rfl⟩))
          go_roundw
          case rel => exact ⟨k + 1, by omega, by go_num, hA3⟩
          case measure => simp [intOf]; omega
        · have hkL : k = L := by omega
          subst hkL
          have hB9 := Lib.hid (AP.base hb'.out hA.out)
          clear hA hlk hb' hlt
          go_wp2_with (fail)
          refine (awake_any _).mono ?_
          rintro e w9 ⟨rfl, hB10⟩
          have hR := Lib.hid (hB9.out.trans (hB10.mono hB9.out.size))
          clear hB9 hB10
          go_wp2
          go_ret
          exact ⟨rfl, hR.out⟩
end Go.Proofs.Ytggoaglcffdcnaa.netSf
