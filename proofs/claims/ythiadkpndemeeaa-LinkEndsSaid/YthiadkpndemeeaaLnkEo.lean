/- LinkEnds, walked. -/
import Derived.Test.YthiadkpndemeeaaLnkEn
namespace Go.Proofs.Ythiadkpndemeeaa.lnkEo
open Go.ChangeShapes Go.WideShapes Go.ChangeAt Go.RowKit Go.Deep
open numM rowA byt numA numB numC lnkA lnkB lnkC lnkD lnkE lnkF lnkG lnkH lnkI lnkJ lnkP lnkL lnkQ lnkR lnkS lnkT lnkV lnkW lnkX lnkZ lnkY lnkN lnkU lnkOn lnkEn

abbrev SQ (t pa : Nat) (v3 v4 : Value) (w : World) : Prop :=
  w.cell? ⟨t, 0, none⟩ = some (.pointer (some ⟨pa, 0, none⟩)) ∧ w.cell? ⟨t, 3, none⟩ = some v3 ∧ w.cell? ⟨t, 4, none⟩ = some v4
theorem SQ.below {t pa : Nat} {v3 v4 : Value} {w w1 : World} (h : SQ t pa v3 v4 w) (hB : Below w.heap.size w w1) : SQ t pa v3 v4 w1 := by
  have hlt := World.block_lt_of_cell? _ _ h.1
  have e : ∀ i, w1.cell? ⟨t, i, none⟩ = w.cell? ⟨t, i, none⟩ := fun i => hB.cell (p := ⟨t, i, none⟩) hlt
  unfold SQ
  rw [e, e, e]; exact h
theorem trans0 {b : Nat} {w w1 w2 : World} (h : Below b w w1) (h2 : Below w1.heap.size w1 w2) (hb : b ≤ w.heap.size) : Below b w w2 := h.trans (h2.mono (by have := h.size; omega))
set_option maxRecDepth 100000 in
set_option maxHeartbeats 4000000 in
theorem ends (ep : Int) (A : Option Addr) (n c : Nat) (ms : List Mw) (w : World) (h1 : Rs w QM 3 A n ms) :
    Calls Try.prog 5 #[.int .i64 ep, .slice A n c] w fun e w' => e = .returned (.bool true) ∧ Below w.heap.size w w' := by
  have hn9 := h1.2.1
  replace h1 := Lib.hid h1
  obtain ⟨j0, hj0, jz0, jz1, jz2⟩ := info_parts info24
  go_enter Try.func5, Try.ntmps5
  go_wp2_with (fail)
  refine (new_any ep w).mono ?_
  rintro e w1 ⟨pa, rfl, hB1, -, -, hc1⟩
  replace hB1 := Lib.hid hB1
  replace hc1 := Lib.hid hc1
  go_wp2_with (fail)
  refine (new_any ep w1).mono ?_
  rintro e w2 ⟨pb, rfl, hB2, -, -, hc2⟩
  have hT := Lib.hid (two_new hB1.out hB2 hc1.out hc2)
  clear hB1 hc1 hB2 hc2
  go_wp2
  generalize w2.alloc (.cells #[.pointer (some ⟨pa, 0, none⟩), .pointer (some ⟨pb, 0, none⟩), .slice none 0 0, .slice none 0 0, .slice none 0 0] 52) = W2 at *
  generalize w2.heap.size = tt at *
  go_loopw [6] (fun i wr => ∃ (k : Nat) (x : Tw), k ≤ n ∧ k ≤ 150 ∧ i = .int .i64 k ∧ Hid (TwoAt w wr tt x) ∧ Hid (GoodT x k)) (fun i _ => n - (intOf i).toNat)
  case atStart => exact ⟨0, x0 ep, by omega, by omega, rfl, hT, GoodT.new ep⟩
  case round =>
    clear hT
    obtain ⟨k, x, hk, hk3, rfl, hT, hG⟩ := hrel
    by_cases hlt : k < n ∧ k < 150
    · obtain ⟨hlt, h150⟩ := hlt
      obtain ⟨b, off, rfl, hbl, B, cB, ⟨f0, f1, f2⟩, hbb, hbc, hbm⟩ : ∃ b off, A = some ⟨b, off, none⟩ ∧ b < w.heap.size ∧ QM w b (off + k * 3) (ms.getD k default) := by
        rcases h1.out.2.2 with h0 | ⟨b, off, e, h3, h4⟩
        · omega
        · exact ⟨b, off, e, h3, h4 k hlt⟩
      generalize ms.getD k default = M at *
      obtain ⟨kind, at_, l⟩ := M
      simp only at f0 f1 f2 hbb hbc
      have hBw := two_bel hT.out
      have ge : ∀ o, wr.cell? ⟨b, o, none⟩ = w.cell? ⟨b, o, none⟩ := fun o => hBw.cell (p := ⟨b, o, none⟩) hbl
      rw [← ge] at f0 f1 f2
      obtain ⟨L, T, hLT, hL100, hbT, hcT⟩ : ∃ (L : Nat) (T : List Nat), T.length = L ∧ L ≤ 100 ∧ BL w B L T ∧ ((l.length ≤ 100 ∧ L = l.length) ∨ (100 < l.length ∧ L = 100)) := by
        by_cases e : l.length ≤ 100
        · exact ⟨l.length, l, rfl, e, hbb, .inl ⟨e, rfl⟩⟩
        · exact ⟨100, l.take 100, by rw [List.length_take]; omega, by omega, hbb.take 100 (by omega), .inr ⟨by omega, rfl⟩⟩
      subst hLT
      have hlt3 := Lib.hid (bl_lt hbT)
      have hbr := Lib.hid (hbT.below hBw)
      have hl9 := hbb.2.1
      clear ge hbb hbT
      generalize hLl : l.length = Ll at *
      generalize hTl : T.length = Tl at *
      replace hTl := Lib.hid hTl
      clear hLl
      rcases hcT with ⟨c1, rfl⟩ | ⟨c1, rfl⟩
      all_goals
        have hal := Lib.hid (fun (kd : Int) v => al0 wr (.cells #[.int .i64 kd, .int .i64 at_, v] 54))
        go_wp2_with (fail)
        rw [← hTl.out]
        refine (do_any ⟨_, at_, T⟩ B cB (two_step hT.out (hal.out _ _)) hG.out (by omega) (by rw [hTl.out]; exact hbr.out.below (hal.out _ _)) (by rw [hTl.out]; omega) (by rw [hTl.out]; exact hlt3.out)).mono ?_
        rintro e w5 ⟨rfl, hT5, hG5⟩
        replace hT5 := Lib.hid hT5
        replace hG5 := Lib.hid hG5
        clear hT hG hbr hal hTl
        go_wp2
        go_roundw
        case rel => exact ⟨k + 1, _, by omega, by omega, by go_num, hT5, hG5⟩
        case measure => simp [intOf]; omega
    · have hq : k = n ∨ (k = 150 ∧ 150 < n) := by omega
      have hsl := hG.out.sl
      have hG0 : Hid (GoodT x 150) := Lib.hid (hG.out.more hk3)
      replace hsl : x.sent.length ≤ 150 := by omega
      clear hlt hG
      rcases hq with q | ⟨q, q2⟩
      all_goals
        subst q
        go_wp2
        go_loopw [58] (fun i wr => ∃ (r : Nat) (x : Tw) (N : Nat), r ≤ 12 ∧ N ≤ 150 + 17 * r ∧ i = .int .i64 r ∧ Hid (TwoAt w wr tt x) ∧ Hid (GoodT x N) ∧ x.sent.length ≤ 150 ∧ min x.sent.length (16 * r) ≤ x.a.acked) (fun i _ => 12 - (intOf i).toNat)
        case atStart => exact ⟨0, x, 150, by omega, by omega, rfl, hT, hG0, hsl, by omega⟩
        case round =>
          clear hT hG0 hsl
          obtain ⟨r, x, N, hr, hN, rfl, hT, hG, hL, hA⟩ := hrel
          by_cases hlt : r < 12
          · obtain ⟨col, pa, pb, vr, vs, vc, css, xs, xc, hI⟩ := hT.out
            obtain ⟨z0, -, -, -, -⟩ := hI.cells
            replace hI := Lib.hid hI
            clear hT
            go_wp2_with (fail)
            refine (out_any wr hI.out.a).mono ?_
            rintro e w3 ⟨v3, rfl, hR3, hB3⟩
            obtain ⟨g, rfl, hlo, hlt2, hat⟩ := FR.at hR3
            have hN16 : outN x.a ≤ 16 := by unfold outN; omega
            have hT3 := Lib.hid (hI.out.below hB3)
            have hcg : Hid (∀ q, wr.heap.size ≤ q → col q = 0) := Lib.hid hI.out.fresh
            replace hat := Lib.hid hat
            clear hR3 hB3 hI z0
            go_wp2
            go_loopw [66] (fun i wr => ∃ k : Nat, k ≤ outN x.a ∧ i = .int .i64 k ∧ Hid (∃ col' vc' xc', Ext w3 col col' ∧ (∀ q, q < w3.heap.size → col q = 0 → wr.heap[q]? = w3.heap[q]?) ∧ w3.heap.size ≤ wr.heap.size ∧ TwoIs col' w wr tt (xF x k) pa pb vr vs vc' css xs xc')) (fun i _ => outN x.a - (intOf i).toNat)
            case atStart => exact ⟨0, by omega, rfl, col, vc, xc, Ext.refl _ _, fun _ _ _ => rfl, Nat.le_refl _, hT3.out⟩
            case round =>
              clear hT3
              obtain ⟨k, hk, rfl, hrel2⟩ := hrel
              by_cases hlt3 : k < outN x.a
              · obtain ⟨col1, vc1, xc1, hx1, hk1, hs1, hT1⟩ := hrel2.out
                obtain ⟨B, cB, ⟨f0, f1, f2, f3, f4⟩, hO⟩ := hat.out k hlt3
                have hg0 := hk1 g hlt2 (hcg.out g hlo)
                have ge : ∀ o, wr.cell? ⟨g, o, none⟩ = w3.cell? ⟨g, o, none⟩ := fun o => World.cell?_of_block (a := ⟨g, o, none⟩) hg0
                rw [← ge] at f0 f1 f2 f3 f4
                have hO1 : Own wr (g + 1) (.slice B (outF x.a k).body.length cB) (outF x.a k).body.length (outF x.a k).body := ⟨hO.1, hO.2.1, hO.2.2.1, own_block hO.2.2.2 (fun q e => by have := hO.2.2.2.lt q e; exact hk1 q this.2 (hcg.out q (by omega)))⟩
                have hdat : Dat col1 wr (.slice B (outF x.a k).body.length cB) (outF x.a k).body := ⟨B, cB, rfl, own_bl hO1, .inr fun y e => by subst e; have := hO.2.2.2.lt y.block rfl; exact ⟨(hx1 _ this.2).trans (hcg.out _ (by omega)), by omega⟩⟩
                have hB8 := al0 wr (.cells (cf (outF x.a k) B cB) 31)
                have hT8 := hT1.below hB8
                have hd8 := hdat.go (Chg.of_below col1 99 hB8) (by decide) (Ext.refl _ _)
                obtain ⟨p0, p1, p2, p3, p4⟩ := FB.cells (cfrow wr (outF x.a k) B cB)
                have hk8 : Hid (∀ q, q < w3.heap.size → col q = 0 → (wr.alloc (.cells (cf (outF x.a k) B cB) 31)).heap[q]? = w3.heap[q]?) := Lib.hid fun q hq hc => (hB8.block q (by omega)).trans (hk1 q hq hc)
                have hs8 : Hid (w3.heap.size ≤ (wr.alloc (.cells (cf (outF x.a k) B cB) 31)).heap.size) := Lib.hid (by have := hB8.size; omega)
                have hok := Lib.hid (xF_ok hG.out (by omega) hlt3)
                have hnx := Lib.hid (xF_all hG.out (k := k + 1) (by omega))
                have hbc := hok.out.2.1.bcn
                have hcm := hok.out.2.1.same.1
                have hcm2 := hnx.out.same.1
                rw [(xF_same x k).2.1] at hcm
                rw [(xF_same x (k + 1)).2.1] at hcm2
                have hX : Hid (({ xF x k with b := inS (xF x k).b (outF x.a k), came := (xF x k).came ++ inL (xF x k).b (outF x.a k) } : Tw) = xF x (k + 1)) := Lib.hid rfl
                replace hcm2 : ((xF x k).came ++ inL (xF x k).b (outF x.a k)).length ≤ x.sent.length := hcm2
                rw [List.length_append] at hcm2
                replace hx1 := Lib.hid hx1
                replace hT8 := Lib.hid hT8
                replace hd8 := Lib.hid hd8
                clear ge hg0 hO hO1 hdat hk1 hs1 hT1 hB8 hrel2 hnx
                generalize hxk : xF x k = xk at *
                clear hxk
                generalize outF x.a k = f at *
                unfold cf at p0 p1 p2 p3 p4 hk8 hs8 hT8 hd8
                go_wp2
                generalize hWb : wr.heap.size = b8 at *
                generalize wr.alloc (.cells #[.int .i64 f.v, .int .i64 f.e, .int .i64 f.s, .int .i64 f.a, .slice B f.body.length cB] 31) = W8 at *
                clear f0 f1 f2 f3 f4 hWb
                obtain ⟨-, z1, -, -, -⟩ := hT8.out.cells
                have hT9 := Lib.hid (hT8.out.below (below_drew W8))
                have hd9 := Lib.hid (hd8.out.go (Chg.of_below col1 99 (below_drew W8)) (by decide) (Ext.refl _ _))
                have hsz9 : W8.drew.heap.size = W8.heap.size := rfl
                have hk9 : Hid (∀ q, q < w3.heap.size → col q = 0 → W8.drew.heap[q]? = w3.heap[q]?) := hk8
                have hs9 : Hid (w3.heap.size ≤ W8.drew.heap.size) := hs8
                clear hsz9 hk8 hs8 hT8 hd8
                have hbc9 : xk.b.cnt + 2 ≤ 1000000 := by omega
                have hL9 : (inL xk.b f).length ≤ 200 := by omega
                have hc9 : xk.came.length ≤ 200 := by omega
                go_region_law ((go_simp; go_at_call 14; (with_reducible refine (in_frame hT9.out f B cB hd9.out hok.out.2.2.2 hbc9 hok.out.2.2.1 hok.out.1).mono ?_); rintro e W10 ⟨A9, c9, us, rfl, h91, h92, hstd, hul, hds, hk10, hs10, hT10⟩; have z4 := hT10.cells.2.2.2.2; replace hT10 := Lib.hid hT10; replace hds := Lib.hid hds; replace hstd := Lib.hid hstd; replace hk10 := Lib.hid hk10; have lt10 := hT10.out.blk.lt; have hO10 := Lib.hid (show W10.ownsRow 0 29 1 vc1 xk.came.length xc1 from hT10.out.came.1); have hone := Lib.hid (Dats.one hds.out)))
                all_goals
                  go_wp2_with (at_builtin; refine wpList_gen rfl (.tmp 85) (.tmp 86) 25 rfl 0 29 j0 (.slice none 0 0) 1 24 Try.underlying25 hj0 jz0 jz1 jz2 rfl (by decide) vc1 xk.came.length xc1 rfl hO10.out A9 (inL xk.b f).length c9 us rfl hul hstd.out hone.out (by unfold maxLen; omega) (by omega) (Nat.zero_le _) ?_)
                  intro A11 c11 w11 hr11 hg11 hat11
                  have q0 := far hT10.out (Below.refl _ _) (.inr (.inr rfl)) hg11
                  have q4 : w11.cell? ⟨tt, 4, none⟩ = some vc1 := q0.cell (i := 4) (by omega)
                  have q5 := q0.frozen 4
                  clear q0
                  have hk11 : Hid (∀ q, q < w3.heap.size → col q = 0 → W10.heap[q]? = w3.heap[q]?) := Lib.hid fun q hq hc => (hk10.out q (Nat.lt_of_lt_of_le hq hs9.out) ((hx1.out q hq).trans hc)).trans (hk9.out q hq hc)
                  have hs11 : Hid (w3.heap.size ≤ W10.heap.size) := Lib.hid (Nat.le_trans hs9.out hs10)
                  obtain ⟨col3, hx3, hk3, hs3, hT3⟩ := addCame2 hT10.out hds.out hr11 hg11 hat11
                  have hnew : Hid (∃ col' vc' xc', Ext w3 col col' ∧ (∀ q, q < w3.heap.size → col q = 0 → (w11.setCell ⟨tt, 4, none⟩ (.slice A11 (xk.came.length + (inL xk.b f).length) c11)).heap[q]? = w3.heap[q]?) ∧ w3.heap.size ≤ (w11.setCell ⟨tt, 4, none⟩ (.slice A11 (xk.came.length + (inL xk.b f).length) c11)).heap.size ∧ TwoIs col' w (w11.setCell ⟨tt, 4, none⟩ (.slice A11 (xk.came.length + (inL xk.b f).length) c11)) tt (xF x (k + 1)) pa pb vr vs vc' css xs xc') :=
                    Lib.hid ⟨col3, _, _, fun q hq => (hx3 q (Nat.lt_of_lt_of_le hq hs11.out)).trans (hx1.out q hq), fun q hq hc => (hk3 q (Nat.lt_of_lt_of_le hq hs11.out) ((hx1.out q hq).trans hc)).trans (hk11.out q hq hc), Nat.le_trans hs11.out hs3, by rw [← hX.out]; exact hT3⟩
                  clear hr11 hg11 hat11 hT10 hds z4 hstd hO10 hone hx3 hk3 hs3 hT3 hx1 hk11 hs11 hX hT9 hd9 hk9 hs9 hk10 hs10 hbc9 p0 p1 p2 p3 p4 z1 hok hL9 hc9
                  go_wp2
                  go_roundw
                  case rel => exact ⟨k + 1, by omega, by go_num, hnew⟩
                  case measure => simp [intOf]; omega
              · obtain ⟨col1, vc1, xc1, hx1, hk1, hs1, hT1⟩ := hrel2.out
                have hkN : k = outN x.a := by omega
                rw [hkN] at hT1
                obtain ⟨n1, n2, n3, n4, n5⟩ := xN_good hG.out
                have hac := (xF_all hG.out (Nat.le_refl _)).acn
                have hX : Hid (({ xF x (outN x.a) with a := inS (xF x (outN x.a)).a (noteF (xF x (outN x.a)).b) } : Tw) = xN x) := Lib.hid (by unfold xN; rw [n2, List.append_nil])
                replace n1 := Lib.hid n1
                replace n2 := Lib.hid n2
                replace n3 := Lib.hid n3
                clear hx1 hk1 hs1 hrel2 hat hcg
                generalize outN x.a = N9 at *
                generalize xF x N9 = X at *
                obtain ⟨z0, z1, -, -, -⟩ := hT1.cells
                have hTd := Lib.hid (hT1.below (below_drew wr))
                have l1 := hT1.blk.lt
                have hkk := Lib.hid (fun w' (hB : Below wr.drew.heap.size wr.drew w') => hTd.out.below hB)
                clear hT1
                go_wp2
                go_region_law (first
                  | (go_simp; go_at_call 17; (with_reducible refine (note_out _ hTd.out.b).mono ?_); rintro e w5 ⟨A2, c2, rfl, hB5⟩; have hT5 := Lib.hid (hkk.out w5 hB5); have y0 := (hB5.cell (p := ⟨tt, 0, none⟩) l1).trans z0; clear hB5)
                  | (go_simp; go_at_call 14; (with_reducible refine (in_note hT5.out A2 c2 (by omega) n1.out n2.out).mono ?_); rintro e w6 ⟨A6, c6, rfl, hT6⟩; rw [hX.out] at hT6; replace hT6 := Lib.hid hT6))
                all_goals
                  clear hT5 hTd hkk z0 z1 y0 n1 n2 hX
                  go_wp2
                  go_roundw
                  case rel => exact ⟨r + 1, xN x, N + 17, by omega, by omega, by go_num, hT6, n3, by rw [n4]; exact hL, by rw [n4]; omega⟩
                  case measure => simp [intOf]; omega
          · have hr12 : r = 12 := by omega
            subst hr12
            obtain ⟨e1, e2, e3⟩ := all_came hG.out hL (by omega)
            have hBel := Lib.hid (two_bel hT.out)
            clear hlt
            obtain ⟨col, pa, pb, vr, vs, vc, css, xs, xc, hI⟩ := hT.out
            obtain ⟨z0, -, -, z3, z4⟩ := hI.cells
            obtain ⟨A5, k5, e5, hq5⟩ := LQ.of hI.sent.1 hI.sentd (by omega)
            have hcl : x.came.length = x.sent.length := by rw [e3]
            obtain ⟨A6, k6, e6, hq6⟩ := LQ.of hI.came.1 hI.camed (by omega)
            rw [e5] at z3
            rw [e6, e3] at z4
            rw [e3] at hq6
            have hS := Lib.hid (show SQ tt pa _ _ wr from ⟨z0, z3, z4⟩)
            have hSd : Hid (SQ tt pa (.slice A5 x.sent.length k5) (.slice A6 x.sent.length k6) wr.drew) := Lib.hid hS.out
            have kA : ∀ w' : World, Below wr.heap.size wr w' → Calls Try.prog 25 #[] w' fun e w'' => e = .returned (.bool true) ∧ Below wr.heap.size wr w'' := fun w' hw' => (awake_any w').mono fun _ _ ⟨he, hb⟩ => ⟨he, trans0 hw' hb (Nat.le_refl _)⟩
            have kS : ∀ w' : World, Below wr.heap.size wr w' → Calls Try.prog 16 #[.slice A6 x.sent.length k6, .slice A5 x.sent.length k5] w' fun e w'' => e = .returned (.bool true) ∧ Below wr.heap.size wr w'' := fun w' hw' => (sames_q A6 _ k6 A5 k5 x.sent w' (hq6.below hw') (hq5.below hw')).mono fun _ _ ⟨he, m, hm⟩ => ⟨he, by rw [hm]; exact trans0 hw' (lnkI.below_drewN w' m) (Nat.le_refl _)⟩
            have kW : ∀ w' : World, Below wr.heap.size wr w' → Calls Try.prog 22 #[.pointer (some ⟨pa, 0, none⟩)] w' fun e w'' => e = .returned (.int .i64 0) ∧ Below wr.heap.size wr w'' := fun w' hw' => (waiting_any w' (hI.below hw').a).mono fun _ _ ⟨he, hb⟩ => ⟨by rw [he, e1]; rfl, by rw [← hb]; exact hw'⟩
            have kO : ∀ w' : World, Below wr.heap.size wr w' → Calls Try.prog 20 #[.pointer (some ⟨pa, 0, none⟩)] w' fun e w'' => ∃ g, e = .returned (.slice (some ⟨g, 0, none⟩) 0 0) ∧ Below wr.heap.size wr w'' := fun w' hw' => (out_any w' (hI.below hw').a).mono fun _ _ ⟨v, he, hR, hb⟩ => by
              obtain ⟨g, rfl, -⟩ := hR
              exact ⟨g, by rw [he, e2], trans0 hw' hb (Nat.le_refl _)⟩
            replace kA := Lib.hid kA
            replace kS := Lib.hid kS
            replace kW := Lib.hid kW
            replace kO := Lib.hid kO
            clear hI hq5 hq6 hT hG e1 e2 e3 e5 e6 hcl
            go_wp2_with (fail)
            go_region_held3 (SQ tt pa (.slice A5 x.sent.length k5) (.slice A6 x.sent.length k6))
              (first | with_reducible exact hSd.out | with_reducible exact hS.out | with_reducible assumption | with_reducible exact SQ.below hS.out (by assumption) | fail)
              (first
                | (go_at_call 25; ((with_reducible refine (kA.out _ (by first | assumption | exact (Below.refl _ _).drew)).mono ?_); rintro e w' ⟨rfl, hBx⟩))
                | (go_at_call 16; ((with_reducible refine (kS.out _ (by first | assumption | exact (Below.refl _ _).drew)).mono ?_); rintro e w' ⟨rfl, hBx⟩))
                | (go_at_call 22; ((with_reducible refine (kW.out _ (by first | assumption | exact (Below.refl _ _).drew)).mono ?_); rintro e w' ⟨rfl, hBx⟩))
                | (go_at_call 20; ((with_reducible refine (kO.out _ (by first | assumption | exact (Below.refl _ _).drew)).mono ?_); rintro e w' ⟨g9, rfl, hBx⟩)) | fail)
            all_goals
              go_wp2
              go_ret
              exact ⟨rfl, hBel.out.trans (Below.mono (by assumption) hBel.out.size)⟩
end Go.Proofs.Ythiadkpndemeeaa.lnkEo
