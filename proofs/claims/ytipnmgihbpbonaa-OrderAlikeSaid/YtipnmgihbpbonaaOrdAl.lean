/- OrderAlike: the walk. -/
import Derived.Test.YtipnmgihbpbonaaOrdAt
import Derived.Test.YtipnmgihbpbonaaOrdP
import Derived.Test.YtipnmgihbpbonaaOrdRj
import Derived.WalkMore
import Derived.Deep.LoopGhost
import Derived.Laws.Bits64
set_option linter.unusedVariables false
set_option linter.unusedSimpArgs false
set_option maxRecDepth 100000
namespace Go.Proofs.Ytipnmgihbpbonaa.ordAl
open Go.ChangeShapes Go.WideShapes Go.ChangeAt Go.RowKit Go.Deep
open opG opV opR opS chnM gen chnA chnR chnE ordA ordB ordC ordM ordL ordD ordH ordI ordK ordRl ordW ordS ordE2 ordE3 ordRi ordAm ordAs ordAt ordP

/-- what the first loop gathers -/
structure P1 (w : World) (rs : List MR) (A : Option Addr) (c : Nat) (wr : World) : Prop where
  own : GR wr w.heap.size A c rs
  dat : ∀ m ∈ rs, HV w m.A m.c m.vs ∧ Sm m.vs
  dis : Dis (rs.map MR.r)
  bel : Below w.heap.size w wr
theorem P1.below {w wr w1 : World} {rs : List MR} {A : Option Addr} {c : Nat} (h : P1 w rs A c wr) (hB : Below wr.heap.size wr w1) : P1 w rs A c w1 := ⟨h.own.below hB, h.dat, h.dis, trans0 h.bel hB⟩
theorem P1.more {w wr w1 w9 : World} {rs : List MR} {A A9 : Option Addr} {c c9 : Nat} {x : MR} {o : Obj} (h : P1 w rs A c wr) (hB : Below wr.heap.size wr w1) (hx : HV w x.A x.c x.vs ∧ Sm x.vs) (hn : ∀ y ∈ rs, y.k ≠ x.k)
    (ho : w9.ownsRow w.heap.size 32 4 (.slice A9 (rs.length + 1) c9) (rs.length + 1) (gl rs ++ cR x)) (hg : (w1.alloc o).grownBy w9 (Value.slice A rs.length c).ownBlock) : P1 w (rs ++ [x]) A9 c9 w9 := by
  have h1 := (h.below hB).below (al0 w1 o)
  refine ⟨?_, fun m hm => ?_, ?_, h1.bel.grown hg h1.bel.size (fun b e => (World.ownsRow.lt h1.own b e).1)⟩
  · unfold GR
    rw [gl_app, gl_one, List.length_append]
    exact ho
  · rcases List.mem_append.1 hm with hm | hm
    · exact h.dat m hm
    · rw [List.mem_singleton.1 hm]; exact hx
  · rw [List.map_append]
    refine Dis.snoc h.dis fun y hy => ?_
    obtain ⟨z, hz, rfl⟩ := List.mem_map.1 hy
    exact hn z hz
set_option maxHeartbeats 8000000 in
theorem alike_any (A : Option Addr) (len cap : Nat) (ls : List MR) (D : Option Addr) (dlen dcap : Nat) (zs : List Sw) (t : Int) (w : World) (hq : Rs w QRec 4 A len ls) (hz : Rs w QSw 2 D dlen zs) :
    Calls Try.prog 5 #[.slice A len cap, .slice D dlen dcap, .int .u64 t] w fun e w' => e = .returned (.bool true) ∧ Below w.heap.size w w' := by
  obtain ⟨iV, hiV, hzV0, hzV1, hzV2⟩ := info_parts infoR
  have hlen9 := hq.2.1
  have hcell := Lib.hid (fun (j : Nat) (hj : j < len) => (show ∃ b off, A = some ⟨b, off, none⟩ ∧ b < w.heap.size ∧ QRec w b (off + j * 4) (ls.getD j default) by
    rcases hq.2.2 with h0 | ⟨b, off, e, h3, h4⟩
    · omega
    · exact ⟨b, off, e, h3, h4 j hj⟩))
  have hzl := hz.2.1
  have hzcell := Lib.hid (fun (j : Nat) (hj : j < dlen) => (show ∃ b off, D = some ⟨b, off, none⟩ ∧ b < w.heap.size ∧ QSw w b (off + j * 2) (zs.getD j default) by
    rcases hz.2.2 with h0 | ⟨b, off, e, h3, h4⟩
    · omega
    · exact ⟨b, off, e, h3, h4 j hj⟩))
  clear hq hz
  go_enter Try.func5, Try.ntmps5
  go_wp2
  go_step3
  go_wp2
  go_step3
  go_wp2
  go_loopg [7, 8] 40 (fun k s u wr => ∃ (j : Nat) (rs : List MR) (A' : Option Addr) (c' : Nat), j + k = 40 ∧ j ≤ len ∧ s = .slice A' rs.length c' ∧ u = .int .i64 j ∧ rs.length ≤ j ∧ Hid (P1 w rs A' c' wr))
  case atStart => exact ⟨0, [], none, 0, by omega, by omega, rfl, rfl, by simp, Lib.hid ⟨GR.nil_ _ _, fun m hm => (by cases hm), List.Pairwise.nil, Below.refl _ _⟩⟩
  case round =>
    obtain ⟨j, rs, A', c', hj, hjl, rfl, rfl, hrl, hP⟩ := hrel
    have hj0 : j ≤ 40 := by omega
    by_cases hgo : j < len ∧ j < 40
    · obtain ⟨hlt, h40⟩ := hgo
      · obtain ⟨b, off, rfl, hbl, hQ⟩ := hcell.out j hlt
        generalize ls.getD j default = x at *
        have hjI : (j : Int) < (len : Int) := by omega
        have hj4 : (j : Int) < 40 := by omega
        have hxk := Lib.hid hQ.2.2.2.2
        have hxr := Lib.hid (fun wx (hB : Below w.heap.size w wx) => R4.below hQ.1 hB)
        clear hQ
        go_wp2
        go_loopg [31] rs.length (fun k i wr => ∃ q : Nat, q + k = rs.length ∧ i = .int .i64 q ∧ Hid (∀ i, i < q → ¬ (nt rs i).k = x.k) ∧ Hid (P1 w rs A' c' wr))
        case atStart => exact ⟨0, by omega, rfl, Lib.hid (fun i hi => by omega), hP⟩
        case round =>
          clear hP
          obtain ⟨q, hqk, rfl, hno, hP⟩ := hrel
          have hq0 : q ≤ rs.length := by omega
          by_cases hql : q < rs.length
          · have hqI : (q : Int) < (rs.length : Int) := by omega
            obtain ⟨pb, po, rfl, hpb, hc⟩ := (hP.out.own.hv (by omega)).at hql
            have hno2 := Lib.hid (fun (hs : ¬ (nt rs q).k = x.k) i (hi : i < q + 1) => (show ¬ (nt rs i).k = x.k from if e : i = q then e ▸ hs else hno.out i (by omega)))
            generalize nt rs q = y at *
            obtain ⟨W2, hW2⟩ : ∃ W2, wr.alloc (.cells #[.int .u64 y.ts, .int .i64 y.dc, .int .i64 y.tx, .slice y.A y.vs.length y.c] 32) = W2 := ⟨_, rfl⟩
            have hal2 : Below wr.heap.size wr W2 := by rw [← hW2]; exact al0 _ _
            have hyb : R4 wr.heap.size 0 y W2 := by rw [← hW2]; exact R4.new wr y _
            have hP2 := Lib.hid (hP.out.below hal2)
            have hS : Hid (D2 wr.heap.size 0 b (off + j * 4) y x W2.drew ∧ Below W2.heap.size W2 W2.drew) := Lib.hid ⟨⟨R4.below hyb (below_drew _), hxr.out _ hP2.out.bel.drew⟩, below_drew _⟩
            have hq9 := eql_mk y.k x.k
            have hmx := Lib.hid (rmark_any y)
            have hmy := Lib.hid (rmark_any x)
            obtain ⟨c0, c1', c2', c3⟩ := hc
            replace hW2 := Lib.hid hW2
            clear hal2 hyb hP
            by_cases he : y.k = x.k
            · rw [decide_eq_true he] at hq9
              obtain ⟨ky, hky⟩ : ∃ ky, y.k = ky := ⟨_, rfl⟩
              obtain ⟨kx, hkx⟩ : ∃ kx, x.k = kx := ⟨_, rfl⟩
              rw [hky] at hmx hq9
              rw [hkx] at hmy hq9
              clear he hno hno2 hky hkx
              go_wp2
              rw [hW2.out]
              go_region_held3 (fun w' => D2 wr.heap.size 0 b (off + j * 4) y x w' ∧ Below W2.heap.size W2 w')
                (first | with_reducible exact hS.out | with_reducible assumption | with_reducible exact ⟨D2.below (And.left (by assumption)) (by assumption), trans0 (And.right (by assumption)) (by assumption)⟩ | fail)
                (first
                  | (go_at_call 21; ((with_reducible refine (hmx.out _).mono ?_); rintro e w' ⟨rfl, hB9⟩))
                  | (go_at_call 21; ((with_reducible refine (hmy.out _).mono ?_); rintro e w' ⟨rfl, hB9⟩)) | fail)
              all_goals
                rename_i hHeld
                have hP3 := Lib.hid (hP2.out.below hHeld.2)
                clear hHeld hS hP2 hmx hmy hq9
                go_wp2
                go_roundg (40 - (j + 1))
                case rel => exact ⟨j + 1, rs, _, c', by omega, by omega, rfl, by go_num, by omega, hP3⟩
                case measure => omega
            · have hno3 := Lib.hid (hno2.out he)
              rw [decide_eq_false he] at hq9
              obtain ⟨ky, hky⟩ : ∃ ky, y.k = ky := ⟨_, rfl⟩
              obtain ⟨kx, hkx⟩ : ∃ kx, x.k = kx := ⟨_, rfl⟩
              rw [hky] at hmx hq9
              rw [hkx] at hmy hq9
              replace hky := Lib.hid hky
              replace hkx := Lib.hid hkx
              clear he hno hno2
              go_wp2
              rw [hW2.out]
              go_region_held3 (fun w' => D2 wr.heap.size 0 b (off + j * 4) y x w' ∧ Below W2.heap.size W2 w')
                (first | with_reducible exact hS.out | with_reducible assumption | with_reducible exact ⟨D2.below (And.left (by assumption)) (by assumption), trans0 (And.right (by assumption)) (by assumption)⟩ | fail)
                (first
                  | (go_at_call 21; ((with_reducible refine (hmx.out _).mono ?_); rintro e w' ⟨rfl, hB9⟩))
                  | (go_at_call 21; ((with_reducible refine (hmy.out _).mono ?_); rintro e w' ⟨rfl, hB9⟩)) | fail)
              all_goals
                rename_i hHeld
                have hP3 := Lib.hid (hP2.out.below hHeld.2)
                clear hHeld hS hP2 hmx hmy hq9
                go_wp2
                go_roundg (rs.length - (q + 1))
                case rel => exact ⟨q + 1, by omega, by go_num, hno3, hP3⟩
                case measure => omega
          · obtain rfl : q = rs.length := by omega
            have hxv := hxk.out.1
            have hfe := Lib.hid (few_any x wr hxv.le hxv.top)
            have hfx : Hid (HV w (fw x).A (fw x).c (fw x).vs ∧ Sm (fw x).vs) := Lib.hid ⟨HV.few hxv, sm_few hxk.out.2⟩
            have hmore := Lib.hid (fun w1 w9 A9 c9 o (hB : Below wr.heap.size wr w1) ho hg => P1.more (w1 := w1) (w9 := w9) (A9 := A9) (c9 := c9) (o := o) (x := fw x) hP.out hB hfx.out (fun y hy => by
              obtain ⟨i, hi, rfl⟩ := mem_nt hy
              exact hno.out i hi) ho hg)
            obtain ⟨c0, c1', c2', c3⟩ := hxr.out wr hP.out.bel
            have hlsw : Hid (w.heap.size ≤ wr.heap.size) := Lib.hid hP.out.bel.size
            have hown := Lib.hid (fun w1 (hB : Below wr.heap.size wr w1) => hP.out.own.below hB)
            replace hxv := Lib.hid hxv
            clear hno hP
            go_wp2_with (fail)
            refine hfe.out.mono ?_
            rintro e w2 ⟨rfl, hB2⟩
            have hls : Hid (rs.length + 1 ≤ maxLen ∧ (rs.length + 1) * 48 ≤ 140737488355328) := Lib.hid ⟨by unfold maxLen; omega, by omega⟩
            have hal := al0 w2 (.cells (cR (fw x)).toArray 32)
            have hst := Lib.hid (stand_new w2 (cR (fw x)) 32 1)
            have hG2 := Lib.hid (hown.out _ (trans0 hB2 hal))
            have hbs : Hid (w.heap.size ≤ (w2.alloc (.cells (cR (fw x)).toArray 32)).heap.size) := Lib.hid (Nat.le_trans hlsw.out (Nat.le_trans hB2.size hal.size))
            have hB2' := Lib.hid hB2
            have hy : fw x = fw x := rfl
            clear hB2 hal hfe hy c0 c1' c2' c3
            generalize fw x = y at *
            go_wp2_with (at_builtin; refine wpList_gen rfl (.tmp 44) (.tmp 50) 26 rfl w.heap.size 32 iV _ 4 48 Try.underlying26 hiV hzV0 hzV1 hzV2 rfl (by decide) (.slice A' rs.length c') rs.length (gl rs) (by rfl) hG2.out (some ⟨w2.heap.size, 0, none⟩) 1 1 (cR y) (by rfl) rfl hst.out (cR_one _) hls.out.1 hls.out.2 hbs.out ?_; intro A9 c9 w9 ho9 hg9 hat9; have hP9 := Lib.hid (hmore.out w2 w9 A9 c9 _ hB2'.out ho9 hg9); clear ho9 hg9 hat9)
            go_roundg (40 - (j + 1))
            case rel => exact ⟨j + 1, rs ++ [y], A9, c9, by omega, by omega, by rw [List.length_append]; rfl, by go_num, by rw [List.length_append]; simp; omega, hP9⟩
            case measure => omega
    · clear hcell
      go_upto_region 3 with (fail)
      go_cut [26] from 19 to 26 (fun v wx => v = .bool false ∧ wx = wr)
      case first =>
        by_cases hlt : j < len
        · have hjI : (j : Int) < (len : Int) := by omega
          have hj4 : ¬ (j : Int) < 40 := by omega
          clear hgo
          go_wp2
          go_meet
          exact ⟨rfl, rfl⟩
        · have hjI : ¬ (j : Int) < (len : Int) := by omega
          clear hgo
          go_wp2
          go_meet
          exact ⟨rfl, rfl⟩
      case rest =>
      obtain ⟨rfl, rfl⟩ := hcut
      obtain ⟨hown, hdat, hdis, hbel⟩ := hP.out
      have hr40 : rs.length ≤ 40 := by omega
      clear hgo hP hj hjl hj0
      obtain ⟨col, hN1, hN2, hN3, hN4⟩ := p4_new w wc hbel
      have hNB : Below wc.heap.size wc ((wc.alloc (.cells #[.slice none 0 0, .slice none 0 0, .int .u64 0] T1)).alloc (.cells #[.slice none 0 0, .slice none 0 0, .int .u64 0] T1)) := trans0 (al0 _ _) (al0 _ _)
      go_wp2_with (fail)
      with_reducible refine (new_any wc).mono ?_
      rintro e w1 ⟨rfl, rfl⟩
      go_wp2_with (fail)
      with_reducible refine (new_any _).mono ?_
      rintro e w2 ⟨rfl, rfl⟩
      rw [World.size_alloc]
      obtain ⟨W2, hW2⟩ : ∃ W2, (wc.alloc (.cells #[.slice none 0 0, .slice none 0 0, .int .u64 0] T1)).alloc (.cells #[.slice none 0 0, .slice none 0 0, .int .u64 0] T1) = W2 := ⟨_, rfl⟩
      rw [hW2] at hN1 hN2 hN3 hNB ⊢
      have hrs0 := hown.hv (by omega)
      have hrs2 := hrs0.below hNB
      have hemp := Lib.hid (emp_r W2 W2.heap.size (Nat.le_refl _))
      have hst := Lib.hid (hrs2.below (al0 W2 (.cells #[] 32))).stand
      have hgl := Lib.hid (gl_len rs)
      have hone := Lib.hid (gl_all rs)
      have hls : Hid (0 + rs.length ≤ maxLen ∧ (0 + rs.length) * 48 ≤ 140737488355328 ∧ W2.heap.size ≤ (W2.alloc (.cells #[] 32)).heap.size) := Lib.hid ⟨by unfold maxLen; omega, by omega, (al0 _ _).size⟩
      have hh1 := Lib.hid (fun w5 A' c' ho hg => half1 (w := W2) (w3 := w5) (A' := A') (c' := c') (k := rs) rfl ho hg)
      have hRow := Lib.hid (fun wx (hB : Below W2.heap.size W2 wx) => (⟨hrs2.below hB, by
        by_cases h0 : rs = []
        · exact .inl h0
        · exact .inr fun y e => hN4 _ (hr_lt hrs0 h0 e)⟩ : Row col wx A' c' rs))
      have hcol0 := Lib.hid (fun k (hk : k < w.heap.size) => hN4 k (Nat.lt_of_lt_of_le hk hbel.size))
      have hBW2 := Lib.hid (trans0 hbel hNB)
      replace hN1 := Lib.hid hN1
      replace hN2 := Lib.hid hN2
      replace hN3 := Lib.hid hN3
      replace hdis := Lib.hid hdis
      replace hdat := Lib.hid hdat
      clear hown hN4 hNB hW2 hrs0 hrs2 hbel
      go_wp2_with (at_builtin; refine wpList_gen rfl (.tmp 60) (.tmp 61) 26 rfl W2.heap.size 32 iV _ 4 48 Try.underlying26 hiV hzV0 hzV1 hzV2 rfl (by decide) (.slice (some ⟨W2.heap.size, 0, none⟩) 0 0) 0 [] (by rfl) hemp.out A' rs.length c' (gl rs) (by rfl) hgl.out hst.out hone.out hls.out.1 hls.out.2.1 hls.out.2.2 ?_; intro A3 c3 w3 ho5 hg5 hat5; obtain ⟨h5, hB5⟩ := hh1.out w3 A3 c3 ho5 hg5; rw [Nat.zero_add] at *; have hO := Lib.hid (show ∃ m, Ow W2 rs A3 c3 m w3 from ⟨rs, List.Perm.refl _, h5, hB5⟩); clear ho5 hg5 hat5 h5 hB5)
      clear hemp hst hgl hone hls hh1
      go_loopw [65] (fun i wr => ∃ j : Nat, j ≤ dlen ∧ i = .int .i64 j ∧ Hid (∃ m, Ow W2 rs A3 c3 m wr)) (fun i _ => dlen - (intOf i).toNat)
      case atStart => exact ⟨0, by omega, rfl, hO⟩
      case round =>
        clear hO
        obtain ⟨i0, hi0, rfl, hO⟩ := hrel
        by_cases hlt : i0 < dlen
        · obtain ⟨m, hO⟩ := hO.out
          obtain ⟨pb, po, rfl, hpb, hs0, hs1⟩ := hzcell.out i0 hlt
          have hjI : (i0 : Int) < (dlen : Int) := by omega
          have hs0 := keep_cell (trans0 hBW2.out hO.bel) hs0
          have hs1 := keep_cell (trans0 hBW2.out hO.bel) hs1
          generalize zs.getD i0 default = s at *
          obtain ⟨sa, sb⟩ := s
          simp only at hs0 hs1
          have hal := al0 wr (.cells #[.int .i64 sa, .int .i64 sb] 53)
          have e0 := cell_of_row _ _ 0 #[.int .i64 sa, .int .i64 sb] 53 (0, 0) (heap_alloc_new wr (.cells #[.int .i64 sa, .int .i64 sb] 53))
          have e1 := cell_of_row _ _ 1 #[.int .i64 sa, .int .i64 sb] 53 (0, 0) (heap_alloc_new wr (.cells #[.int .i64 sa, .int .i64 sb] 53))
          have hO1 := Lib.hid (hO.below hal)
          clear hO hal
          by_cases hne : 0 < rs.length
          · obtain ⟨g, rfl⟩ := hO1.out.some_ hne
            have hlI : (0 : Int) < (rs.length : Int) := by omega
            go_wp2
            go_quiet (fail)
            go_wp2
            have hO2 := Lib.hid (hO1.out.below (bdrN nq (Below.refl _ _)))
            obtain ⟨i, hi, ei⟩ := pick sa rs.length hne hr40
            obtain ⟨k, hk, ek⟩ := pick sb rs.length hne hr40
            rw [ei, ek]
            clear ei ek hO1 e0 e1 hs0 hs1
            generalize (wr.alloc (.cells #[.int .i64 sa, .int .i64 sb] 53)).drewN nq = wb at *
            have hiI : (i : Int) < (rs.length : Int) := by omega
            have hkI : (k : Int) < (rs.length : Int) := by omega
            have hL9 : rs.length ≤ 1000 := by omega
            obtain ⟨c0, c1', c2', c3'⟩ := hO2.out.r4 hi hL9
            obtain ⟨d0, d1, d2, d3⟩ := hO2.out.r4 hk hL9
            have hfz := hO2.out.fz
            have hst := Lib.hid (show Ow W2 rs (some ⟨g, 0, none⟩) c3 (sws m i k) (putR (putR wb g (i * 4) (nt m k)) g (k * 4) (nt m i)) ∧ Ow W2 rs (some ⟨g, 0, none⟩) c3 (sws m i k) (putR (putR wb.drew g (i * 4) (nt m k)) g (k * 4) (nt m i)) from ⟨hO2.out.swap hi hk, hO2.out.drew.swap hi hk⟩)
            clear hO2
            by_cases hik : i = k
            · subst hik
              generalize sws m i i = m9 at *
              generalize nt m i = x at *
              clear d0 d1 d2 d3
              go_region
              all_goals
                go_wp2
                go_roundw
                case rel => exact ⟨i0 + 1, by omega, by go_num, Lib.hid ⟨m9, by with_reducible exact hst.out.1.drew⟩⟩
                case measure => simp [intOf]; omega
            · have hki : ¬ k = i := fun e => hik e.symm
              have hda1 : ¬ i * 4 + 1 = k * 4 := by omega
              have hdb1 : ¬ i * 4 = k * 4 + 1 := by omega
              have hdc1 : ¬ k * 4 + 1 = i * 4 := by omega
              have hdd1 : ¬ k * 4 = i * 4 + 1 := by omega
              have hda2 : ¬ i * 4 + 2 = k * 4 := by omega
              have hdb2 : ¬ i * 4 = k * 4 + 2 := by omega
              have hdc2 : ¬ k * 4 + 2 = i * 4 := by omega
              have hdd2 : ¬ k * 4 = i * 4 + 2 := by omega
              have hda3 : ¬ i * 4 + 3 = k * 4 := by omega
              have hdb3 : ¬ i * 4 = k * 4 + 3 := by omega
              have hdc3 : ¬ k * 4 + 3 = i * 4 := by omega
              have hdd3 : ¬ k * 4 = i * 4 + 3 := by omega
              generalize sws m i k = m9 at *
              generalize nt m i = x at *
              generalize nt m k = y at *
              go_region
              all_goals
                go_wp2
                go_roundw
                case rel => exact ⟨i0 + 1, by omega, by go_num, Lib.hid ⟨m9, by with_reducible exact hst.out.1.drew⟩⟩
                case measure => simp [intOf]; omega
          · have hlI : ¬ (0 : Int) < (rs.length : Int) := by omega
            go_wp2
            go_roundw
            case rel => exact ⟨i0 + 1, by omega, by go_num, Lib.hid ⟨m, hO1.out⟩⟩
            case measure => simp [intOf]; omega
        · obtain rfl : i0 = dlen := by omega
          obtain ⟨m, hO⟩ := hO.out
          have hml := hO.pm.length_eq
          have hpm : (rs.map MR.r).Perm (m.map MR.r) := (hO.pm.map MR.r).symm
          have hP3 : Hid (P3 w wc.heap.size (wc.heap.size + 1) (decs ((rs.map MR.r).take 0)) (decs ((m.map MR.r).take 0)) A' c' rs A3 c3 m wr) := Lib.hid ⟨col, hN1.out.below hO.bel, hN2.out.below hO.bel, hN3.out.up hO.bel.size, hcol0.out, trans0 hBW2.out hO.bel, hRow.out wr hO.bel, Row.of_gr hO.gr (by rw [hml]; omega) hN3.out⟩
          have hdm : Hid (∀ x ∈ m, HV w x.A x.c x.vs ∧ Sm x.vs) := Lib.hid (fun x hx => hdat.out x (hO.pm.mem_iff.1 hx))
          have hsame := Lib.hid (decs_eq hdis.out hpm)
          have hln : Hid (∀ k, (decs ((rs.map MR.r).take k)).st.length + (decs ((rs.map MR.r).take k)).wt.length ≤ 90 ∧ (decs ((m.map MR.r).take k)).st.length + (decs ((m.map MR.r).take k)).wt.length ≤ 90) := Lib.hid (fun k => by
            have h1 := decs_len ((rs.map MR.r).take k)
            have h2 := decs_len ((m.map MR.r).take k)
            simp at h1 h2
            omega)
          have hstA : Hid (∀ k, k < rs.length → decs ((rs.map MR.r).take (k + 1)) = dS (decs ((rs.map MR.r).take k)) (nt rs k).r) := Lib.hid (fun k hk => by rw [take_nt (by simpa using hk), decs_snoc, nt_map hk])
          have hstB : Hid (∀ k, k < rs.length → decs ((m.map MR.r).take (k + 1)) = dS (decs ((m.map MR.r).take k)) (nt m k).r) := Lib.hid (fun k hk => by rw [take_nt (by simp; omega), decs_snoc, nt_map (by omega)])
          have hfA : Hid (decs ((rs.map MR.r).take rs.length) = decs (rs.map MR.r)) := Lib.hid (by rw [List.take_of_length_le (by simp)])
          have hfB : Hid (decs ((m.map MR.r).take rs.length) = decs (m.map MR.r)) := Lib.hid (by rw [List.take_of_length_le (by simp; omega)])
          replace hml := Lib.hid hml
          clear hO hN1 hN2 hN3 hRow hcol0 hpm hdis hzcell hlt
          go_wp2
          generalize wc.heap.size = p at *
          go_loopw [105] (fun i wr => ∃ k : Nat, k ≤ rs.length ∧ i = .int .i64 k ∧ Hid (P3 w p (p + 1) (decs ((rs.map MR.r).take k)) (decs ((m.map MR.r).take k)) A' c' rs A3 c3 m wr)) (fun i _ => rs.length - (intOf i).toNat)
          case atStart => exact ⟨0, by omega, rfl, hP3⟩
          case round =>
            clear hP3
            obtain ⟨k, hk, rfl, hP3⟩ := hrel
            by_cases hlt : k < rs.length
            · have hkI : (k : Int) < (rs.length : Int) := by omega
              obtain ⟨hra, hrb, hBe⟩ := hP3.out.rows
              obtain ⟨pb, po, rfl, hpb, hca⟩ := hra.at hlt
              have hda := hdat.out _ (nt_mem hlt)
              have hdb := hdm.out (nt m k) (nt_mem (by rw [hml.out]; exact hlt))
              have hsA := hstA.out k hlt
              have hsB := hstB.out k hlt
              have hca1 := Lib.hid (hP3.out.deca (decs_ok _) (hln.out k).1 (nt rs k) (hda.1.below hBe) hda.2)
              rw [← hsA] at hca1
              generalize nt rs k = x at *
              obtain ⟨c0, c1', c2', c3'⟩ := hca
              replace hsA := Lib.hid hsA
              replace hsB := Lib.hid hsB
              replace hdb := Lib.hid hdb
              clear hda hra hrb hBe
              go_wp2_with (fail)
              refine hca1.out.mono ?_
              rintro e w5 ⟨rfl, hP5⟩
              obtain ⟨hra, hrb, hBe⟩ := hP5.rows
              obtain ⟨pb', po', rfl, hpb', hcb⟩ := hrb.at (i := k) (by rw [hml.out]; exact hlt)
              have hcb1 := Lib.hid (hP5.decb (decs_ok _) (hln.out k).2 (nt m k) (hdb.out.1.below hBe) hdb.out.2)
              rw [← hsB.out] at hcb1
              generalize nt m k = y at *
              obtain ⟨d0, d1, d2, d3⟩ := hcb
              clear hca1 hra hrb hBe hP5 c0 c1' c2' c3'
              go_wp2_with (fail)
              refine hcb1.out.mono ?_
              rintro e w6 ⟨rfl, hP6⟩
              replace hP6 := Lib.hid hP6
              clear hcb1 d0 d1 d2 d3 hP3 hsA hsB
              go_wp2
              go_roundw
              case rel => exact ⟨k + 1, by omega, by go_num, hP6⟩
              case measure => simp [intOf]; omega
            · obtain rfl : k = rs.length := by omega
              have hP4 := hP3.out.p4
              rw [hfA.out, hfB.out, ← hsame.out] at hP4
              have hl9 := (hln.out rs.length).1
              rw [hfA.out] at hl9
              have hok := decs_ok (rs.map MR.r)
              generalize decs (rs.map MR.r) = X at *
              replace hP4 := Lib.hid hP4
              replace hok := Lib.hid hok
              clear hP3 hfA hfB hsame hstA hstB hln hdm hdat
              have hlr := len_rS X t
              have hls : (rS X t).st.length ≤ 200 := by omega
              replace hlr := Lib.hid hlr
              go_wp2_with (fail)
              refine (awake_any wr).mono ?_
              rintro e w5 ⟨rfl, hB5⟩
              have h5 := Lib.hid ((hP4.out.below hB5).rela hok.out hl9 t)
              clear hB5 hP4
              go_wp2_with (fail)
              refine h5.out.mono ?_
              rintro e w6 ⟨rfl, hP6⟩
              have h6 := Lib.hid (hP6.relb hok.out hl9 t)
              clear h5 hP6
              generalize cnt X t = n9 at *
              go_wp2_with (fail)
              refine h6.out.mono ?_
              rintro e w7 ⟨rfl, hP7⟩
              generalize rS X t = Y at *
              have h7 := Lib.hid hP7.waita
              have h8 := Lib.hid hP7.waitb
              have h9 := Lib.hid (hP7.staba hls)
              clear h6 hP7
              go_wp2_with (fail)
              refine h7.out.mono ?_
              rintro e w8 ⟨rfl, rfl⟩
              go_wp2_with (fail)
              refine h8.out.mono ?_
              rintro e w8 ⟨rfl, rfl⟩
              go_wp2_with (fail)
              refine h9.out.mono ?_
              rintro e w8 ⟨Aa, ca, la, rfl, hma, hra, hP8⟩
              have h10 := Lib.hid (hP8.stabb hls)
              replace hma := Lib.hid hma
              replace hra := Lib.hid hra
              clear h7 h8 h9 hP8
              go_wp2_with (fail)
              refine h10.out.mono ?_
              rintro e w9 ⟨Ab, cb, lb, rfl, hmb, hrb, hP9, hB9⟩
              have hsm := same_any Aa ca la Ab cb lb w9 (hra.out.below hB9) hrb
              rw [hma.out, hmb, decide_eq_true rfl] at hsm
              have hbl := Lib.hid hP9.bel
              replace hsm := Lib.hid hsm
              clear h10 hmb hrb hP9 hB9
              go_wp2_with (fail)
              refine hsm.out.mono ?_
              rintro e w10 ⟨rfl, hB10⟩
              have hfin := Lib.hid (trans0 hbl.out hB10)
              clear hB10
              go_wp2
              rw [Exit.noGoto_ret]
              go_ret
              exact ⟨rfl, hfin.out⟩
end Go.Proofs.Ytipnmgihbpbonaa.ordAl
