/- The contract of resize. -/
import Derived.Test.YtmhflemmkoiffaaStbE
set_option linter.unusedVariables false
set_option linter.unusedSimpArgs false
namespace Go.Proofs.Ytmhflemmkoiffaa.stbF
open Go.ChangeShapes Go.WideShapes Go.ChangeAt Go.RowKit Go.Deep
open stVA stVB stVC stVD stVF stVH stVP stbA stbB stbC stbD stbE

abbrev T9 : TypeId := 42
/-- what is told of a box of members -/
abbrev V4 (b : Nat) (v : V) (w : World) : Prop := w.cell? ⟨b, 0, none⟩ = some (.bool v.h0) ∧ w.cell? ⟨b, 1, none⟩ = some (.bool v.h1) ∧ w.cell? ⟨b, 2, none⟩ = some (.bool v.h2) ∧ w.cell? ⟨b, 3, none⟩ = some (.bool v.h3)
/-- the table, and a box of members -/
abbrev SR (w0 : World) (p q b : Nat) (m : V) (s : Tb) (w : World) : Prop := (CG p s.g w ∧ V4 b m w) ∧ stbA.T p q s w ∧ R4 b m w ∧ Below w0.heap.size w0 w
theorem SR.mk {w0 w : World} {p q b : Nat} {m : V} {s : Tb} (h : stbA.T p q s w) (hb : R4 b m w) (hB : Below w0.heap.size w0 w) : SR w0 p q b m s w := ⟨⟨h.cg, R4.cells hb⟩, h, hb, hB⟩
theorem SR.fo {w0 w w1 : World} {p q b : Nat} {m : V} {s : Tb} (hB : Below w.heap.size w w1) (h : SR w0 p q b m s w) : SR w0 p q b m s w1 := SR.mk (h.2.1.below hB) (R4.below h.2.2.1 hB) (trans0 h.2.2.2 hB)
theorem SR.put {w0 w : World} {p q b c : Nat} {m : V} {s : Tb} (h : SR w0 p q b m s w) (hc : w0.heap.size ≤ c) (hbc : b ≠ c) (hp : p < w0.heap.size) (hq : q < w0.heap.size) (x : V) : SR w0 p q b m s (put9 w c x) := by
  have hB0 : Below c w (put9 w c x) := put9_below (Below.refl _ _) (Nat.le_refl _) x
  have hT : stbA.T p q s (put9 w c x) := ⟨h.2.1.row.of_block (hB0.block p (by omega)), h.2.1.bts.of_block (hB0.block q (by omega)), h.2.1.ne, h.2.1.ok⟩
  have hb : R4 b m (put9 w c x) :=
    ((((((((h.2.2.1.setOther (a := ⟨c, 0, none⟩) hbc _).setOther (a := ⟨c, 1, none⟩) hbc _).setOther (a := ⟨c, 2, none⟩) hbc _).setOther (a := ⟨c, 3, none⟩) hbc _).setOther (a := ⟨c, 4, none⟩) hbc _).setOther (a := ⟨c, 5, none⟩) hbc _).setOther (a := ⟨c, 6, none⟩) hbc _).setOther (a := ⟨c, 7, none⟩) hbc _).setOther (a := ⟨c, 8, none⟩) hbc _
  exact SR.mk hT hb (put9_below h.2.2.2 hc x)
theorem R4.otherG {w : World} {b p : Nat} {m : V} (h : R4 b m w) (hc : b ≠ p) (v : V) : R4 b m (ptG w p v) :=
  ((((((((h.setOther (a := ⟨p, 2, none⟩) hc _).setOther (a := ⟨p, 3, none⟩) hc _).setOther (a := ⟨p, 4, none⟩) hc _).setOther (a := ⟨p, 5, none⟩) hc _).setOther (a := ⟨p, 6, none⟩) hc _).setOther (a := ⟨p, 7, none⟩) hc _).setOther (a := ⟨p, 8, none⟩) hc _).setOther (a := ⟨p, 9, none⟩) hc _).setOther (a := ⟨p, 10, none⟩) hc _
/-- what is told of the table's second vector, where it is stored -/
abbrev FU (p : Nat) (w : World) : Prop := w.frozen? ⟨p, 11, none⟩ = false ∧ w.frozen? ⟨p, 12, none⟩ = false ∧ w.frozen? ⟨p, 13, none⟩ = false ∧ w.frozen? ⟨p, 14, none⟩ = false ∧ w.frozen? ⟨p, 15, none⟩ = false ∧ w.frozen? ⟨p, 16, none⟩ = false ∧ w.frozen? ⟨p, 17, none⟩ = false ∧ w.frozen? ⟨p, 18, none⟩ = false ∧ w.frozen? ⟨p, 19, none⟩ = false
theorem fu {p q : Nat} {s : Tb} {w : World} (h : stbA.T p q s w) : FU p w := ⟨h.fz 11, h.fz 12, h.fz 13, h.fz 14, h.fz 15, h.fz 16, h.fz 17, h.fz 18, h.fz 19⟩
abbrev FG (p : Nat) (w : World) : Prop := w.frozen? ⟨p, 2, none⟩ = false ∧ w.frozen? ⟨p, 3, none⟩ = false ∧ w.frozen? ⟨p, 4, none⟩ = false ∧ w.frozen? ⟨p, 5, none⟩ = false ∧ w.frozen? ⟨p, 6, none⟩ = false ∧ w.frozen? ⟨p, 7, none⟩ = false ∧ w.frozen? ⟨p, 8, none⟩ = false ∧ w.frozen? ⟨p, 9, none⟩ = false ∧ w.frozen? ⟨p, 10, none⟩ = false
theorem fg {p q : Nat} {s : Tb} {w : World} (h : stbA.T p q s w) : FG p w := ⟨h.fz 2, h.fz 3, h.fz 4, h.fz 5, h.fz 6, h.fz 7, h.fz 8, h.fz 9, h.fz 10⟩
theorem putH_cell {w : World} {b : Nat} {u : V} {j : Nat} {m : Bool} (h : R4 b u w) (hj : j < 4) : R4 b (putH u j m) (w.setCell ⟨b, j, none⟩ (.bool m)) := R4.putH h hj m
set_option maxRecDepth 100000 in
set_option maxHeartbeats 4000000 in
theorem resize_x {p q : Nat} {s : Tb} (j : Nat) (m : Bool) (ep : Int) (w : World) (h : stbA.T p q s w) (hj : j < 4) (hq : s.eq) : Calls Try.prog 26 #[.pointer (some ⟨p, 0, none⟩), .int .i64 (j : Int), .bool m, .int .i64 ep] w fun r w' => r = .returned (.int .i64 (szE s.g ep)) ∧ stbA.T p q (if szE s.g ep = 0 then szT s j m ep else s) w' ∧ Kp p q w w' := by
  have hp := h.row.lt
  have hql := h.bts.lt
  have h4 := R4.new w s.g
  have hc := h4.hcell hj
  have hf := h4.frozen j
  obtain ⟨c0, c1, c2, c3, c4, c5, c6, c7, c8⟩ := h.cg
  obtain ⟨W, hW⟩ : ∃ W, (w.alloc (.cells #[.bool s.g.h0, .bool s.g.h1, .bool s.g.h2, .bool s.g.h3] 22)).setCell ⟨w.heap.size, j, none⟩ (.bool m) = W := ⟨_, rfl⟩
  have hS := Lib.hid (show SR w p q w.heap.size (putH s.g j m) s W from by
    rw [← hW]
    have hB : Below w.heap.size w ((w.alloc (.cells #[.bool s.g.h0, .bool s.g.h1, .bool s.g.h2, .bool s.g.h3] 22)).setCell ⟨w.heap.size, j, none⟩ (.bool m)) := (al0 w _).setCell (p := ⟨w.heap.size, j, none⟩) (Nat.le_refl _) _
    exact SR.mk (h.below hB) (putH_cell h4 hj) hB)
  clear h h4
  obtain ⟨er, he⟩ : ∃ n, szE s.g ep = n := ⟨_, rfl⟩
  rw [he]
  go_enter Try.func26, Try.ntmps26
  go_upto_region 3 with (fail)
  have hbW : Hid (w.heap.size < W.heap.size ∧ w.heap.size ≤ W.heap.size) := Lib.hid (by rw [← hW]; simp)
  obtain ⟨b, hb⟩ : ∃ b, w.heap.size = b := ⟨_, rfl⟩
  replace hS : Hid (SR w p q b (putH s.g j m) s W) := Lib.hid (by rw [← hb]; exact hS.out)
  replace hbW : Hid (b < W.heap.size ∧ w.heap.size ≤ W.heap.size) := Lib.hid (by rw [← hb]; exact hbW.out)
  have hpq : Hid (p < w.heap.size ∧ q < w.heap.size) := Lib.hid ⟨hp, hql⟩
  have hb' := Lib.hid hb
  rw [hb]
  clear hW hc hf c0 c1 c2 c3 c4 c5 c6 c7 c8 hp hql hb
  obtain ⟨n, hn⟩ : ∃ n, szR s.g ep (putH s.g j m) = n := ⟨_, rfl⟩
  have kZ := resize_any s.g ep (putH s.g j m)
  rw [hn, he] at kZ
  replace kZ := Lib.hid kZ
  replace hn := Lib.hid hn
  replace he := Lib.hid he
  have kT := Lib.hid (fun wx => resize_any s.u ep (putH s.g j m) wx)
  generalize hg : putH s.g j m = g at *
  replace hg := Lib.hid hg
  have hnw : Hid (R9 T9 W.heap.size z9 (W.alloc (.cells #[.int .i64 0, .bool false, .bool false, .bool false, .bool false, .int .u64 0, .int .u64 0, .int .u64 0, .int .u64 0] 42)).drew) := Lib.hid (R9.new W z9 _)
  have hs4 : Hid (SR w p q b g s W.drew) := Lib.hid (SR.fo (below_drew W) hS.out)
  have hs5 : Hid (SR w p q b g s (W.alloc (.cells #[.int .i64 0, .bool false, .bool false, .bool false, .bool false, .int .u64 0, .int .u64 0, .int .u64 0, .int .u64 0] 42)).drew) := Lib.hid (SR.fo (bdr (al0 W _)) hS.out)
  have hr4 : Hid (Below W.heap.size W W.drew) := Lib.hid (below_drew W)
  have hr5 : Hid (Below W.heap.size W (W.alloc (.cells #[.int .i64 0, .bool false, .bool false, .bool false, .bool false, .int .u64 0, .int .u64 0, .int .u64 0, .int .u64 0] 42)).drew) := Lib.hid (bdr (al0 W _))
  go_cut [10, 11] from 10 to 29 (fun x z wx => z = .int .i64 er ∧ ∃ b2, x = .pointer (some ⟨b2, 0, none⟩) ∧ Hid (SR w p q b g s wx ∧ W.heap.size ≤ b2 ∧ R9 T9 b2 n wx))
  case first =>
    go_region_held3 (SR w p q b g s)
      (first | with_reducible exact hs4.out | with_reducible exact hs5.out | with_reducible exact s5.out | with_reducible exact t5.out n | with_reducible exact u5.out n | with_reducible exact y5.out | (go_must (exact (0 : Nat))) | fail)
      (first
        | (go_at_call 29; ((with_reducible refine (kZ.out _).mono ?_); rintro e w7 ⟨rfl, hB5⟩); (first
          | (have q5 : R9 T9 W.heap.size z9 w7 := (by with_reducible exact R9.below hnw.out hB5); have s5 : Hid (SR w p q b g s w7) := Lib.hid (by with_reducible exact SR.fo hB5 hs5.out); obtain ⟨d0, d1, d2, d3, d4, d5, d6, d7, d8⟩ := R9.v9 q5; obtain ⟨f0, f1, f2, f3, f4, f5, f6, f7, f8⟩ := R9.f9 q5; have p5 := Lib.hid q5; have t5 := Lib.hid (fun (n' : V) => SR.put (c := W.heap.size) s5.out (by have := hbW.out; omega) (by have := hbW.out; omega) hpq.out.1 hpq.out.2 n'); clear q5)
          | (have s5 : Hid (SR w p q b g s w7) := Lib.hid (by with_reducible exact SR.fo hB5 hs4.out); have r5 : Hid (Below W.heap.size W w7) := Lib.hid (by with_reducible exact trans0 hr4.out hB5); have y5 : Hid (SR w p q b g s (w7.alloc (.cells #[.int .i64 0, .bool false, .bool false, .bool false, .bool false, .int .u64 0, .int .u64 0, .int .u64 0, .int .u64 0] 42))) := Lib.hid (SR.fo (al0 _ _) s5.out); have u5 := Lib.hid (fun (n' : V) => SR.fo (al0 w7 (.cells #[.int .i64 n'.e, .bool n'.h0, .bool n'.h1, .bool n'.h2, .bool n'.h3, .int .u64 n'.t0, .int .u64 n'.t1, .int .u64 n'.t2, .int .u64 n'.t3] 42)) s5.out))
          | fail))
        | fail)
    all_goals
      go_wp2
      go_meet
      first
        | with_reducible exact ⟨rfl, _, rfl, Lib.hid ⟨t5.out _, Nat.le_refl _, R9.put9 p5.out _⟩⟩
        | with_reducible exact ⟨rfl, _, rfl, Lib.hid ⟨u5.out _, r5.out.size, R9.new w7 _ _⟩⟩
        | fail
  case rest =>
    obtain ⟨rfl, b2, rfl, hQ⟩ := hcut
    clear hnw hs4 hs5 hr4 hr5 hS kZ
    by_cases hep : ep ≤ s.g.e
    · have e1 : er = 11 := by have h := he.out; unfold szE at h; rw [if_pos hep] at h; exact h.symm
      subst e1
      have hT := Lib.hid hQ.out.1.2.1
      have hK := Lib.hid (Kp.of (p := p) (q := q) hQ.out.1.2.2.2)
      clear hQ kT hn he
      go_wp2
      go_ret
      exact ⟨rfl, hT.out, hK.out⟩
    · have e1 : er = 0 := by have h := he.out; unfold szE at h; rw [if_neg hep] at h; exact h.symm
      subst e1
      have hn1 : Hid (szV s.g ep g = n) := Lib.hid (by have h := hn.out; unfold szR at h; rw [if_neg hep] at h; exact h)
      have kT1 : Hid (∀ wx, Calls Try.prog 29 #[vV s.u, .int .i64 ep, hV g] wx fun r w' => r = .returned (.tuple #[vV (szV s.u ep g), .int .i64 0]) ∧ Below wx.heap.size wx w') := Lib.hid (fun wx => by
        have h := kT.out wx
        unfold szR szE at h
        rw [if_neg (by rw [hq.ep]; exact hep), if_neg (by rw [hq.ep]; exact hep)] at h
        exact h)
      obtain ⟨c0, c1, c2, c3, c4, c5, c6, c7, c8⟩ := hQ.out.2.2.v9
      obtain ⟨a0, a1, a2, a3, a4, a5, a6, a7, a8⟩ := hQ.out.1.2.1.cg
      obtain ⟨f0, f1, f2, f3, f4, f5, f6, f7, f8⟩ := fg hQ.out.1.2.1
      have hT1 := Lib.hid (hQ.out.1.2.1.putG n)
      have hR1 := Lib.hid (R4.otherG hQ.out.1.2.2.1 (p := p) (by have := hpq.out; have := hb'.out; omega) n)
      have hK1 := Lib.hid (kpG (Kp.of (p := p) (q := q) hQ.out.1.2.2.2) n)
      clear hQ kT hn he
      go_upto_region 7 with (fail)
      clear c0 c1 c2 c3 c4 c5 c6 c7 c8 a0 a1 a2 a3 a4 a5 a6 a7 a8 f0 f1 f2 f3 f4 f5 f6 f7 f8
      obtain ⟨X, hX⟩ : ∃ X, ((((((((wc.setCell ⟨p, 2, none⟩ (.int .i64 n.e)).setCell ⟨p, 3, none⟩ (.bool n.h0)).setCell ⟨p, 4, none⟩ (.bool n.h1)).setCell ⟨p, 5, none⟩ (.bool n.h2)).setCell ⟨p, 6, none⟩ (.bool n.h3)).setCell ⟨p, 7, none⟩ (.int .u64 n.t0)).setCell ⟨p, 8, none⟩ (.int .u64 n.t1)).setCell ⟨p, 9, none⟩ (.int .u64 n.t2)).setCell ⟨p, 10, none⟩ (.int .u64 n.t3) = X := ⟨_, rfl⟩
      have hT2 : Hid (stbA.T p q { s with g := n } X) := Lib.hid (by rw [← hX]; exact hT1.out)
      have hR2 : Hid (R4 b g X) := Lib.hid (by rw [← hX]; exact hR1.out)
      have hK2 : Hid (Kp p q w X) := Lib.hid (by rw [← hX]; exact hK1.out)
      rw [hX]
      clear hX hT1 hR1 hK1
      obtain ⟨u0, u1, u2, u3, u4, u5, u6, u7, u8⟩ := hT2.out.drew.cu
      obtain ⟨g0, g1, g2, g3⟩ := R4.cells (show R4 b g X.drew from hR2.out)
      go_region_law (go_simp; go_at_call 29; ((with_reducible refine (kT1.out _).mono ?_); rintro e w8 ⟨rfl, hB8⟩); have hT8 := Lib.hid (hT2.out.below (undrew hB8)); have hK8 := Lib.hid (hK2.out.then (undrew hB8)); obtain ⟨v0, v1, v2, v3, v4, v5, v6, v7, v8⟩ := hT8.out.cu; obtain ⟨f0, f1, f2, f3, f4, f5, f6, f7, f8⟩ := fu hT8.out)
      all_goals
        have hT9 := Lib.hid (hT8.out.putU (szV s.u ep g))
        have hK9 := Lib.hid (kpU hK8.out (szV s.u ep g))
        have e9 : Hid (({ s with g := n, u := szV s.u ep g } : Tb) = szT s j m ep) := Lib.hid (by unfold szT; rw [hg.out, hn1.out])
        clear hT2 hR2 hK2 kT1 hT8 hK8 v0 v1 v2 v3 v4 v5 v6 v7 v8 u0 u1 u2 u3 u4 u5 u6 u7 u8 f0 f1 f2 f3 f4 f5 f6 f7 f8 g0 g1 g2 g3
        go_wp2
        go_ret
        exact ⟨rfl, by rw [← e9.out]; exact hT9.out, hK9.out⟩
end Go.Proofs.Ytmhflemmkoiffaa.stbF
