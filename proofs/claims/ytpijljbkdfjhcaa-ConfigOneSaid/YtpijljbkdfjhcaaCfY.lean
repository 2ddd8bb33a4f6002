/- ConfigOne. -/
import Derived.Test.YtpijljbkdfjhcaaCfX
set_option linter.unusedVariables false
set_option maxRecDepth 100000
namespace Go.Proofs.Ytpijljbkdfjhcaa.cfY
open Go.ChangeShapes Go.WideShapes Go.ChangeAt Go.RowKit Go.Deep
open spnM spnA spnB spnD spnI spnJ spnK spnS cfA cfB cfC cfD cfE cfF cfG cfH cfI cfJ cfK cfR cfL cfM cfN cfO cfP cfQ cfS cfT cfU cfV cfW cfX
attribute [local go_sem ↓ high] op_ldS op_ldR op_ldM ex_ldS ex_ldR ex_ldM op_stS op_stR ex_stS ex_stR
attribute [local go_sem high] stW_at

/-- a command changes its own datacenter alone -/
structure Oth (s R : Cf) (c : Cm) : Prop where
  dc : 0 ≤ c.dc ∧ c.dc ≤ 3
  pool : R.pool = s.pool
  nodes : R.nodes = s.nodes
  me : ∀ j, j ≠ dcN c → R.me j = s.me j
  ms : ∀ j, j ≠ dcN c → R.ms j = s.ms j
  mo : ∀ p : Nat, (p = 0 ∨ (p - 1) / 5 ≠ dcN c) → R.mo p = s.mo p
theorem spk_oth (mo : Nat → Int) (j : Nat) (x : Int) (p : Nat) (h : p = 0 ∨ (p - 1) / 5 ≠ j) : spkF mo j 5 x p = mo p := by
  unfold spkF; rw [if_neg (by omega)]
theorem oth_of {s : Cf} {c : Cm} (h : apE s c = 0) : Oth s (chM s c) c := by
  cases way s c with
  | kind _ e => omega
  | dc _ _ e => omega
  | pool _ _ _ e => omega
  | no _ _ _ _ e => omega
  | add h1 h2 h3 e q => rw [q]; exact ⟨h2, rfl, rfl, fun j hj => upd_other _ _ hj, fun j hj => upd_other _ _ hj, fun p hp => spk_oth _ _ _ _ hp⟩
  | rem h1 h2 h3 h4 e q => rw [q]; exact ⟨h2, rfl, rfl, fun j hj => upd_other _ _ hj, fun j hj => upd_other _ _ hj, fun p hp => spk_oth _ _ _ _ hp⟩
  | sw h1 h2 h3 h4 e q =>
    rw [q]
    have hm : may s c = true := by
      cases hm : may s c
      · rw [e] at h; unfold swE at h; rw [if_pos hm] at h; omega
      · rfl
    obtain ⟨n0, n1, n2, n3, n4⟩ := may_yes hm
    exact ⟨h2, rfl, rfl, fun _ _ => rfl, fun _ _ => rfl, fun p hp => upd_other _ _ (by unfold plc; unfold dcN at hp; omega)⟩
  | shp h1 h2 h3 h4 e q => rw [q]; exact ⟨h2, rfl, rfl, fun _ _ => rfl, fun j hj => upd_other _ _ hj, fun _ _ => rfl⟩
theorem hs_z (w : World) : HS w zC zA := fun i _ => (GM.non_ w 0).hm (by simp [non]) (by simp [non])
/-- what a round loads -/
abbrev Q9 (b0 b1 p1 j : Nat) (s : Cf) (a : Wh) (c : Cm) (R : Cf) (a2 : Wh) (w : World) : Prop :=
  w.cell? ⟨b1, 1, none⟩ = some (.int .i64 c.dc) ∧ w.cell? ⟨p1, 2 + j, none⟩ = some (.bool (R.me j)) ∧ w.cell? ⟨b0, 2 + j, none⟩ = some (.bool (s.me j)) ∧
  w.cell? ⟨p1, 6 + j * 2, none⟩ = some (.slice (a2 j).A1 (R.ms j).cs.length (a2 j).c1) ∧ w.cell? ⟨p1, 6 + j * 2 + 1, none⟩ = some (.slice (a2 j).A2 (R.ms j).ns.length (a2 j).c2) ∧
  w.cell? ⟨b0, 6 + j * 2, none⟩ = some (.slice (a j).A1 (s.ms j).cs.length (a j).c1) ∧ w.cell? ⟨b0, 6 + j * 2 + 1, none⟩ = some (.slice (a j).A2 (s.ms j).ns.length (a j).c2)
theorem q9_of {b0 b1 p1 j : Nat} {s : Cf} {a : Wh} {c : Cm} {R : Cf} {a2 : Wh} {w : World} (hj : j < 4) (h : J0 b0 b1 s a c w) (h1 : SB TS p1 R a2 w) : Q9 b0 b1 p1 j s a c R a2 w :=
  ⟨h.l6.2.1, h1.me hj, h.sb.me hj, h1.m1 hj, h1.m2 hj, h.sb.m1 hj, h.sb.m2 hj⟩
set_option maxHeartbeats 8000000 in
theorem one_small (s : Cf) (a : Wh) (c : Cm) (w : World) (hk : KC c) (hH : HS w s a) (hg : grt s = false) : Calls Try.prog 6 #[.agg (cS s a), vC c] w fun e w' => e = .returned (.bool true) ∧ Below w.heap.size w w' := by
  have hB1 := al0 w (.cells (cS s a) TS)
  have hS1 := SB.new TS s a w
  obtain ⟨W1, hW1⟩ : ∃ W1, w.alloc (.cells (cS s a) TS) = W1 := ⟨_, rfl⟩
  have hz1 : W1.heap.size = w.heap.size + 1 := by rw [← hW1]; simp
  rw [hW1] at hB1 hS1
  have hB2 := al0 W1 (.cells (cC c) 43)
  obtain ⟨d0, d1, d2⟩ := cells6 W1 c 43
  obtain ⟨e0, e2, e3, e5⟩ := cells6b W1 c 43
  obtain ⟨W, hW2⟩ : ∃ W2, W1.alloc (.cells (cC c) 43) = W2 := ⟨_, rfl⟩
  rw [hW2] at hB2 d0 d1 d2 e0 e2 e3 e5
  rw [hz1] at d0 d1 d2 e0 e2 e3 e5
  have hBW := Lib.hid (trans0 hB1 hB2)
  have hJW := Lib.hid (show J0 w.heap.size (w.heap.size + 1) s a c W from ⟨hS1.below hB2, e0, d0, e2, d1, d2, e5⟩)
  have hWf : Hid ((w.alloc (.cells (cS s a) TS)).alloc (.cells (cC c) 43) = W) := Lib.hid (by rw [hW1, hW2])
  have hHW := Lib.hid (hH.below hBW.out)
  have hsR := Lib.hid (sz_ap hH.sz c)
  have hgr := great_any s a W hH.sz
  rw [hg] at hgr
  replace hgr := Lib.hid hgr
  have hap := Lib.hid (fun w' (h : HS w' s a) => apply_any s a c w' hk h)
  have hot := Lib.hid (show apE s c = 0 → Oth s (apM s c) c from fun h0 => by unfold apM; rw [if_pos h0]; exact oth_of h0)
  have hno := Lib.hid (show apE s c ≠ 0 → apM s c = zC from fun h0 => by unfold apM; rw [if_neg h0])
  have hSo := hJW.out.sb
  clear hB1 hS1 hW1 hz1 hB2 d0 d1 d2 e0 e2 e3 e5 hW2 hH hk hg
  generalize apE s c = E at *
  generalize apM s c = R at *
  by_cases h0 : E = 0
  all_goals
    go_enter Try.func6, Try.ntmps6
    go_upto_region 1 with (fail)
    rw [hWf.out]
    go_upto_region 4 with (first
      | (refine st_load rfl TS _ rfl w.heap.size rfl hSo (.inl rfl) ?_; clear hSo)
      | (go_at_call 15; ((with_reducible refine hgr.out.mono ?_); rintro e w1 ⟨rfl, hB1⟩; have hj1 := Lib.hid (hJW.out.to hB1); have hS1 := hj1.out.sb; have hh1 := Lib.hid (hHW.out.below hB1); have hb1 := Lib.hid (trans0 hBW.out hB1); obtain ⟨l0, l1, l2, l3, l4, l5⟩ := hj1.out.l6; clear hB1 hJW hHW hgr))
      | (refine st_load rfl TS _ rfl w.heap.size rfl hS1 (.inl rfl) ?_; clear hS1)
      | (go_at_call 16; ((with_reducible refine (hap.out _ hh1.out).mono ?_); rintro e w2 ⟨a2, rfl, hG2, hB2⟩; have hn2 := Lib.hid (show SB TS w2.heap.size zC zA (w2.alloc (.cells #[.int .i64 0, .int .i64 0, .bool false, .bool false, .bool false, .bool false, .slice none 0 0, .slice none 0 0, .slice none 0 0, .slice none 0 0, .slice none 0 0, .slice none 0 0, .slice none 0 0, .slice none 0 0, .int .i64 0, .int .i64 0, .int .i64 0, .int .i64 0, .int .i64 0, .int .i64 0, .int .i64 0, .int .i64 0, .int .i64 0, .int .i64 0, .int .i64 0, .int .i64 0, .int .i64 0, .int .i64 0, .int .i64 0, .int .i64 0, .int .i64 0, .int .i64 0, .int .i64 0, .int .i64 0, .int .i64 0] TS)) from SB.new TS zC zA w2); have hg2 := Lib.hid hG2; have hb2 := Lib.hid hB2; clear hG2 hB2 l0 l1 l2 l3 l4 l5))
      | (refine st_put rfl TS _ _ rfl w2.heap.size R a2 rfl rfl hn2.out (.inl rfl) ?_; intro V hSV hBV hGV hzV; have hbV := Lib.hid ((al0 w2 (.cells #[.int .i64 0, .int .i64 0, .bool false, .bool false, .bool false, .bool false, .slice none 0 0, .slice none 0 0, .slice none 0 0, .slice none 0 0, .slice none 0 0, .slice none 0 0, .slice none 0 0, .slice none 0 0, .int .i64 0, .int .i64 0, .int .i64 0, .int .i64 0, .int .i64 0, .int .i64 0, .int .i64 0, .int .i64 0, .int .i64 0, .int .i64 0, .int .i64 0, .int .i64 0, .int .i64 0, .int .i64 0, .int .i64 0, .int .i64 0, .int .i64 0, .int .i64 0, .int .i64 0, .int .i64 0, .int .i64 0] TS)).trans (hBV w2.heap.size (Nat.le_refl _))); have hJ := Lib.hid ((hj1.out.to hb2.out).to hbV.out); have hHS := Lib.hid ((hh1.out.below hb2.out).below hbV.out); have hxV := Lib.hid hSV; have hxH := Lib.hid ((hGV _ _ _ (hg2.out.below (al0 w2 (.cells #[.int .i64 0, .int .i64 0, .bool false, .bool false, .bool false, .bool false, .slice none 0 0, .slice none 0 0, .slice none 0 0, .slice none 0 0, .slice none 0 0, .slice none 0 0, .slice none 0 0, .slice none 0 0, .int .i64 0, .int .i64 0, .int .i64 0, .int .i64 0, .int .i64 0, .int .i64 0, .int .i64 0, .int .i64 0, .int .i64 0, .int .i64 0, .int .i64 0, .int .i64 0, .int .i64 0, .int .i64 0, .int .i64 0, .int .i64 0, .int .i64 0, .int .i64 0, .int .i64 0, .int .i64 0, .int .i64 0] TS)))).hs hsR.out); have hwV := Lib.hid (trans0 hb1.out (trans0 hb2.out hbV.out)); clear hSV hBV hGV hzV hn2 hg2 hb2 hbV hj1 hh1 hb1)
      | fail)
    generalize w2.heap.size = p1 at *
    clear hap hsR hWf hBW
  · have hO := Lib.hid (hot.out h0)
    subst h0
    clear hot hno
    obtain ⟨dc0, dc3⟩ := hO.out.dc
    have hdj := Lib.hid (show c.dc = ((dcN c : Nat) : Int) by unfold dcN; omega)
    go_wp2_with (fail)
    go_loopw [26] (fun i wr => ∃ k : Nat, k ≤ 4 ∧ i = .int .i64 k ∧ Hid (Below V.heap.size V wr)) (fun i _ => 4 - (intOf i).toNat)
    case atStart => exact ⟨0, by omega, rfl, Lib.hid (Below.refl _ _)⟩
    case round =>
      obtain ⟨k, hk, rfl, hB⟩ := hrel
      by_cases hlt : k < 4
      · have hj0 : (0 : Int) ≤ (k : Int) := by omega
        have hj1 : (k : Int) < 4 := by omega
        have hJr := Lib.hid (hJ.out.to hB.out)
        have hxr := Lib.hid (hxV.out.below hB.out)
        by_cases hkd : k = dcN c
        · have hne : ((k : Int) != c.dc) = false := by rw [hdj.out, hkd]; simp
          obtain ⟨l0, l1, l2, l3, l4, l5⟩ := hJr.out.l6
          have hBx := Lib.hid (fun n => below_drewN' hB.out n)
          clear hkd hB l0 l2 l3 l4 l5
          go_wp2_with (fail)
          go_quiet (fail)
          go_wp2
          go_roundw
          case rel => exact ⟨k + 1, by omega, by go_num, Lib.hid (hBx.out _)⟩
          case measure => simp [intOf]; omega
        · have hne : ((k : Int) != c.dc) = true := by rw [bne_iff_ne]; have := hdj.out; omega
          have em := hO.out.me k hkd
          have es := hO.out.ms k hkd
          have hs4 := Lib.hid (q9_of hlt (hJr.out.to (below_drew wr)) (hxr.out.below (below_drew wr)))
          have hBd := Lib.hid (hB.out.drew)
          have hsa := spnT.same_any _ _ _ _ _ _ _ _ (R.ms k) wr.drew ((hxH.out.below hBd.out) k hlt) (by have := (hHS.out.below hBd.out) k hlt; rw [← es] at this; exact this)
          have hs5 := Lib.hid (fun (w' : World) (hB : Below wr.drew.heap.size wr.drew w') => q9_of hlt ((hJr.out.to (below_drew wr)).to hB) ((hxr.out.below (below_drew wr)).below hB))
          have hsa' : Hid (Calls Try.prog 23 #[.agg #[.slice (a2 k).A1 (s.ms k).cs.length (a2 k).c1, .slice (a2 k).A2 (s.ms k).ns.length (a2 k).c2], .agg #[.slice (a k).A1 (s.ms k).cs.length (a k).c1, .slice (a k).A2 (s.ms k).ns.length (a k).c2]] wr.drew fun e w' => e = .returned (.bool true) ∧ Below wr.drew.heap.size wr.drew w') := Lib.hid (by rw [es] at hsa; exact hsa)
          have h9 : Hid (∀ w', Q9 w.heap.size (w.heap.size + 1) p1 k s a c R a2 w' → Q9 w.heap.size (w.heap.size + 1) p1 k s a c (⟨R.pool, R.nodes, s.me, s.ms, R.mo⟩ : Cf) a2 w') := Lib.hid fun w' h => by
            obtain ⟨x0, x1, x2, x3, x4, x5, x6⟩ := h
            rw [em] at x1
            rw [es] at x3 x4
            exact ⟨x0, x1, x2, x3, x4, x5, x6⟩
          have hs4' := Lib.hid (h9.out _ hs4.out)
          have hs5' := Lib.hid (fun w' hB => h9.out _ (hs5.out w' hB))
          clear hkd hB em es hsa hs4 hs5 h9
          go_wp2_with (fail)
          go_region_held3 (Q9 w.heap.size (w.heap.size + 1) p1 k s a c (⟨R.pool, R.nodes, s.me, s.ms, R.mo⟩ : Cf) a2)
            (first | with_reducible exact hs4'.out | with_reducible exact s5.out | (go_must (exact (0 : Nat))))
            (first | (go_at_call 23; ((with_reducible refine hsa'.out.mono ?_); rintro e w5 ⟨rfl, hB5⟩; have s5 := Lib.hid (hs5'.out _ hB5); have hb5 := Lib.hid (trans0 hBd.out hB5); clear hB5)) | fail)
          all_goals
            go_wp2
            go_roundw
            case rel => exact ⟨k + 1, by omega, by go_num, hb5⟩
            case measure => simp [intOf]; omega
      · obtain rfl : k = 4 := by omega
        clear hk hlt
        generalize wr = w8 at *
        go_wp2_with (fail)
        rw [show ((4 : Nat) : Int) = (4 : Int) from rfl]
        go_loopw [57] (fun i wr => ∃ k : Nat, k ≤ 21 ∧ i = .int .i64 k ∧ Hid (Below V.heap.size V wr)) (fun i _ => 21 - (intOf i).toNat)
        case atStart => exact ⟨0, by omega, rfl, hB⟩
        case round =>
          clear hB
          obtain ⟨k, hk, rfl, hB⟩ := hrel
          by_cases hlt : k < 21
          · have hj0 : (0 : Int) ≤ (k : Int) := by omega
            have hj1 : (k : Int) < 21 := by omega
            have hJr := hJ.out.to hB.out
            have hxr := hxV.out.below hB.out
            have l1 := hJr.l6.2.1
            have m0 := hJr.sb.mo hlt
            have m1 := hxr.mo hlt
            have hBx := Lib.hid (fun n => below_drewN' hB.out n)
            have hmo := hO.out.mo k
            clear hJr hxr hB
            by_cases hk0 : k = 0
            · subst hk0
              rw [hmo (.inl rfl)] at m1
              clear hmo
              go_wp2_with (fail)
              go_quiet (fail)
              go_wp2
              go_roundw
              case rel => exact ⟨0 + 1, by omega, by first | rfl | simp, Lib.hid (hBx.out _)⟩
              case measure => simp [intOf]
            · have t0 : ((k : Int) == 0) = false := by rw [beq_eq_false_iff_ne]; omega
              obtain ⟨q, hqe⟩ : ∃ q : Nat, (k - 1) / 5 = q := ⟨_, rfl⟩
              have hq : ((k : Int) - 1).tdiv 5 = (q : Int) := by
                have : ((k : Int) - 1) = ((k - 1 : Nat) : Int) := by omega
                rw [this, ← hqe]; rfl
              have hq2 : ((k : Int) - 1) / 5 = (q : Int) := by omega
              rw [hqe] at hmo
              replace hqe := Lib.hid hqe
              have hw1 : IntKind.i64.wrap ((k : Int) - 1) = (k : Int) - 1 := wrap_in _ (by omega) (by omega)
              by_cases hd : q = dcN c
              · have t1 : ((q : Int) != c.dc) = false := by rw [hdj.out, hd]; simp
                clear hmo hk0 hd
                go_wp2_with (fail)
                go_quiet (fail)
                go_wp2
                go_roundw
                case rel => exact ⟨k + 1, by omega, by go_num, Lib.hid (hBx.out _)⟩
                case measure => simp [intOf]; omega
              · have t1 : ((q : Int) != c.dc) = true := by rw [bne_iff_ne]; have := hdj.out; omega
                rw [hmo (.inr hd)] at m1
                clear hmo hk0 hd
                go_wp2_with (fail)
                go_quiet (fail)
                go_wp2
                go_roundw
                case rel => exact ⟨k + 1, by omega, by go_num, Lib.hid (hBx.out _)⟩
                case measure => simp [intOf]; omega
          · obtain rfl : k = 21 := by omega
            have hpp := Lib.hid hO.out.pool
            have hpn := Lib.hid hO.out.nodes
            have hbw := Lib.hid (trans0 hwV.out hB.out)
            have hJr := Lib.hid (hJ.out.to hB.out)
            have hxr := Lib.hid (hxV.out.below hB.out)
            clear hB
            go_wp2_with (first | (go_at_call 11; ((with_reducible refine (awake_any _).mono ?_); rintro e w9 ⟨rfl, hB9⟩; have x0 := (hxr.out.below hB9).c0; have x1 := (hxr.out.below hB9).c1; have y0 := ((hJr.out.to hB9).sb).c0; have y1 := ((hJr.out.to hB9).sb).c1; rw [hpp.out] at x0; rw [hpn.out] at x1; have hb9 := Lib.hid (trans0 hbw.out hB9); clear hB9)) | fail)
            go_ret
            exact ⟨by simp, hb9.out⟩
  · have hRz := hno.out h0
    subst hRz
    have h0' : ((E : Int) != 0) = true := by simp [h0]
    have hx1 := Lib.hid hxV
    clear hot hno h0 hJ hHS
    go_wp2_with (first
      | (go_at_call 11; ((with_reducible refine (awake_any _).mono ?_); rintro e w9 ⟨rfl, hB9⟩; have hl9 := rd_row (hxV.out.below hB9) (.inl rfl); obtain ⟨r1, r2⟩ := hl9; have hb9 := Lib.hid (trans0 hwV.out hB9); have hh9 := Lib.hid (hxH.out.below hB9); clear hB9))
      | (go_at_call 12; ((refine (same_any zC a2 zA _ hh9.out (hs_z _)).mono ?_); rintro e w10 ⟨rfl, hB10⟩; have hb10 := Lib.hid (trans0 hb9.out hB10); clear hB10))
      | fail)
    go_ret
    exact ⟨by simp, hb10.out⟩
set_option maxHeartbeats 1000000 in
theorem one_any (s : Cf) (a : Wh) (c : Cm) (w : World) (hk : KC c) (hH : HS w s a) : Calls Try.prog 6 #[.agg (cS s a), vC c] w fun e w' => e = .returned (.bool true) ∧ Below w.heap.size w w' := by
  cases hg : grt s with
  | false => exact one_small s a c w hk hH hg
  | true =>
    have hB1 := al0 w (.cells (cS s a) TS)
    have hS1 := SB.new TS s a w
    obtain ⟨W1, hW1⟩ : ∃ W1, w.alloc (.cells (cS s a) TS) = W1 := ⟨_, rfl⟩
    rw [hW1] at hB1 hS1
    have hB2 := al0 W1 (.cells (cC c) 43)
    obtain ⟨W, hW2⟩ : ∃ W2, W1.alloc (.cells (cC c) 43) = W2 := ⟨_, rfl⟩
    rw [hW2] at hB2
    have hBW := Lib.hid (trans0 hB1 hB2)
    have hSo := hS1.below hB2
    have hWf : Hid ((w.alloc (.cells (cS s a) TS)).alloc (.cells (cC c) 43) = W) := Lib.hid (by rw [hW1, hW2])
    have hgr := great_any s a W hH.sz
    rw [hg] at hgr
    replace hgr := Lib.hid hgr
    clear hB1 hS1 hW1 hB2 hW2 hH hk hg
    go_enter Try.func6, Try.ntmps6
    go_upto_region 1 with (fail)
    rw [hWf.out]
    go_wp2_with (first
      | (refine st_load rfl TS _ rfl w.heap.size rfl hSo (.inl rfl) ?_; clear hSo)
      | (go_at_call 15; ((with_reducible refine hgr.out.mono ?_); rintro e w1 ⟨rfl, hB1⟩; have hb1 := Lib.hid (trans0 hBW.out hB1); clear hB1))
      | (go_at_call 11; ((with_reducible refine (awake_any _).mono ?_); rintro e w2 ⟨rfl, hB2⟩; have hb2 := Lib.hid (trans0 hb1.out hB2); clear hB2))
      | fail)
    go_ret
    exact ⟨rfl, hb2.out⟩
end Go.Proofs.Ytpijljbkdfjhcaa.cfY
