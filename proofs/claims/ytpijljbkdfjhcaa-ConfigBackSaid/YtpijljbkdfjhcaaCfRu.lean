/- ConfigRuns. -/
import Derived.Test.YtpijljbkdfjhcaaCfX
import Derived.Test.YtpijljbkdfjhcaaCfZ
import Derived.Test.YtpijljbkdfjhcaaOpC
set_option linter.unusedVariables false
set_option maxRecDepth 100000
namespace Go.Proofs.Ytpijljbkdfjhcaa.cfRu
open Go.ChangeShapes Go.WideShapes Go.ChangeAt Go.RowKit Go.Deep
open spnM spnA spnB spnD spnI spnJ spnK spnS cfA cfB cfC cfD cfE cfF cfG cfH cfI cfJ cfK cfR cfL cfM cfN cfO cfP cfQ cfS cfT cfU cfV cfW cfX cfZ spnC
attribute [local go_sem ↓ high] op_ldS op_ldR op_ldM ex_ldS ex_ldR ex_ldM op_stS op_stR ex_stS ex_stR
attribute [local go_sem high] stW_at

theorem ix_mo (mo : Nat → Int) {j : Nat} (h : j < 21) (w : World) : (Instr.index 28 (.agg #[.int .i64 (mo 0), .int .i64 (mo 1), .int .i64 (mo 2), .int .i64 (mo 3), .int .i64 (mo 4), .int .i64 (mo 5), .int .i64 (mo 6), .int .i64 (mo 7), .int .i64 (mo 8), .int .i64 (mo 9), .int .i64 (mo 10), .int .i64 (mo 11), .int .i64 (mo 12), .int .i64 (mo 13), .int .i64 (mo 14), .int .i64 (mo 15), .int .i64 (mo 16), .int .i64 (mo 17), .int .i64 (mo 18), .int .i64 (mo 19), .int .i64 (mo 20)]) (.int .i64 (j : Int))).run Try.prog w = .ok (.int .i64 (mo j)) w := by
  rcases many h with rfl | rfl | rfl | rfl | rfl | rfl | rfl | rfl | rfl | rfl | rfl | rfl | rfl | rfl | rfl | rfl | rfl | rfl | rfl | rfl | rfl <;> kernel_rfl
/-- what the law's loop keeps -/
structure RI (b base : Nat) (p n : Int) (s : Cf) (a : Wh) (w0 w : World) : Prop where
  sb : SB TS b s a w
  gs : GS w base s a
  sz : Sz s
  inv : InvC p n s
  bel : Below base w0 w
theorem RI.to {b base : Nat} {p n : Int} {s : Cf} {a : Wh} {w0 w w1 : World} (h : RI b base p n s a w0 w) (hb : base ≤ w0.heap.size) (hB : Below w.heap.size w w1) : RI b base p n s a w0 w1 := ⟨h.sb.below hB, h.gs.below hB, h.sz, h.inv, h.bel.trans (hB.mono (Nat.le_trans hb h.bel.size))⟩
/-- the round's command -/
abbrev L6o (b o : Nat) (c : Cm) (w : World) : Prop :=
  w.cell? ⟨b, o, none⟩ = some (.int .i64 c.kind) ∧ w.cell? ⟨b, o + 1, none⟩ = some (.int .i64 c.dc) ∧ w.cell? ⟨b, o + 2, none⟩ = some (.int .i64 c.shard) ∧ w.cell? ⟨b, o + 3, none⟩ = some (.int .i64 c.node) ∧ w.cell? ⟨b, o + 4, none⟩ = some (.int .i64 c.mode) ∧ w.cell? ⟨b, o + 5, none⟩ = some (.string c.key)
abbrev Q7 (b0 b o : Nat) (s : Cf) (a : Wh) (c : Cm) (w : World) : Prop :=
  RdT TS w (.pointer (some ⟨b0, 0, none⟩)) ∧ rdV TS w (.pointer (some ⟨b0, 0, none⟩)) = .agg (cS s a) ∧ L6o b o c w
theorem q7_of {b0 b o : Nat} {s : Cf} {a : Wh} {c : Cm} {w : World} (h : SB TS b0 s a w) (hl : L6o b o c w) : Q7 b0 b o s a c w := ⟨(rd_row h (.inl rfl)).1, (rd_row h (.inl rfl)).2, hl⟩
theorem l6o_to {b o : Nat} {c : Cm} {w w1 : World} (h : L6o b o c w) (hB : Below w.heap.size w w1) : L6o b o c w1 :=
  ⟨keep_cell hB h.1, keep_cell hB h.2.1, keep_cell hB h.2.2.1, keep_cell hB h.2.2.2.1, keep_cell hB h.2.2.2.2.1, keep_cell hB h.2.2.2.2.2⟩
/-- behind the call: the new configuration in a box of its own -/
structure N7 (V : World) (p : Nat) (R : Cf) (a2 : Wh) (w : World) : Prop where
  le : V.heap.size ≤ p
  sb : SB TS p R a2 w
  gs : GS w V.heap.size R a2
  bel : Below V.heap.size V w
theorem n7_of {V w6 : World} {p base : Nat} {R : Cf} {a2 : Wh} (hp : V.heap.size ≤ p) (hb : V.heap.size ≤ base) (hz : SB TS p zC zA w6) (hG : GS w6 base R a2) (hB : Below V.heap.size V w6) : N7 V p R a2 (w6.setRow p (cS R a2)) :=
  ⟨hp, hz.setRow R a2, (GS.setRow hG hz ts1 ts2 _).more hb, below_setRow' hB hp _⟩
attribute [local go_sem high] stS_al
theorem szal {V w6 : World} {o : Obj} (h : Below (V.alloc o).drew.heap.size (V.alloc o).drew w6) : V.heap.size ≤ (V.alloc o).drew.heap.size := (al0 V o).size
theorem chk_non {n : Int} (h1 : 1 ≤ n) (h4 : n ≤ 4) : chk non n = 3 := by
  unfold chk; rw [if_neg (by omega), if_neg (by simp [non]), if_pos (by simp [non])]
/-- what a round over the maps loads -/
abbrev Q8 (b0 q j : Nat) (x : Bool) (u v : Value) (w : World) : Prop := w.cell? ⟨b0, 2 + j, none⟩ = some (.bool x) ∧ w.cell? ⟨q, 0, none⟩ = some u ∧ w.cell? ⟨q, 1, none⟩ = some v
theorem q8_to {b0 q j : Nat} {x : Bool} {u v : Value} {w w1 : World} (h : Q8 b0 q j x u v w) (hB : Below w.heap.size w w1) : Q8 b0 q j x u v w1 := ⟨keep_cell hB h.1, keep_cell hB h.2.1, keep_cell hB h.2.2⟩
set_option maxHeartbeats 16000000 in
theorem runs_good (p m n : Int) (A : Option Addr) (len cap : Nat) (ls : List opC.Cmd) (w : World) (hb : stB p m n = true) (hl : opG.Rs w opC.QCmd 6 A len ls) :
    Calls Try.prog 5 #[.int .i64 p, .int .i64 m, .int .i64 n, .slice A len cap] w fun e w' => e = .returned (.bool true) ∧ Below w.heap.size w w' := by
  have hst := start_any p m n w
  have hiv := Lib.hid (inv_start hb)
  have hsz := Lib.hid (sz_st p m n)
  have e1 : stE p m n = 0 := by unfold stE; rw [if_pos hb]
  have e2 : cfJ.stM p m n = stC p m n := by unfold cfJ.stM; rw [if_pos hb]
  rw [e1, e2] at hst
  rw [e2] at hsz
  replace hst := Lib.hid hst
  have hlen : len ≤ 9223372036854775807 := hl.2.1
  replace hl := Lib.hid hl
  clear e1 e2 hb
  go_enter Try.func5, Try.ntmps5
  go_upto_region 2 with (first
    | (go_at_call 9; ((with_reducible refine hst.out.mono ?_); rintro e w1 ⟨a, rfl, hG, hB⟩; have hn := Lib.hid (show SB TS w1.heap.size zC zA (w1.alloc (.cells #[.int .i64 0, .int .i64 0, .bool false, .bool false, .bool false, .bool false, .slice none 0 0, .slice none 0 0, .slice none 0 0, .slice none 0 0, .slice none 0 0, .slice none 0 0, .slice none 0 0, .slice none 0 0, .int .i64 0, .int .i64 0, .int .i64 0, .int .i64 0, .int .i64 0, .int .i64 0, .int .i64 0, .int .i64 0, .int .i64 0, .int .i64 0, .int .i64 0, .int .i64 0, .int .i64 0, .int .i64 0, .int .i64 0, .int .i64 0, .int .i64 0, .int .i64 0, .int .i64 0, .int .i64 0, .int .i64 0] TS)) from SB.new TS zC zA w1); have hg := Lib.hid hG; have hb := Lib.hid hB; clear hG hB))
    | (refine st_put rfl TS _ _ rfl w1.heap.size (stC p m n) a rfl rfl hn.out (.inl rfl) ?_; intro W hSW hBW hGW hzW; have hR : Hid (RI w1.heap.size w.heap.size p n (stC p m n) a w W) := Lib.hid ⟨hSW, hGW _ _ _ (hg.out.below (al0 w1 (.cells #[.int .i64 0, .int .i64 0, .bool false, .bool false, .bool false, .bool false, .slice none 0 0, .slice none 0 0, .slice none 0 0, .slice none 0 0, .slice none 0 0, .slice none 0 0, .slice none 0 0, .slice none 0 0, .int .i64 0, .int .i64 0, .int .i64 0, .int .i64 0, .int .i64 0, .int .i64 0, .int .i64 0, .int .i64 0, .int .i64 0, .int .i64 0, .int .i64 0, .int .i64 0, .int .i64 0, .int .i64 0, .int .i64 0, .int .i64 0, .int .i64 0, .int .i64 0, .int .i64 0, .int .i64 0, .int .i64 0] TS))), hsz.out, hiv.out, hb.out.trans (((al0 w1 (.cells #[.int .i64 0, .int .i64 0, .bool false, .bool false, .bool false, .bool false, .slice none 0 0, .slice none 0 0, .slice none 0 0, .slice none 0 0, .slice none 0 0, .slice none 0 0, .slice none 0 0, .slice none 0 0, .int .i64 0, .int .i64 0, .int .i64 0, .int .i64 0, .int .i64 0, .int .i64 0, .int .i64 0, .int .i64 0, .int .i64 0, .int .i64 0, .int .i64 0, .int .i64 0, .int .i64 0, .int .i64 0, .int .i64 0, .int .i64 0, .int .i64 0, .int .i64 0, .int .i64 0, .int .i64 0, .int .i64 0] TS)).trans (hBW w1.heap.size (Nat.le_refl _))).mono hb.out.size)⟩; have hle := Lib.hid hb.out.size; clear hSW hBW hGW hzW hn hg hb)
    | fail)
  generalize w1.heap.size = b0 at *
  clear hst hiv hsz
  generalize stC p m n = s0 at *
  go_wp2_with (fail)
  go_loopw [11] (fun i wr => ∃ (j : Nat) (s : Cf) (a : Wh), j ≤ len ∧ j ≤ 80 ∧ i = .int .i64 j ∧ Hid (RI b0 w.heap.size p n s a w wr)) (fun i _ => 80 - (intOf i).toNat)
  case atStart => exact ⟨0, _, _, by omega, by omega, rfl, hR⟩
  case round =>
    clear hR
    obtain ⟨j, s, a, hj, hj80, rfl, hR⟩ := hrel
    by_cases hlt : j < len ∧ j < 80
    · obtain ⟨hlt, hl8⟩ := hlt
      obtain ⟨b, off, rfl, hbl, ⟨f0, f1, f2, f3, f4, f5⟩, hk⟩ : ∃ b off, A = some ⟨b, off, none⟩ ∧ b < w.heap.size ∧ opC.QCmd w b (off + j * 6) (ls.getD j default) := by
        rcases hl.out.2.2 with h0 | ⟨b, off, e, h3, h4⟩
        · omega
        · exact ⟨b, off, e, h3, h4 j hlt⟩
      generalize ls.getD j default = C at *
      obtain ⟨c, hc⟩ : ∃ c : Cm, c = ⟨C.kind, C.dc, C.shard, C.node, C.mode, C.key⟩ := ⟨_, rfl⟩
      have hkc : Hid (KC c) := Lib.hid (by rw [hc]; exact ⟨hk.1, hk.2.1, hk.2.2.1, hk.2.2.2.1, hk.2.2.2.2.1⟩)
      have hL0 : L6o b (off + j * 6) c w := by rw [hc]; exact ⟨f0, f1, f2, f3, f4, f5⟩
      have ge : ∀ o, wr.cell? ⟨b, o, none⟩ = w.cell? ⟨b, o, none⟩ := fun o => hR.out.bel.cell (p := ⟨b, o, none⟩) hbl
      have hL : Hid (L6o b (off + j * 6) c wr) := Lib.hid (by unfold L6o; rw [ge, ge, ge, ge, ge, ge]; exact hL0)
      clear hc hk f0 f1 f2 f3 f4 f5 hL0 ge hbl
      have hjI : (j : Int) < (len : Int) := by omega
      have hj8I : (j : Int) < 80 := by omega
      have hj0 : (0 : Int) ≤ (j : Int) := by omega
      have hs4 := Lib.hid (q7_of (hR.out.sb.drew) (l6o_to hL.out (below_drew wr)))
      have hs5 := Lib.hid (fun o => q7_of (SB.drew (hR.out.sb.below (al0 wr o))) (l6o_to (l6o_to hL.out (al0 wr o)) (below_drew _)))
      have hq := Lib.hid (fun (w' : World) (hB : Below wr.heap.size wr w') => q7_of (hR.out.sb.below hB) (l6o_to hL.out hB))
      have hap := Lib.hid (fun (w' : World) (hB : Below wr.heap.size wr w') => apply_any s a c w' hkc.out ((hR.out.gs.below hB).hs hR.out.sz))
      have hin := Lib.hid (show apE s c = 0 → InvC p n (apM s c) from fun h0 => by unfold apM; rw [if_pos h0]; exact inv_step hR.out.inv h0)
      have hno := Lib.hid (show apE s c ≠ 0 → apM s c = zC from fun h0 => by unfold apM; rw [if_neg h0])
      have hszR := Lib.hid (sz_ap hR.out.sz c)
      generalize apE s c = E at *
      generalize apM s c = R at *
      go_upto_region 7 with (fail)
      go_cut [12, 13] from 45 to 53 (fun x y wx => ∃ q a2, x = .pointer (some ⟨q, 0, none⟩) ∧ y = .int .i64 (E : Int) ∧ Hid (N7 wr q R a2 wx))
      case first =>
        clear hin hno hszR hR hL
        go_region_held3 (Q7 b0 b (off + j * 6) s a c)
          (first | with_reducible exact hs4.out | with_reducible exact hs5.out _ | with_reducible exact s6.out | with_reducible exact s6a.out _ | with_reducible exact s6b.out | with_reducible exact s6c.out _ | (go_must (exact (0 : Nat))) | fail)
          (first
            | (go_at_call 16; ((with_reducible refine (hap.out _ (by first | with_reducible exact below_drew _ | with_reducible exact (al0 _ _).drew)).mono ?_); rintro e w6 ⟨a6, rfl, hG, hB6⟩; (first | (have x6 : Hid (Below wr.heap.size wr w6) := Lib.hid (by with_reducible exact undrewB hB6); have s6a := Lib.hid (fun o => hq.out _ (belowA x6.out o)); have s6c := Lib.hid (fun o => hq.out _ (below_setRow' (belowA x6.out o) x6.out.size (cS R a6))); have n6C := Lib.hid (fun (cs : Array Value) (e : cs = cS zC zA) => n7_of (V := wr) (p := w6.heap.size) (w6 := w6.alloc (.cells cs TS)) x6.out.size (Nat.le_refl _) (show SB TS _ zC zA _ from by subst e; exact SB.new TS zC zA w6) (GS.below hG (al0 w6 _)) (belowA x6.out _))) | (have x6 : Hid (Below wr.heap.size wr w6) := Lib.hid (by with_reducible exact undrewC hB6); have z6 : SB TS wr.heap.size zC zA w6 := undrewZ hB6 rfl; have st6 := st_of z6 (.inl rfl) R a6; have s6b := Lib.hid (hq.out _ (below_setRow' x6.out (Nat.le_refl _) (cS R a6))); have n6B := Lib.hid (n7_of (V := wr) (Nat.le_refl _) (szal hB6) z6 hG x6.out); clear z6) | fail); have s6 := Lib.hid (hq.out _ x6.out); clear hG hB6))
            | fail)
        all_goals
          go_wp2
          go_meet
          first | exact ⟨_, _, rfl, rfl, n6B⟩ | exact ⟨_, _, rfl, rfl, Lib.hid (n6C.out _ rfl)⟩ | (go_must (exact (0 : Nat)))
      case rest =>
        obtain ⟨q, a2, rfl, rfl, hn⟩ := hcut
        have hRc := Lib.hid (hR.out.to (Nat.le_refl _) hn.out.bel)
        have hx := Lib.hid hn.out.sb
        have hxg := Lib.hid (hn.out.gs.more hR.out.bel.size)
        have hqb := Lib.hid (show q ≠ b0 from by have := hn.out.le; have := hR.out.sb.lt; omega)
        clear hn hR hap hq hs4 hs5 hL hkc
        rename_i K1 aK1
        by_cases h0 : E = 0
        · have hI := Lib.hid (hin.out h0)
          subst h0
          clear hin hno
          have hS9 := Lib.hid hRc.out.sb
          go_upto_region 12 with (first | (refine st_load rfl TS _ rfl q rfl hx.out (.inl rfl) ?_) | (refine st_put rfl TS _ _ rfl b0 R a2 rfl rfl hS9.out (.inl rfl) ?_; intro V hSV hBV hGV hzV; have hR2 : Hid (RI b0 w.heap.size p n R a2 w V) := Lib.hid ⟨hSV, hGV _ _ _ hxg.out, hszR.out, hI.out, hRc.out.bel.trans (hBV w.heap.size hle.out)⟩; clear hSV hBV hGV hzV) | fail)
          clear hRc hx hxg hqb hszR hI hS9
          have hi := Lib.hid (fun (j : Nat) (h : j < 4) (wx : World) => ix_ma R a2 h wx)
          have k0 := hR2.out.sb.m1 (j := 0) (by omega)
          have k1 := hR2.out.sb.m2 (j := 0) (by omega)
          have k2 := hR2.out.sb.m1 (j := 1) (by omega)
          have k3 := hR2.out.sb.m2 (j := 1) (by omega)
          have k4 := hR2.out.sb.m1 (j := 2) (by omega)
          have k5 := hR2.out.sb.m2 (j := 2) (by omega)
          have k6 := hR2.out.sb.m1 (j := 3) (by omega)
          have k7 := hR2.out.sb.m2 (j := 3) (by omega)
          go_wp2_with (fail)
          clear k0 k1 k2 k3 k4 k5 k6 k7
          go_loopw [14, 62] (fun cn i wr => ∃ k : Nat, k ≤ 4 ∧ i = .int .i64 k ∧ cn = .int .i64 (cntN R.me k) ∧ Hid (RI b0 w.heap.size p n R a2 w wr)) (fun _ i _ => 4 - (intOf i).toNat)
          case atStart => exact ⟨0, by omega, rfl, rfl, hR2⟩
          case round =>
            clear hR2
            obtain ⟨k, hk, rfl, rfl, hR3⟩ := hrel
            by_cases hlk : k < 4
            · have hx := hi.out k hlk
              have hk0 : (0 : Int) ≤ (k : Int) := by omega
              have hk4 : (k : Int) < 4 := by omega
              have eu := Lib.hid (cntN_up R.me k)
              have hcl := cntN_le R.me k
              have hok := Lib.hid (hR3.out.inv.ok k hlk)
              have hno2 := Lib.hid (hR3.out.inv.no k hlk)
              have hn1 := Lib.hid hR3.out.inv.n1
              have hme := hR3.out.sb.me hlk
              have hRa := Lib.hid (hR3.out.to (Nat.le_refl _) (al0 wr (.cells #[.slice (a2 k).A1 (R.ms k).cs.length (a2 k).c1, .slice (a2 k).A2 (R.ms k).ns.length (a2 k).c2] 26)))
              have hbx := B2.new wr (.slice (a2 k).A1 (R.ms k).cs.length (a2 k).c1) (.slice (a2 k).A2 (R.ms k).ns.length (a2 k).c2)
              obtain ⟨X, hX⟩ : ∃ X, wr.alloc (.cells #[.slice (a2 k).A1 (R.ms k).cs.length (a2 k).c1, .slice (a2 k).A2 (R.ms k).ns.length (a2 k).c2] 26) = X := ⟨_, rfl⟩
              rw [hX] at hRa hbx
              have hXf := Lib.hid hX
              have hck := Lib.hid (rcheck_any _ _ _ _ (R.ms k) n X.drew ((hRa.out.gs.hs hRa.out.sz).below (below_drew X) k hlk))
              have hmX := hRa.out.sb.me hlk
              have hq8 := Lib.hid (show Q8 b0 wr.heap.size k (R.me k) (.slice (a2 k).A1 (R.ms k).cs.length (a2 k).c1) (.slice (a2 k).A2 (R.ms k).ns.length (a2 k).c2) X.drew from ⟨hmX, hbx.cells.1, hbx.cells.2.1⟩)
              clear hX hR3 hme hbx
              cases hm : R.me k with
              | true =>
                have hc0 := hok.out hm
                rw [hc0] at hck
                rw [hm] at hmX hq8 eu
                clear hok hno2 hm hc0
                go_upto_region 16 with (fail)
                rw [hXf.out]
                go_wp2_with (fail)
                clear hmX
                refine wp_region_noPanic ?_
                refine wp_region_held_drew (S := (fun w' => Q8 b0 wr.heap.size k true (.slice (a2 k).A1 (R.ms k).cs.length (a2 k).c1) (.slice (a2 k).A2 (R.ms k).ns.length (a2 k).c2) w')) (by kernel_rfl) hq8.out (fun hHeld => ?_)
                refine wpAnyH_take (i := 0) (oi := ({ dst := some 72, op := Op.move (Operand.tmp 15), type := 3, pos := "law.go:74", after := #[], guard := none } : Oper)) (v := ?_) rfl (by kernel_rfl) (by kernel_rfl) (by kernel_rfl) (fun _ _ _ h => h) (Or.inl ⟨by rfl, ?_⟩) hHeld ?_
                rotate_left
                · intro w hSw; (try dsimp only at hSw); go_simp; (first | done | with_reducible rfl)
                try simp only [Act.put, List.setIfInBounds_toArray, List.set_cons_zero, List.set_cons_succ]
                refine wpAnyH_take (i := 1) (oi := ({ dst := some 73, op := Op.fieldAddr 30 (Operand.tmp 9) 2, type := 0, pos := "law.go:74", after := #[], guard := none } : Oper)) (v := ?_) rfl (by kernel_rfl) (by kernel_rfl) (by kernel_rfl) (fun _ _ _ h => h) (Or.inl ⟨by rfl, ?_⟩) hHeld ?_
                rotate_left
                · intro w hSw; (try dsimp only at hSw); go_simp; (first | done | with_reducible rfl)
                try simp only [Act.put, List.setIfInBounds_toArray, List.set_cons_zero, List.set_cons_succ]
                refine wpAnyH_take (i := 2) (oi := ({ dst := some 74, op := Op.indexAddr 22 (Operand.tmp 73) (Operand.tmp 72), type := 0, pos := "law.go:74", after := #[{ on := 1, ground := Ground.data }, { on := 0, ground := Ground.data }], guard := none } : Oper)) (v := ?_) rfl (by kernel_rfl) (by kernel_rfl) (by kernel_rfl) (fun _ _ _ h => h) (Or.inl ⟨by rfl, ?_⟩) hHeld ?_
                rotate_left
                · intro w hSw; (try dsimp only at hSw); go_simp; (first | done | with_reducible rfl)
                try simp only [Act.put, List.setIfInBounds_toArray, List.set_cons_zero, List.set_cons_succ]
                refine wpAnyH_take (i := 3) (oi := ({ dst := some 75, op := Op.load 4 (Operand.tmp 74), type := 4, pos := "law.go:74", after := #[{ on := 2, ground := Ground.data }], guard := none } : Oper)) (v := ?_) rfl (by kernel_rfl) (by kernel_rfl) (by kernel_rfl) (fun _ _ _ h => h) (Or.inl ⟨by rfl, ?_⟩) hHeld ?_
                rotate_left
                · intro w hSw; (try dsimp only at hSw); go_simp; (first | done | with_reducible rfl)
                try simp only [Act.put, List.setIfInBounds_toArray, List.set_cons_zero, List.set_cons_succ]
                refine wpAnyH_take (i := 4) (oi := ({ dst := some 76, op := Op.load 26 (Operand.tmp 16), type := 26, pos := "law.go:74", after := #[], guard := none } : Oper)) (v := ?_) rfl (by kernel_rfl) (by kernel_rfl) (by kernel_rfl) (fun _ _ _ h => h) (Or.inl ⟨by rfl, ?_⟩) hHeld ?_
                rotate_left
                · intro w hSw; (try dsimp only at hSw); go_simp; (first | done | with_reducible rfl)
                try simp only [Act.put, List.setIfInBounds_toArray, List.set_cons_zero, List.set_cons_succ]
                refine wpAnyH_take (i := 5) (oi := ({ dst := some 77, op := Op.move (Operand.tmp 2), type := 3, pos := "law.go:74", after := #[], guard := none } : Oper)) (v := ?_) rfl (by kernel_rfl) (by kernel_rfl) (by kernel_rfl) (fun _ _ _ h => h) (Or.inl ⟨by rfl, ?_⟩) hHeld ?_
                rotate_left
                · intro w hSw; (try dsimp only at hSw); go_simp; (first | done | with_reducible rfl)
                try simp only [Act.put, List.setIfInBounds_toArray, List.set_cons_zero, List.set_cons_succ]
                refine wpAnyH_ready (rs := [6]) (by kernel_rfl) (by simp) ?_
                refine AllReadyH.cons (o := ({ dst := some 78, op := Op.call { callee := Callee.value (Operand.func 21), args := #[Operand.tmp 76, Operand.tmp 77], argTypes := #[26, 3] }, type := 31, pos := "law.go:74", after := #[{ on := 4, ground := Ground.data }, { on := 5, ground := Ground.data }], guard := none } : Oper)) rfl (fun K hK => ?_) AllReadyH.nil
                go_simp
                go_at_call 21; ((with_reducible refine hck.out.mono ?_); rintro e w8 ⟨rfl, hB8⟩)
                have hR8 := Lib.hid (hRa.out.to (Nat.le_refl _) (trans0 (below_drew X) hB8))
                have q8b := q8_to hq8.out hB8
                refine hK.out _ _ q8b (fun hHeld => ?_)
                clear hB8 q8b
                clear hK K
                try simp only [Act.put, List.setIfInBounds_toArray, List.set_cons_zero, List.set_cons_succ]
                refine wpAnyH_take (i := 7) (oi := ({ dst := some 79, op := Op.binOp BinOp.eql 31 (Operand.tmp 78) (Operand.const (Value.int IntKind.i64 0)) 31, type := 4, pos := "law.go:74", after := #[{ on := 6, ground := Ground.data }], guard := none } : Oper)) (v := ?_) rfl (by kernel_rfl) (by kernel_rfl) (by kernel_rfl) (fun _ _ _ h => h) (Or.inl ⟨by rfl, ?_⟩) hHeld ?_
                rotate_left
                · intro w hSw; (try dsimp only at hSw); go_simp; (first | done | with_reducible rfl)
                try simp only [Act.put, List.setIfInBounds_toArray, List.set_cons_zero, List.set_cons_succ]
                refine wpAnyH_take (i := 8) (oi := ({ dst := some 80, op := Op.binOp BinOp.neq 4 (Operand.tmp 75) (Operand.tmp 79) 4, type := 4, pos := "law.go:74", after := #[{ on := 3, ground := Ground.data }, { on := 7, ground := Ground.data }], guard := none } : Oper)) (v := ?_) rfl (by kernel_rfl) (by kernel_rfl) (by kernel_rfl) (fun _ _ _ h => h) (Or.inl ⟨by rfl, ?_⟩) hHeld ?_
                rotate_left
                · intro w hSw; (try dsimp only at hSw); go_simp; (first | done | with_reducible rfl)
                try simp only [Act.put, List.setIfInBounds_toArray, List.set_cons_zero, List.set_cons_succ]
                refine wpAnyH_take (i := 9) (oi := ({ dst := some 81, op := Op.move (Operand.tmp 80), type := 4, pos := "law.go:74", after := #[{ on := 8, ground := Ground.data }, { on := 6, ground := Ground.chain }], guard := none } : Oper)) (v := ?_) rfl (by kernel_rfl) (by kernel_rfl) (by kernel_rfl) (fun _ _ _ h => h) (Or.inl ⟨by rfl, ?_⟩) hHeld ?_
                rotate_left
                · intro w hSw; (try dsimp only at hSw); go_simp; (first | done | with_reducible rfl)
                try simp only [Act.put, List.setIfInBounds_toArray, List.set_cons_zero, List.set_cons_succ]
                refine wpAnyH_take (i := 10) (oi := ({ dst := some 82, op := Op.move (Operand.tmp 15), type := 3, pos := "law.go:74", after := #[{ on := 9, ground := Ground.guard }], guard := some (9, false) } : Oper)) (v := ?_) rfl (by kernel_rfl) (by kernel_rfl) (by kernel_rfl) (fun _ _ _ h => h) (Or.inl ⟨by rfl, ?_⟩) hHeld ?_
                rotate_left
                · intro w hSw; (try dsimp only at hSw); go_simp; (first | done | with_reducible rfl)
                try simp only [Act.put, List.setIfInBounds_toArray, List.set_cons_zero, List.set_cons_succ]
                refine wpAnyH_take (i := 11) (oi := ({ dst := some 83, op := Op.fieldAddr 30 (Operand.tmp 9) 2, type := 0, pos := "law.go:74", after := #[{ on := 9, ground := Ground.guard }], guard := some (9, false) } : Oper)) (v := ?_) rfl (by kernel_rfl) (by kernel_rfl) (by kernel_rfl) (fun _ _ _ h => h) (Or.inl ⟨by rfl, ?_⟩) hHeld ?_
                rotate_left
                · intro w hSw; (try dsimp only at hSw); go_simp; (first | done | with_reducible rfl)
                try simp only [Act.put, List.setIfInBounds_toArray, List.set_cons_zero, List.set_cons_succ]
                refine wpAnyH_take (i := 12) (oi := ({ dst := some 84, op := Op.indexAddr 22 (Operand.tmp 83) (Operand.tmp 82), type := 0, pos := "law.go:74", after := #[{ on := 11, ground := Ground.data }, { on := 10, ground := Ground.data }, { on := 9, ground := Ground.guard }], guard := some (9, false) } : Oper)) (v := ?_) rfl (by kernel_rfl) (by kernel_rfl) (by kernel_rfl) (fun _ _ _ h => h) (Or.inl ⟨by rfl, ?_⟩) hHeld ?_
                rotate_left
                · intro w hSw; (try dsimp only at hSw); go_simp; (first | done | with_reducible rfl)
                try simp only [Act.put, List.setIfInBounds_toArray, List.set_cons_zero, List.set_cons_succ]
                refine wpAnyH_take (i := 13) (oi := ({ dst := some 85, op := Op.load 4 (Operand.tmp 84), type := 4, pos := "law.go:74", after := #[{ on := 12, ground := Ground.data }, { on := 9, ground := Ground.guard }], guard := some (9, false) } : Oper)) (v := ?_) rfl (by kernel_rfl) (by kernel_rfl) (by kernel_rfl) (fun _ _ _ h => h) (Or.inl ⟨by rfl, ?_⟩) hHeld ?_
                rotate_left
                · intro w hSw; (try dsimp only at hSw); go_simp; (first | done | with_reducible rfl)
                try simp only [Act.put, List.setIfInBounds_toArray, List.set_cons_zero, List.set_cons_succ]
                refine wpAnyH_take (i := 14) (oi := ({ dst := some 86, op := Op.unOp UnOp.not 4 (Operand.tmp 85), type := 4, pos := "law.go:74", after := #[{ on := 13, ground := Ground.data }, { on := 9, ground := Ground.guard }], guard := some (9, false) } : Oper)) (v := ?_) rfl (by kernel_rfl) (by kernel_rfl) (by kernel_rfl) (fun _ _ _ h => h) (Or.inl ⟨by rfl, ?_⟩) hHeld ?_
                rotate_left
                · intro w hSw; (try dsimp only at hSw); go_simp; (first | done | with_reducible rfl)
                try simp only [Act.put, List.setIfInBounds_toArray, List.set_cons_zero, List.set_cons_succ]
                refine wpAnyH_take (i := 15) (oi := ({ dst := some 87, op := Op.move (Operand.tmp 86), type := 4, pos := "law.go:74", after := #[{ on := 14, ground := Ground.data }, { on := 9, ground := Ground.chain }, { on := 9, ground := Ground.guard }], guard := some (9, false) } : Oper)) (v := ?_) rfl (by kernel_rfl) (by kernel_rfl) (by kernel_rfl) (fun _ _ _ h => h) (Or.inl ⟨by rfl, ?_⟩) hHeld ?_
                rotate_left
                · intro w hSw; (try dsimp only at hSw); go_simp; (first | done | with_reducible rfl)
                try simp only [Act.put, List.setIfInBounds_toArray, List.set_cons_zero, List.set_cons_succ]
                refine wpAnyH_take (i := 16) (oi := ({ dst := some 88, op := Op.fieldAddr 26 (Operand.tmp 16) 1, type := 0, pos := "law.go:74", after := #[{ on := 15, ground := Ground.guard }], guard := some (15, true) } : Oper)) (v := undef) rfl (by kernel_rfl) (by kernel_rfl) (by kernel_rfl) (fun _ _ _ h => h) (Or.inr ⟨by rfl, rfl⟩) hHeld ?_
                try simp only [Act.put, List.setIfInBounds_toArray, List.set_cons_zero, List.set_cons_succ]
                refine wpAnyH_take (i := 17) (oi := ({ dst := some 89, op := Op.load 24 (Operand.tmp 88), type := 24, pos := "law.go:74", after := #[{ on := 16, ground := Ground.data }, { on := 15, ground := Ground.guard }], guard := some (15, true) } : Oper)) (v := undef) rfl (by kernel_rfl) (by kernel_rfl) (by kernel_rfl) (fun _ _ _ h => h) (Or.inr ⟨by rfl, rfl⟩) hHeld ?_
                try simp only [Act.put, List.setIfInBounds_toArray, List.set_cons_zero, List.set_cons_succ]
                refine wpAnyH_take (i := 18) (oi := ({ dst := some 90, op := Op.call { callee := Callee.builtin Builtin.len, args := #[Operand.tmp 89], argTypes := #[24] }, type := 3, pos := "law.go:74", after := #[{ on := 17, ground := Ground.data }, { on := 15, ground := Ground.guard }], guard := some (15, true) } : Oper)) (v := undef) rfl (by kernel_rfl) (by kernel_rfl) (by kernel_rfl) (fun _ _ _ h => h) (Or.inr ⟨by rfl, rfl⟩) hHeld ?_
                try simp only [Act.put, List.setIfInBounds_toArray, List.set_cons_zero, List.set_cons_succ]
                refine wpAnyH_take (i := 19) (oi := ({ dst := some 91, op := Op.fieldAddr 26 (Operand.tmp 16) 0, type := 0, pos := "law.go:74", after := #[{ on := 15, ground := Ground.guard }], guard := some (15, true) } : Oper)) (v := undef) rfl (by kernel_rfl) (by kernel_rfl) (by kernel_rfl) (fun _ _ _ h => h) (Or.inr ⟨by rfl, rfl⟩) hHeld ?_
                try simp only [Act.put, List.setIfInBounds_toArray, List.set_cons_zero, List.set_cons_succ]
                refine wpAnyH_take (i := 20) (oi := ({ dst := some 92, op := Op.load 23 (Operand.tmp 91), type := 23, pos := "law.go:74", after := #[{ on := 19, ground := Ground.data }, { on := 15, ground := Ground.guard }], guard := some (15, true) } : Oper)) (v := undef) rfl (by kernel_rfl) (by kernel_rfl) (by kernel_rfl) (fun _ _ _ h => h) (Or.inr ⟨by rfl, rfl⟩) hHeld ?_
                try simp only [Act.put, List.setIfInBounds_toArray, List.set_cons_zero, List.set_cons_succ]
                refine wpAnyH_take (i := 21) (oi := ({ dst := some 93, op := Op.call { callee := Callee.builtin Builtin.len, args := #[Operand.tmp 92], argTypes := #[23] }, type := 3, pos := "law.go:74", after := #[{ on := 20, ground := Ground.data }, { on := 15, ground := Ground.guard }], guard := some (15, true) } : Oper)) (v := undef) rfl (by kernel_rfl) (by kernel_rfl) (by kernel_rfl) (fun _ _ _ h => h) (Or.inr ⟨by rfl, rfl⟩) hHeld ?_
                try simp only [Act.put, List.setIfInBounds_toArray, List.set_cons_zero, List.set_cons_succ]
                refine wpAnyH_take (i := 22) (oi := ({ dst := some 94, op := Op.binOp BinOp.add 3 (Operand.tmp 90) (Operand.tmp 93) 3, type := 3, pos := "law.go:74", after := #[{ on := 18, ground := Ground.data }, { on := 21, ground := Ground.data }, { on := 15, ground := Ground.guard }], guard := some (15, true) } : Oper)) (v := undef) rfl (by kernel_rfl) (by kernel_rfl) (by kernel_rfl) (fun _ _ _ h => h) (Or.inr ⟨by rfl, rfl⟩) hHeld ?_
                try simp only [Act.put, List.setIfInBounds_toArray, List.set_cons_zero, List.set_cons_succ]
                refine wpAnyH_take (i := 23) (oi := ({ dst := some 95, op := Op.binOp BinOp.gtr 3 (Operand.tmp 94) (Operand.const (Value.int IntKind.i64 0)) 3, type := 4, pos := "law.go:74", after := #[{ on := 22, ground := Ground.data }, { on := 15, ground := Ground.guard }], guard := some (15, true) } : Oper)) (v := undef) rfl (by kernel_rfl) (by kernel_rfl) (by kernel_rfl) (fun _ _ _ h => h) (Or.inr ⟨by rfl, rfl⟩) hHeld ?_
                try simp only [Act.put, List.setIfInBounds_toArray, List.set_cons_zero, List.set_cons_succ]
                refine wpAnyH_take (i := 24) (oi := ({ dst := some 96, op := Op.pick (Operand.tmp 87) (Operand.tmp 95) (Operand.const (Value.bool false)), type := 4, pos := "law.go:74", after := #[{ on := 15, ground := Ground.data }, { on := 23, ground := Ground.data }, { on := 9, ground := Ground.guard }], guard := some (9, false) } : Oper)) (v := ?_) rfl (by kernel_rfl) (by kernel_rfl) (by kernel_rfl) (fun _ _ _ h => h) (Or.inl ⟨by rfl, ?_⟩) hHeld ?_
                rotate_left
                · intro w hSw; (try dsimp only at hSw); go_simp; (first | done | with_reducible rfl)
                try simp only [Act.put, List.setIfInBounds_toArray, List.set_cons_zero, List.set_cons_succ]
                refine wpAnyH_take (i := 25) (oi := ({ dst := some 97, op := Op.pick (Operand.tmp 81) (Operand.const (Value.bool true)) (Operand.tmp 96), type := 4, pos := "law.go:74", after := #[{ on := 9, ground := Ground.data }, { on := 24, ground := Ground.data }], guard := none } : Oper)) (v := ?_) rfl (by kernel_rfl) (by kernel_rfl) (by kernel_rfl) (fun _ _ _ h => h) (Or.inl ⟨by rfl, ?_⟩) hHeld ?_
                rotate_left
                · intro w hSw; (try dsimp only at hSw); go_simp; (first | done | with_reducible rfl)
                try simp only [Act.put, List.setIfInBounds_toArray, List.set_cons_zero, List.set_cons_succ]
                refine wpAnyH_done (by kernel_rfl) ?_ _
                refine NoPanic.normal ?_
                go_wp2
                go_roundw
                case rel => exact ⟨k + 1, by omega, by go_num, by rw [eu.out]; simp, hR8⟩
                case measure => simp [intOf]; omega
              | false =>
                have hms := hno2.out hm
                have hc3 : chk (R.ms k) n = 3 := by rw [hms]; exact chk_non hn1.out.1 hn1.out.2
                have hq8' : Hid (Q8 b0 wr.heap.size k false (.slice (a2 k).A1 0 (a2 k).c1) (.slice (a2 k).A2 0 (a2 k).c2) X.drew) := Lib.hid (by have := hq8.out; rw [hm, hms] at this; exact this)
                rw [hc3, hms] at hck
                rw [hm] at eu
                rw [hms] at hXf hx
                have hck' : Hid (Calls Try.prog 21 #[.agg #[.slice (a2 k).A1 0 (a2 k).c1, .slice (a2 k).A2 0 (a2 k).c2], .int .i64 n] X.drew fun e w' => e = .returned (.int .i64 3) ∧ Below X.drew.heap.size X.drew w') := hck
                have hmX' : X.cell? ⟨b0, 2 + k, none⟩ = some (.bool false) := by rw [← hm]; exact hmX
                have hx' : ∀ wx, (Instr.index 27 (.agg #[.slice (a2 0).A1 (R.ms 0).cs.length (a2 0).c1, .slice (a2 0).A2 (R.ms 0).ns.length (a2 0).c2, .slice (a2 1).A1 (R.ms 1).cs.length (a2 1).c1, .slice (a2 1).A2 (R.ms 1).ns.length (a2 1).c2, .slice (a2 2).A1 (R.ms 2).cs.length (a2 2).c1, .slice (a2 2).A2 (R.ms 2).ns.length (a2 2).c2, .slice (a2 3).A1 (R.ms 3).cs.length (a2 3).c1, .slice (a2 3).A2 (R.ms 3).ns.length (a2 3).c2]) (.int .i64 (k : Int))).run Try.prog wx = .ok (.agg #[.slice (a2 k).A1 0 (a2 k).c1, .slice (a2 k).A2 0 (a2 k).c2]) wx := hx
                have hXf' : Hid (wr.alloc (.cells #[.slice (a2 k).A1 0 (a2 k).c1, .slice (a2 k).A2 0 (a2 k).c2] 26) = X) := hXf
                clear hok hno2 hm hms hc3 hq8 hck hmX hx hXf
                go_upto_region 16 with (fail)
                rw [hXf'.out]
                go_wp2_with (fail)
                go_region_held3 (Q8 b0 wr.heap.size k false (.slice (a2 k).A1 0 (a2 k).c1) (.slice (a2 k).A2 0 (a2 k).c2))
                  (first | with_reducible exact hq8'.out | with_reducible exact q8b.out | (go_must (exact (0 : Nat))))
                  (first | (go_at_call 21; ((with_reducible refine hck'.out.mono ?_); rintro e w8 ⟨rfl, hB8⟩; have q8b := Lib.hid (q8_to hq8'.out hB8); have hR8 := Lib.hid (hRa.out.to (Nat.le_refl _) (trans0 (below_drew X) hB8)); clear hB8)) | fail)
                all_goals
                  go_wp2
                  go_roundw
                  case rel => exact ⟨k + 1, by omega, by go_num, by rw [eu.out]; simp, hR8⟩
                  case measure => simp [intOf]; omega
            · obtain rfl : k = 4 := by omega
              clear hi hk hlk
              generalize wr = w9 at *
              obtain ⟨r1, r2⟩ := rd_modes hR3.out.sb
              go_wp2_with (fail)
              rw [show ((4 : Nat) : Int) = (4 : Int) from rfl]
              clear r1 r2
              go_loopw [101] (fun i wr => ∃ x : Nat, x ≤ 21 ∧ i = .int .i64 x ∧ Hid (RI b0 w.heap.size p n R a2 w wr)) (fun i _ => 21 - (intOf i).toNat)
              case atStart => exact ⟨0, by omega, rfl, hR3⟩
              case round =>
                clear hR3
                obtain ⟨x, hx, rfl, hR4⟩ := hrel
                by_cases hlx : x < 21
                · have hx0 : (0 : Int) ≤ (x : Int) := by omega
                  have hx1 : (x : Int) < 21 := by omega
                  have hix := ix_mo R.mo hlx
                  obtain ⟨r1, r2⟩ := rd_modes hR4.out.sb
                  have hmx := Lib.hid (hR4.out.inv.mo x hlx)
                  have hagr := Lib.hid (fun y hy => hR4.out.inv.agr x y hlx hy)
                  have hagr2 := Lib.hid (fun y hy => hR4.out.inv.agr y x hy hlx)
                  have hmo := Lib.hid hR4.out.inv.mo
                  go_wp2_with (fail)
                  clear r1 r2 hix
                  go_loopw [106] (fun i wr => ∃ y : Nat, y ≤ 21 ∧ i = .int .i64 y ∧ Hid (RI b0 w.heap.size p n R a2 w wr)) (fun i _ => 21 - (intOf i).toNat)
                  case atStart => exact ⟨0, by omega, rfl, hR4⟩
                  case round =>
                    clear hR4
                    obtain ⟨y, hy, rfl, hR5⟩ := hrel
                    by_cases hly : y < 21
                    · have hy0 : (0 : Int) ≤ (y : Int) := by omega
                      have hy1 : (y : Int) < 21 := by omega
                      have hiy := ix_mo R.mo hly
                      have hag := Lib.hid (fun w => agree_any (R.mo x) (R.mo y) w hmx.out (hmo.out y hly))
                      have hne : (agv (R.mo x) (R.mo y) == 0) = false := by
                        rw [beq_eq_false_iff_ne]
                        exact agv_ne hmx.out (hmo.out y hly) (hagr.out y hly) (hagr2.out y hly)
                      generalize agv (R.mo x) (R.mo y) = g at *
                      go_wp2_with (first | (go_at_call 22; ((with_reducible refine (hag.out _).mono ?_); rintro e w' ⟨rfl, rfl⟩)) | fail)
                      go_roundw
                      case rel => exact ⟨y + 1, by omega, by go_num, hR5⟩
                      case measure => simp [intOf]; omega
                    · obtain rfl : y = 21 := by omega
                      clear hmx hagr hagr2 hmo
                      go_wp2
                      go_roundw
                      case rel => exact ⟨x + 1, by omega, by go_num, hR5⟩
                      case measure => simp [intOf]; omega
                · obtain rfl : x = 21 := by omega
                  have hct := Lib.hid (fun w => count_any R a2 w)
                  have hcp := Lib.hid hR4.out.inv.cnt
                  have hcz : (((cnt R : Nat) : Int) == 0) = false := by rw [beq_eq_false_iff_ne]; have := hcp.out; omega
                  have hce : ((cntN R.me 4 : Nat) : Int) = ((cnt R : Nat) : Int) := rfl
                  rw [hce]
                  obtain ⟨r1, r2⟩ := rd_row hR4.out.sb (.inl rfl)
                  have hpe := Lib.hid hR4.out.inv.pool
                  have hne := Lib.hid hR4.out.inv.nodes
                  clear hce
                  generalize cnt R = cn at *
                  go_wp2_with (first | (go_at_call 13; ((with_reducible refine (hct.out _).mono ?_); rintro e w5 ⟨rfl, hB5⟩; have hR6 := Lib.hid (hR4.out.to (Nat.le_refl _) hB5); have c0 := hR6.out.sb.c0; have c1 := hR6.out.sb.c1; rw [hpe.out] at c0; rw [hne.out] at c1; clear hB5)) | fail)
                  go_roundw
                  case rel => exact ⟨j + 1, R, a2, by omega, by omega, by go_num, hR6⟩
                  case measure => simp [intOf]; omega
        · have hRz := hno.out h0
          subst hRz
          have h0' : ((E : Int) != 0) = true := by simp [h0]
          have hc0 := hx.out.c0
          rw [show zC.pool = 0 from rfl] at hc0
          clear hno hin h0 hqb hxg hszR
          go_wp2
          go_roundw
          case rel => exact ⟨j + 1, s, a, by omega, by omega, by go_num, hRc⟩
          case measure => simp [intOf]; omega
    · have hend : ((j : Int) < (len : Int) → ¬ (j : Int) < 80) := by omega
      by_cases hlt2 : j < len
      · have hj80' : ¬ (j : Int) < 80 := by omega
        have hjl : (j : Int) < (len : Int) := by omega
        have hb9 := Lib.hid hR.out.bel
        clear hR hend hlt
        go_wp2_with (first | (go_at_call 11; ((with_reducible refine (awake_any _).mono ?_); rintro e w9 ⟨rfl, hB9⟩; have hb10 := Lib.hid (trans0 hb9.out hB9); clear hB9)) | fail)
        go_ret
        exact ⟨rfl, hb10.out⟩
      · have hjl : ¬ (j : Int) < (len : Int) := by omega
        have hb9 := Lib.hid hR.out.bel
        clear hR hend hlt
        go_wp2_with (first | (go_at_call 11; ((with_reducible refine (awake_any _).mono ?_); rintro e w9 ⟨rfl, hB9⟩; have hb10 := Lib.hid (trans0 hb9.out hB9); clear hB9)) | fail)
        go_ret
        exact ⟨rfl, hb10.out⟩
set_option maxHeartbeats 1000000 in
theorem runs_bad (p m n : Int) (v : Value) (w : World) (hb : stB p m n = false) :
    Calls Try.prog 5 #[.int .i64 p, .int .i64 m, .int .i64 n, v] w fun e w' => e = .returned (.bool true) ∧ Below w.heap.size w w' := by
  have hst := start_any p m n w
  have hf : ¬ stB p m n = true := by rw [hb]; simp
  have e1 : stE p m n = 1 := by unfold stE; rw [if_neg hf]
  have e2 : cfJ.stM p m n = zC := by unfold cfJ.stM; rw [if_neg hf]
  rw [e1, e2] at hst
  replace hst := Lib.hid hst
  clear e1 e2 hb hf
  go_enter Try.func5, Try.ntmps5
  go_wp2_with (first
    | (go_at_call 9; ((with_reducible refine hst.out.mono ?_); rintro e w1 ⟨a, rfl, hG, hB⟩; have hn := Lib.hid (show SB TS w1.heap.size zC zA (w1.alloc (.cells #[.int .i64 0, .int .i64 0, .bool false, .bool false, .bool false, .bool false, .slice none 0 0, .slice none 0 0, .slice none 0 0, .slice none 0 0, .slice none 0 0, .slice none 0 0, .slice none 0 0, .slice none 0 0, .int .i64 0, .int .i64 0, .int .i64 0, .int .i64 0, .int .i64 0, .int .i64 0, .int .i64 0, .int .i64 0, .int .i64 0, .int .i64 0, .int .i64 0, .int .i64 0, .int .i64 0, .int .i64 0, .int .i64 0, .int .i64 0, .int .i64 0, .int .i64 0, .int .i64 0, .int .i64 0, .int .i64 0] TS)) from SB.new TS zC zA w1); have hb := Lib.hid hB; clear hG hB))
    | (refine st_put rfl TS _ _ rfl w1.heap.size zC a rfl rfl hn.out (.inl rfl) ?_; intro W hSW hBW hGW hzW; have hbW := Lib.hid (trans0 hb.out ((al0 w1 (.cells #[.int .i64 0, .int .i64 0, .bool false, .bool false, .bool false, .bool false, .slice none 0 0, .slice none 0 0, .slice none 0 0, .slice none 0 0, .slice none 0 0, .slice none 0 0, .slice none 0 0, .slice none 0 0, .int .i64 0, .int .i64 0, .int .i64 0, .int .i64 0, .int .i64 0, .int .i64 0, .int .i64 0, .int .i64 0, .int .i64 0, .int .i64 0, .int .i64 0, .int .i64 0, .int .i64 0, .int .i64 0, .int .i64 0, .int .i64 0, .int .i64 0, .int .i64 0, .int .i64 0, .int .i64 0, .int .i64 0] TS)).trans (hBW w1.heap.size (Nat.le_refl _)))); clear hSW hBW hGW hzW)
    | (go_at_call 11; ((with_reducible refine (awake_any _).mono ?_); rintro e w9 ⟨rfl, hB9⟩; have hb10 := Lib.hid (trans0 hbW.out hB9); clear hB9))
    | fail)
  go_ret
  exact ⟨rfl, hb10.out⟩
theorem runs_any (p m n : Int) (A : Option Addr) (len cap : Nat) (ls : List opC.Cmd) (w : World) (hl : opG.Rs w opC.QCmd 6 A len ls) :
    Calls Try.prog 5 #[.int .i64 p, .int .i64 m, .int .i64 n, .slice A len cap] w fun e w' => e = .returned (.bool true) ∧ Below w.heap.size w w' := by
  cases hb : stB p m n
  · exact runs_bad p m n _ w hb
  · exact runs_good p m n A len cap ls w hb hl
end Go.Proofs.Ytpijljbkdfjhcaa.cfRu
