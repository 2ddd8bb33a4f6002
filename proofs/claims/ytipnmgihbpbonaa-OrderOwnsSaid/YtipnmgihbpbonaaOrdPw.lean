/- The contract of the document's Release. -/
import Derived.Test.YtipnmgihbpbonaaOrdP
set_option linter.unusedVariables false
set_option linter.unusedSimpArgs false
set_option maxRecDepth 100000
namespace Go.Proofs.Ytipnmgihbpbonaa.ordPw
open Go.ChangeShapes Go.WideShapes Go.ChangeAt Go.RowKit Go.Deep
open opV chnM gen chnA chnR chnE ordA ordB ordC ordCr ordM ordL ordD ordH ordI ordK ordRl ordW ordE2 ordQ ordP

/-- what the inner loop reads: the log's row of those that wait, its bound -/
structure Ro (wr : World) (p : Nat) (A2 : Option Addr) (c2 : Nat) (mw : List MR) (b : Int) : Prop where
  k1 : wr.cell? ⟨p, 1, none⟩ = some (.slice A2 mw.length c2)
  k2 : wr.cell? ⟨p, 2, none⟩ = some (.int .u64 b)
  row : HR wr A2 c2 mw
theorem Ro.below {wr w1 : World} {p : Nat} {A2 : Option Addr} {c2 : Nat} {mw : List MR} {b : Int} (h : Ro wr p A2 c2 mw b) (hB : Below wr.heap.size wr w1) : Ro w1 p A2 c2 mw b := ⟨keep_cell hB h.k1, keep_cell hB h.k2, h.row.below hB⟩
theorem atI_map (mw : List MR) (b : Int) (i : Nat) (h : i < mw.length) : atI (mw.map MR.r) b (i + 1) = if (nt mw i).ts ≤ b ∧ (atI (mw.map MR.r) b i < 0 ∨ isAhead (nt mw i).k (nt (mw.map MR.r) (atI (mw.map MR.r) b i).toNat).1 = true) then (i : Int) else atI (mw.map MR.r) b i := by
  show (if _ then _ else _) = _
  rw [nt_map h]
  rfl
set_option maxHeartbeats 8000000 in
theorem rrelease_any {col : Nat → Nat} {c p : Nat} {L D : Lg} {A1 A2 : Option Addr} {c1 c2 : Nat} {ms mw : List MR} (w : World) (h : LogIs T2 col c w p D A1 c1 A2 c2 ms mw) (hs : D.st = L.st) (hb : D.bd = L.bd) (hp : D.wt.Perm L.wt) (hok : L.ok) (hc : c ≠ 0) (hf : Fresh col w) (t : Int) (hl : L.st.length + L.wt.length ≤ 90) :
    Calls Try.prog 13 #[.pointer (some ⟨p, 0, none⟩), .int .u64 t] w fun e w' => e = .returned (.int .i64 (cnt L t)) ∧ DLv col c p (rS L t) w w' := by
  obtain ⟨b, hbq⟩ : ∃ b, mx L.bd t = b := ⟨_, rfl⟩
  have hplt := h.row.lt
  -- behind the bound's raise
  have hfirst : Hid (∀ wx, (wx = w ∧ D.bd = b) ∨ wx = w.setCell ⟨p, 2, none⟩ (.int .u64 b) → Rq col c p L t w 0 wx) := Lib.hid fun wx hx => by
    refine ⟨Nat.zero_le _, col, ?_⟩
    have e1 : L.st ++ L.wt.take 0 = D.st := by rw [List.take_zero, List.append_nil, hs]
    rw [e1, hbq]
    rcases hx with ⟨rfl, hx⟩ | rfl
    · refine ⟨⟨Ext.refl _ _, hf, Chg.refl _ _ _⟩, A1, c1, A2, c2, ms, mw, ?_, by rw [h.e2, List.drop_zero]; exact hp⟩
      rw [h.e2, ← hx]
      exact h
    · obtain ⟨h1, h2⟩ := rel0 h hc hf b
      exact ⟨h1, A1, c1, A2, c2, ms, mw, by rw [h.e2]; exact h2, by rw [h.e2, List.drop_zero]; exact hp⟩
  obtain ⟨k0, k1, k2⟩ := h.cells
  obtain ⟨f0, f1, f2⟩ := h.fz
  have hbd : D.bd < t ∨ ¬ D.bd < t := by omega
  have hcs : (t > D.bd ∧ b = t) ∨ (¬ t > D.bd ∧ D.bd = b) := by
    rw [← hbq, hb]; unfold mx
    rcases (by omega : L.bd < t ∨ ¬ L.bd < t) with h | h
    · left; rw [if_pos h]; exact ⟨h, rfl⟩
    · right; rw [if_neg h]; exact ⟨h, rfl⟩
  replace hbq := Lib.hid hbq
  replace hok := Lib.hid hok
  clear h hs hp hf hb hbd
  generalize D.bd = bd at *
  go_enter Try.func13, Try.ntmps13
  go_upto_if 14 with (fail)
  go_cut [] from 14 to 18 (fun wx => Hid (Rq col c p L t w 0 wx))
  case first =>
    rcases hcs with ⟨h1, h2⟩ | ⟨h1, h2⟩
    · have hd : decide (bd < t) = true := decide_eq_true h1
      have hcut := Lib.hid (hfirst.out _ (.inr rfl))
      rw [h2] at hcut
      clear hfirst h2
      go_wp2
      go_meet
      exact hcut
    · have hd : decide (bd < t) = false := decide_eq_false h1
      have hcut := Lib.hid (hfirst.out w (.inl ⟨rfl, h2⟩))
      clear hfirst h2
      go_wp2
      go_meet
      exact hcut
  case rest =>
  clear hfirst hcs k0 k1 k2 f0 f1 f2
  go_wp2
  go_loopw [5] (fun u wr => ∃ j : Nat, u = .int .i64 j ∧ Hid (Rq col c p L t w j wr)) (fun u _ => L.wt.length + 1 - (intOf u).toNat)
  case atStart => exact ⟨0, rfl, hcut⟩
  case round =>
    clear hcut
    obtain ⟨j, rfl, hQ⟩ := hrel
    obtain ⟨hj, col1, hC, B1, d1, B2, d2, ns, nw, hI, hpm⟩ := id hQ.out
    rw [hbq.out] at hI
    have hcl := cnt_le L t
    have hnsl : ns.length = L.st.length + j := by rw [(at_len hI).1]; simp; omega
    have hnwl : nw.length = L.wt.length - j := by have := hpm.length_eq; simp at this; exact this
    have hRo : Hid (Ro wr p B2 d2 nw b) := Lib.hid ⟨hI.cells.2.1, hI.cells.2.2, log_hw hI⟩
    have hn9 : nw.length ≤ 200 := by omega
    replace hnsl := Lib.hid hnsl
    replace hnwl := Lib.hid hnwl
    replace hpm := Lib.hid hpm
    replace hC := Lib.hid hC
    have hI' := Lib.hid hI
    clear hI
    go_wp2
    generalize wr = wo at *
    go_loopw [6, 7] (fun s u wr => ∃ i : Nat, i ≤ nw.length ∧ s = .int .i64 (atI (nw.map MR.r) b i) ∧ u = .int .i64 i ∧ Hid (Below wo.heap.size wo wr)) (fun _ u _ => nw.length - (intOf u).toNat)
    case atStart => exact ⟨0, by omega, rfl, rfl, Lib.hid (Below.refl _ _)⟩
    case round =>
      obtain ⟨i, hi, rfl, rfl, hB⟩ := hrel
      by_cases hlt : i < nw.length
      · have hR := hRo.out.below hB.out
        have q1 := hR.k1
        have q2 := hR.k2
        have hltI : (i : Int) < (nw.length : Int) := by omega
        have hst := atI_map nw b i hlt
        obtain ⟨pb, po, rfl, hpb, hcc⟩ := hR.row.at hlt
        by_cases hts : (nt nw i).ts ≤ b
        · rcases atI_spec (nw.map MR.r) b i with ⟨e1, -⟩ | ⟨a, ha, e1, -, -⟩
          · have hup := Lib.hid (show atI (nw.map MR.r) b (i + 1) = (i : Int) by rw [hst, if_pos ⟨hts, .inl (by rw [e1]; decide)⟩])
            have hd := decide_eq_true hts
            rw [e1]
            clear hst hts e1
            obtain ⟨c0, c1', c2', c3⟩ := hcc
            generalize nt nw i = x at *
            have hz : decide ((-1 : Int) < 0) = true := rfl
            have hB2 := Lib.hid (fun n => bdrN n (Below.refl wr.heap.size wr))
            go_wp2
            go_quiet (fail)
            have hB' := Lib.hid (trans0 hB.out (hB2.out nq))
            clear hB hB2 c0 c1' c2' c3 q1 q2
            go_wp2
            go_roundw
            case rel => exact ⟨i + 1, by omega, by rw [hup.out], by go_num, hB'⟩
            case measure => simp [intOf]; omega
          · have hal : a < nw.length := by omega
            obtain ⟨pb', po', e9, -, hca⟩ := hR.row.at hal
            cases e9
            rw [e1] at hst ⊢
            rw [show ((a : Int)).toNat = a from rfl, nt_map hal] at hst
            have hd := decide_eq_true hts
            have ha0 : ¬ ((a : Int) < 0) := by omega
            have haI : (a : Int) < (nw.length : Int) := by omega
            have hS : Hid (((D2 pb (po + i * 4) pb (po + a * 4) (nt nw i) (nt nw a) wr.drew ∧ wr.drew.cell? ⟨p, 1, none⟩ = some (.slice (some ⟨pb, po, none⟩) nw.length d2)) ∧ wr.drew.cell? ⟨p, 2, none⟩ = some (.int .u64 b)) ∧ Below wr.heap.size wr wr.drew) := Lib.hid ⟨⟨⟨⟨hcc, hca⟩, q1⟩, q2⟩, below_drew _⟩
            have hles := Lib.hid (less_any (nt nw i).k (nt nw a).k)
            have hmx := Lib.hid (rmark_any (nt nw i))
            have hmy := Lib.hid (rmark_any (nt nw a))
            cases hah : isAhead (nt nw i).k (nt nw a).k with
            | true =>
              have hup := Lib.hid (show atI (nw.map MR.r) b (i + 1) = (i : Int) by rw [hst, if_pos ⟨hts, .inr hah⟩])
              rw [hah] at hles
              clear hst hts hah e1
              generalize nt nw i = x at *
              generalize nt nw a = y at *
              generalize x.k = kx at *
              generalize y.k = ky at *
              obtain ⟨c0, c1', c2', c3⟩ := hcc
              obtain ⟨e0', e1', e2', e3'⟩ := hca
              go_wp2
              go_region_held3 (fun w' => ((D2 pb (po + i * 4) pb (po + a * 4) x y w' ∧ w'.cell? ⟨p, 1, none⟩ = some (.slice (some ⟨pb, po, none⟩) nw.length d2)) ∧ w'.cell? ⟨p, 2, none⟩ = some (.int .u64 b)) ∧ Below wr.heap.size wr w')
                (first | with_reducible exact hS.out | with_reducible assumption | with_reducible exact ⟨⟨⟨D2.below (And.left (And.left (And.left (by assumption)))) (by assumption), keep_cell (by assumption) (And.right (And.left (And.left (by assumption))))⟩, keep_cell (by assumption) (And.right (And.left (by assumption)))⟩, trans0 (And.right (by assumption)) (by assumption)⟩ | fail)
                (first
                  | (go_at_call 21; ((with_reducible refine (hmx.out _).mono ?_); rintro e w' ⟨rfl, hB9⟩))
                  | (go_at_call 21; ((with_reducible refine (hmy.out _).mono ?_); rintro e w' ⟨rfl, hB9⟩))
                  | (go_at_call 20; ((with_reducible refine (hles.out _).mono ?_); rintro e w' ⟨rfl, hB9⟩)) | fail)
              all_goals
                rename_i hHeld
                have hB' := Lib.hid (trans0 hB.out hHeld.2)
                clear hHeld hS hles hmx hmy hB
                go_wp2
                go_roundw
                case rel => exact ⟨i + 1, by omega, by rw [hup.out], by go_num, hB'⟩
                case measure => simp [intOf]; omega
            | false =>
              have hup := Lib.hid (show atI (nw.map MR.r) b (i + 1) = (a : Int) by rw [hst, if_neg (by rintro ⟨-, h9 | h9⟩; exact ha0 h9; exact absurd (h9.symm.trans hah) (by decide))])
              rw [hah] at hles
              clear hst hts hah e1
              generalize nt nw i = x at *
              generalize nt nw a = y at *
              generalize x.k = kx at *
              generalize y.k = ky at *
              obtain ⟨c0, c1', c2', c3⟩ := hcc
              obtain ⟨e0', e1', e2', e3'⟩ := hca
              go_wp2
              go_region_held3 (fun w' => ((D2 pb (po + i * 4) pb (po + a * 4) x y w' ∧ w'.cell? ⟨p, 1, none⟩ = some (.slice (some ⟨pb, po, none⟩) nw.length d2)) ∧ w'.cell? ⟨p, 2, none⟩ = some (.int .u64 b)) ∧ Below wr.heap.size wr w')
                (first | with_reducible exact hS.out | with_reducible assumption | with_reducible exact ⟨⟨⟨D2.below (And.left (And.left (And.left (by assumption)))) (by assumption), keep_cell (by assumption) (And.right (And.left (And.left (by assumption))))⟩, keep_cell (by assumption) (And.right (And.left (by assumption)))⟩, trans0 (And.right (by assumption)) (by assumption)⟩ | fail)
                (first
                  | (go_at_call 21; ((with_reducible refine (hmx.out _).mono ?_); rintro e w' ⟨rfl, hB9⟩))
                  | (go_at_call 21; ((with_reducible refine (hmy.out _).mono ?_); rintro e w' ⟨rfl, hB9⟩))
                  | (go_at_call 20; ((with_reducible refine (hles.out _).mono ?_); rintro e w' ⟨rfl, hB9⟩)) | fail)
              all_goals
                rename_i hHeld
                have hB' := Lib.hid (trans0 hB.out hHeld.2)
                clear hHeld hS hles hmx hmy hB
                go_wp2
                go_roundw
                case rel => exact ⟨i + 1, by omega, by rw [hup.out], by go_num, hB'⟩
                case measure => simp [intOf]; omega
        · have hup := Lib.hid (show atI (nw.map MR.r) b (i + 1) = atI (nw.map MR.r) b i by rw [hst, if_neg (fun h9 => hts h9.1)])
          have hd := decide_eq_false hts
          clear hst hts
          obtain ⟨c0, c1', c2', c3⟩ := hcc
          generalize nt nw i = x at *
          generalize atI (nw.map MR.r) b i = z at *
          have hB2 := Lib.hid (fun n => bdrN n (Below.refl wr.heap.size wr))
          go_wp2
          go_quiet (fail)
          have hB' := Lib.hid (trans0 hB.out (hB2.out nq))
          clear hB hB2 c0 c1' c2' c3 q1 q2
          go_wp2
          go_roundw
          case rel => exact ⟨i + 1, by omega, by rw [hup.out], by go_num, hB'⟩
          case measure => simp [intOf]; omega
      · obtain rfl : i = nw.length := by omega
        have hwl : (nw.map MR.r).length = nw.length := List.length_map _
        rcases atI_spec (nw.map MR.r) b nw.length with ⟨e1, -⟩ | ⟨a, ha, e1, -, -⟩
        · have hjc := Lib.hid (chosen_none hok.out hpm.out hj (by rw [hwl, hbq.out]; exact e1))
          have hfin := Lib.hid (rq_end (rq_below hQ.out hB.out) hjc.out)
          have q1 := (hRo.out.below hB.out).k1
          rw [e1]
          clear e1 hwl
          go_wp2
          go_ret
          exact ⟨by rw [← hjc.out]; rfl, hfin.out⟩
        · obtain ⟨-, hjc, hxe, hpn, htk⟩ := chosen hok.out hpm.out hj (a := a) (by rw [hwl, hbq.out]; exact e1)
          rw [nt_map ha] at hxe htk
          rw [e1]
          have hI2 := hI'.out.below hB.out
          have hC2 := Lib.hid (hC.out.trans (Cn.below hC.out.2.1 hB.out))
          have hf2 := hC2.out.2.1
          obtain ⟨k0, k1, k2⟩ := hI2.cells
          obtain ⟨f0, f1, f2⟩ := hI2.fz
          obtain ⟨pb, po, rfl, hpb, hca⟩ := (log_hw hI2).at ha
          have hmem := nt_mem ha
          have hle2 := (log_hw hI2).le
          have htop2 := (log_hw hI2).top
          have hlen2 := hI2.len
          have hadd := Lib.hid (fun w3 A' c' o hg ho hat => radd1 (w3 := w3) (A' := A') (c' := c') (o := o) hI2 hc hf2 hmem (by have := hnsl.out; have := hnwl.out; omega) hg ho hat)
          have hplr := hI2.row.lt
          generalize hx9 : nt nw a = x at *
          have hown := Lib.hid ((hI2.o1).below (al0 wr (.cells #[.int .u64 x.ts, .int .i64 x.dc, .int .i64 x.tx, .slice x.A x.vs.length x.c] 32)))
          have hst := Lib.hid (stand_new wr (cR x) 32 1)
          obtain ⟨iV, hiV, hzV0, hzV1, hzV2⟩ := info_parts infoR
          have ha0 : ¬ ((a : Int) < 0) := by omega
          have haI : (a : Int) < (nw.length : Int) := by omega
          have hnn : Hid (ns.length + 1 ≤ maxLen ∧ (ns.length + 1) * 48 ≤ 140737488355328) := Lib.hid ⟨by unfold maxLen; omega, by omega⟩
          obtain ⟨c0, c1', c2', c3⟩ := hca
          replace hxe := Lib.hid hxe
          replace hpn := Lib.hid hpn
          replace htk := Lib.hid htk
          replace hx9 := Lib.hid hx9
          replace hwl := Lib.hid hwl
          clear hI2 e1 hf2 hmem
          go_upto_region 12 with (fail)
          go_region_law (refine step_gen rfl (.tmp 72) (.tmp 80) 26 rfl 0 32 iV _ 4 48 Try.underlying26 hiV hzV0 hzV1 hzV2 rfl (by decide) (.slice B1 ns.length d1) ns.length (gl ns) (by rfl) hown.out (some ⟨wr.heap.size, 0, none⟩) 1 1 (cR x) (by rfl) rfl hst.out (cR_one _) hnn.out.1 hnn.out.2 (Nat.zero_le _) ?_; intro A3 c3' w3 ho hg hat; obtain ⟨z1, z2, hD⟩ := hadd.out w3 A3 c3' _ ⟨hg.os, hg.tape, hg.output, hg.size, hg.block⟩ ho hat; replace hD := Lib.hid hD; clear ho hg hat)
          all_goals
            obtain ⟨W4, hW4⟩ : ∃ W4, w3.setCell ⟨p, 0, none⟩ (.slice A3 (ns.length + 1) c3') = W4 := ⟨_, rfl⟩
            rw [hW4] at hD ⊢
            obtain ⟨col4, hC4, h4⟩ := hD.out
            have hC4' := hC2.out.trans hC4
            clear k0 k1 k2 f0 f1 f2 z1 z2 hown hst hadd hW4 hnn c0 c1' c2' c3
            obtain ⟨k0, k1, k2⟩ := h4.cells
            have hw4 := log_hw h4
            have hs1 := slice_to (some ⟨pb, po, none⟩) nw.length d2 a (by omega)
            have hs2 := slice_from (some ⟨pb, po, none⟩) nw.length d2 (a + 1) (by omega)
            rw [show ((a + 1 : Nat) : Int) = (a : Int) + 1 from rfl] at hs2
            have hta : (nw.take a).length = a := by simp; omega
            have hdl : (nw.drop (a + 1)).length = nw.length - (a + 1) := by simp
            have hst1 : Hid (Stand (W4.alloc (.cells #[] 32)) (some ⟨pb, po, none⟩) a (gl (nw.take a))) := Lib.hid (by have := (hv_to (hw4.below (al0 W4 (.cells #[] 32))) (show a ≤ nw.length by omega)).stand; rwa [hta] at this)
            have hst2 : Hid (∀ w5, Below W4.heap.size W4 w5 → Stand w5 (fromA (some ⟨pb, po, none⟩) d2 (a + 1)) (nw.length - (a + 1)) (gl (nw.drop (a + 1)))) := Lib.hid (fun w5 hB5 => by have := (hv_from (hw4.below hB5) (show a + 1 ≤ nw.length by omega)).stand; rwa [hdl] at this)
            have hgl1 : Hid ((gl (nw.take a)).length = a * 4) := Lib.hid (by rw [gl_len, hta])
            have hgl2 : Hid ((gl (nw.drop (a + 1))).length = (nw.length - (a + 1)) * 4) := Lib.hid (by rw [gl_len, hdl])
            have hone1 := Lib.hid (gl_all (nw.take a))
            have hone2 := Lib.hid (gl_all (nw.drop (a + 1)))
            have hemp := Lib.hid (emp_r W4 W4.heap.size (Nat.le_refl _))
            have hls : Hid (0 + a ≤ maxLen ∧ (0 + a) * 48 ≤ 140737488355328 ∧ W4.heap.size ≤ (W4.alloc (.cells #[] 32)).heap.size ∧ a + (nw.length - (a + 1)) ≤ maxLen ∧ (a + (nw.length - (a + 1))) * 48 ≤ 140737488355328) := Lib.hid ⟨by unfold maxLen; omega, by omega, (al0 _ _).size, by unfold maxLen; omega, by omega⟩
            have hh1 := Lib.hid (fun w5 A' c' ho hg => half1 (w := W4) (w3 := w5) (A' := A') (c' := c') (k := nw.take a) hta ho hg)
            have hh2 := Lib.hid (fun w5 w6 A5 c5 A' c' hB5 h5 ho hg => half2 (w := W4) (w3 := w5) (w4 := w6) (A := A5) (cc := c5) (A' := A') (c' := c') (k := nw.take a) (k2 := nw.drop (a + 1)) hta hdl hB5 h5 ho hg)
            have hr2 := Lib.hid (fun w6 A' c' hB6 hG6 => radd2 (w3 := w6) (A' := A') (c' := c') (l' := nw.take a ++ nw.drop (a + 1)) h4 hc hC4.2.1 hB6 hG6 (fun x hx => by
              rcases List.mem_append.1 hx with hx | hx
              · exact List.mem_of_mem_take hx
              · exact List.mem_of_mem_drop hx) (by have := h4.len; simp at this ⊢; omega))
            have hpl4 := h4.row.lt
            have hnl2 : Hid ((nw.take a ++ nw.drop (a + 1)).length = a + (nw.length - (a + 1))) := Lib.hid (by simp; omega)
            have hs3 : IntKind.i64.wrap ((a : Int) + 1) = (a : Int) + 1 := wrap_in _ (by omega) (by omega)
            generalize fromA (some ⟨pb, po, none⟩) d2 (a + 1) = A9 at *
            replace hC4' := Lib.hid hC4'
            clear h4 hw4 hC4 hta hdl hD
            go_wp2_with (first
              | (at_builtin; refine wpList_gen rfl (.tmp 84) (.tmp 90) 26 rfl W4.heap.size 32 iV _ 4 48 Try.underlying26 hiV hzV0 hzV1 hzV2 rfl (by decide) (.slice (some ⟨W4.heap.size, 0, none⟩) 0 0) 0 [] (by rfl) hemp.out (some ⟨pb, po, none⟩) a d2 (gl (nw.take a)) (by rfl) hgl1.out hst1.out hone1.out hls.out.1 hls.out.2.1 hls.out.2.2.1 ?_; intro A5 c5 w5 ho5 hg5 hat5; obtain ⟨h5, hB5⟩ := hh1.out w5 A5 c5 ho5 hg5; rw [Nat.zero_add] at *; have h5' := Lib.hid h5; have hB5' := Lib.hid hB5; have q1 := keep_cell hB5 k1; clear ho5 hg5 hat5 h5 hB5)
              | (at_builtin; refine wpList_gen rfl (.tmp 93) (.tmp 100) 26 rfl W4.heap.size 32 iV _ 4 48 Try.underlying26 hiV hzV0 hzV1 hzV2 rfl (by decide) (.slice A5 a c5) a (gl (nw.take a)) (by rfl) h5'.out A9 (nw.length - (a + 1)) (d2 - (a + 1)) (gl (nw.drop (a + 1))) (by rfl) hgl2.out (hst2.out _ hB5'.out) hone2.out hls.out.2.2.2.1 hls.out.2.2.2.2 hB5'.out.size ?_; intro A6 c6 w6 ho6 hg6 hat6; obtain ⟨h6, hl6, hB6⟩ := hh2.out w5 w6 A5 c5 A6 c6 hB5'.out h5'.out ho6 hg6; obtain ⟨z1, z2, hD⟩ := hr2.out w6 A6 c6 hB6 h6; rw [hl6] at hD; replace hD := Lib.hid hD; clear ho6 hg6 hat6 h6 hl6 hB6))
            have hcl' := Lib.hid hcl
            refine ⟨⟨j + 1, by go_num, Lib.hid ?_⟩, by simp [intOf]; omega⟩
            obtain ⟨col6, hC6, h6⟩ := hD.out
            refine ⟨hjc, col6, hC4'.out.trans hC6, A3, c3', A6, c6, ns ++ [x], nw.take a ++ nw.drop (a + 1), ?_, ?_⟩
            · rw [hbq.out, ← htk.out, ← List.append_assoc]
              exact h6
            · rw [List.map_append, List.map_take, List.map_drop]
              exact hpn.out
theorem doc_release {col : Nat → Nat} {c p : Nat} {L : Lg} (w : World) (h : DocAt col c w p L) (hok : L.ok) (hc : c ≠ 0) (hf : Fresh col w) (t : Int) (hl : L.st.length + L.wt.length ≤ 90) :
    Calls Try.prog 13 #[.pointer (some ⟨p, 0, none⟩), .int .u64 t] w fun e w' => e = .returned (.int .i64 (cnt L t)) ∧ DLv col c p (rS L t) w w' := by
  obtain ⟨D, d1, d2, d3, A1, c1, A2, c2, ms, mw, h⟩ := h
  exact rrelease_any w h d1 d2 d3 hok hc hf t hl
end Go.Proofs.Ytipnmgihbpbonaa.ordPw
