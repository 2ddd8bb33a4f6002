/- CoordOwns: what is handed in isn't kept, what is answered is new memory. -/
import Derived.Test.YtafocefbpkcoaaaCoOw
set_option linter.unusedVariables false
set_option linter.unusedSimpArgs false
set_option maxRecDepth 100000
namespace Go.Proofs.Ytafocefbpkcoaaa.coOv
open Go.ChangeShapes Go.WideShapes Go.ChangeAt Go.RowKit Go.Deep
open opG opV chnM gen chnA chnR chnE ordA ordC coG coO coM coP coL coN coB coK coV coE coF coW coT coA coJ coD coDs coS coOw

set_option maxHeartbeats 8000000 in
theorem mine_any (w : World) (A : Option Addr) (c : Nat) (rs : List SR) (hr : Rd shS w A c rs) (hk : ∀ r ∈ rs, kSh w r) :
    Calls Try.prog 6 #[.slice A rs.length c] w fun e w' => e = .returned (.bool true) ∧ Below w.heap.size w w' := by
  have hnew := Lib.hid (new_any w)
  have hJ0 := j_new w
  obtain ⟨W1, hW1⟩ : ∃ W1, newS w = W1 := ⟨_, rfl⟩
  obtain ⟨t, ht⟩ : ∃ t, w.heap.size + 1 = t := ⟨_, rfl⟩
  rw [hW1, ht] at hnew hJ0
  have hbW := hJ0.bel
  have hfew := Lib.hid (few_any W1 A c rs (hr.step hbW (Nat.le_refl _)) (fun r hx => ⟨(hk r hx).1, (hk r hx).2.1.step hbW (Nat.le_refl _), (hk r hx).2.2⟩))
  have hks := Lib.hid (fun V (hB : Below w.heap.size w V) => (fun r hr => (by
    obtain ⟨h1, h2⟩ := kSh_fw hk r hr
    exact ⟨⟨h1.1, h1.2.1.step hB (Nat.le_refl _), h1.2.2⟩, h2⟩) : ∀ r ∈ fwR rs, kSh V r ∧ r.vs.length ≤ 8))
  have hrl := fwR_len rs
  obtain ⟨iV, hiV, hzV0, hzV1, hzV2⟩ := info_parts infoV
  obtain ⟨iX, hiX, hzX0, hzX1, hzX2⟩ := info_parts infoS
  replace hJ0 := Lib.hid hJ0
  clear hW1 ht hbW hr hk
  generalize fwR rs = RS at *
  generalize hRL : RS.length = RL at *
  go_enter Try.func6, Try.ntmps6
  go_wp2_with (fail)
  with_reducible refine hnew.out.mono ?_
  rintro e w1 ⟨rfl, rfl⟩
  clear hnew
  go_wp2_with (fail)
  with_reducible refine hfew.out.mono ?_
  rintro e w2 ⟨Af, cf, rfl, hG2, hB2⟩
  have hJ2 : J w (X2 (XS t []) (X2 (XR Af cf RS) XT)) w2 := by
    obtain ⟨col, a, b, d, f⟩ := j_row hJ0.out (st9 (st_XT 9)) hG2 hB2
    exact ⟨col, a, d, b, f⟩
  have hrd2 : Hid (Rd shS w2 Af cf RS) := Lib.hid hG2.rd
  have hrc := hrd2.out.le
  have hrt := hrd2.out.top
  have hb2 := Lib.hid hJ2.bel
  replace hJ2 := Lib.hid hJ2
  rw [hRL] at hrc
  clear hfew hG2 hB2 hJ0
  go_wp2
  go_loopw [23, 5] (fun i s wr => ∃ (j : Nat) (A1 : Option Addr) (c1 : Nat) (ml : List SR), j ≤ RL ∧ i = .int .i64 j ∧ s = .slice A1 ml.length c1 ∧ Hid (MI w2 RS j A1 c1 ml wr)) (fun i _ _ => RL - (intOf i).toNat)
  case atStart => exact ⟨0, none, 0, [], by omega, rfl, rfl, Lib.hid ⟨coG.Own.nil_ _ _ _, fun r hr => (by cases hr), rfl, Below.refl _ _⟩⟩
  case round =>
    obtain ⟨j, A1, c1, ml, hj, rfl, rfl, hM⟩ := hrel
    have hml := hM.out.len (by omega)
    by_cases hlt : j < RL
    · have hjI : (j : Int) < (RL : Int) := by omega
      obtain ⟨r, hr0⟩ : ∃ r, RS[j]? = some r := ⟨_, List.getElem?_eq_getElem (by omega)⟩
      obtain ⟨b1, f1, rfl, -, g1⟩ := (hrd2.out.step hM.out.bel (Nat.le_refl _)).at_ hr0
      have a0 : wr.cell? ⟨b1, f1 + j * 2, none⟩ = some (.int .i64 r.node) := g1 0 _ rfl
      have a1 : wr.cell? ⟨b1, f1 + j * 2 + 1, none⟩ = some (.slice r.A r.vs.length r.c) := g1 1 _ rfl
      obtain ⟨⟨hkn, hvs, hsm⟩, hv8⟩ := hks.out wr (hb2.out.trans (hM.out.bel.mono hb2.out.size)) r (List.mem_of_getElem? hr0)
      obtain ⟨W3, hW3⟩ : ∃ W3, wr.alloc (.cells #[.int .i64 r.node, .slice r.A r.vs.length r.c] 61) = W3 := ⟨_, rfl⟩
      obtain ⟨Bs, hBs⟩ : ∃ b, wr.heap.size = b := ⟨_, rfl⟩
      have hP := P2.new wr r
      rw [hW3, hBs] at hP
      have hB3 : Below wr.heap.size wr W3 := by rw [← hW3]; exact al0 _ _
      have hvw := hvs.below hB3
      have hM3 := Lib.hid (hM.out.below hB3)
      have hvle := hvw.sm
      have hvc := hvw.le
      obtain ⟨c0, k1, -⟩ := P2.cells hP
      have hBE : Below W3.heap.size W3 (W3.drew.alloc (.cells #[] 64)) := (below_drew W3).alloc (Nat.le_refl _) _
      have c0' := keep_cell (al0 W3 (.cells #[] 64)) c0
      have k1' := keep_cell (al0 W3 (.cells #[] 64)) k1
      have hown1 := Lib.hid (show (W3.drew.alloc (.cells #[] 64)).ownsRow W3.heap.size 64 6 (.slice (some ⟨W3.heap.size, 0, none⟩) 0 0) 0 [] from ver_made W3.drew)
      have hst1 := Lib.hid (hvw.below hBE).stand
      have hfl1 : Hid ((fl r.vs).length = r.vs.length * 6) := Lib.hid (fl_len _)
      have hfa1 := Lib.hid (fl_all r.vs)
      have hlt1 := Lib.hid (show 0 + r.vs.length ≤ maxLen ∧ (0 + r.vs.length) * 64 ≤ 140737488355328 ∧ W3.heap.size ≤ (W3.drew.alloc (.cells #[] 64)).heap.size from ⟨by unfold maxLen; omega, by omega, hBE.size⟩)
      have h7 := Lib.hid (fun w7 A7 c7 (ho : w7.ownsRow W3.heap.size 64 6 (.slice A7 (0 + r.vs.length) c7) (0 + r.vs.length) ([] ++ fl r.vs)) (hg : (W3.drew.alloc (.cells #[] 64)).grownBy w7 (Value.slice (some ⟨W3.heap.size, 0, none⟩) 0 0).ownBlock) => (by
        obtain ⟨hG7, hB7⟩ := copied ho hg
        exact ⟨keep_cell hB7 c0, hG7, hB7⟩ : w7.cell? ⟨Bs, 0, none⟩ = some (.int .i64 r.node) ∧ GV w7 W3.heap.size A7 c7 r.vs ∧ Below W3.heap.size W3 w7))
      have h8 := Lib.hid (fun w7 A7 c7 (hB7 : Below W3.heap.size W3 w7) => (by
        have hB8 := hB7.alloc hB7.size (.cells #[.int .i64 r.node, .slice A7 r.vs.length c7] 61)
        refine ⟨?_, by unfold maxLen; omega, by omega, Nat.le_trans hM3.out.bel.size hB8.size⟩
        exact hM3.out.ro.below hB8 : (w7.alloc (.cells #[.int .i64 r.node, .slice A7 r.vs.length c7] 61)).ownsRow w2.heap.size 61 2 (.slice A1 ml.length c1) ml.length (shS.fl ml) ∧ ml.length + 1 ≤ maxLen ∧ (ml.length + 1) * 32 ≤ 140737488355328 ∧ w2.heap.size ≤ (w7.alloc (.cells #[.int .i64 r.node, .slice A7 r.vs.length c7] 61)).heap.size))
      have h9 := Lib.hid (fun w7 A7 c7 (hG7 : GV w7 W3.heap.size A7 c7 r.vs) (hB7 : Below W3.heap.size W3 w7) w9 A9 c9 ho hg =>
        hM3.out.grow (w9 := w9) (A9 := A9) (c9 := c9) (r := { r with A := A7, c := c7 }) (hB7.alloc hB7.size (.cells #[.int .i64 r.node, .slice A7 r.vs.length c7] 61)) hr0 ((hG7.more hM3.out.bel.size).below (al0 w7 _)) rfl ho hg)
      obtain ⟨B0, hB0⟩ : ∃ b, W3.heap.size = b := ⟨_, rfl⟩
      replace hW3 := Lib.hid hW3
      replace hBE := Lib.hid hBE
      replace hP := Lib.hid hP
      clear hM g1 hvs hsm hvw hkn hml hvle hr0 hB3
      go_upto_region 9 with (fail)
      rw [hW3.out]
      clear hW3 a0 a1
      rw [hB0] at hown1 hlt1 h7 h9 h8
      go_region_law (first
        | (refine step_gen rfl (.tmp 30) (.tmp 32) 47 rfl B0 64 iV _ 6 64 Try.underlying47 hiV hzV0 hzV1 hzV2 rfl (by decide) (.slice (some ⟨B0, 0, none⟩) 0 0) 0 [] (by rfl) hown1.out r.A r.vs.length r.c (fl r.vs) (by rfl) hfl1.out hst1.out hfa1.out hlt1.out.1 hlt1.out.2.1 hlt1.out.2.2 ?_; intro A7 c7 w7 ho7 hg7 hat7; obtain ⟨d0, hG7, hB7⟩ := h7.out w7 A7 c7 ho7 hg7; have d0' := keep_cell (al0 w7 (.cells #[.int .i64 r.node, .slice A7 r.vs.length c7] 61)) d0; replace hG7 := Lib.hid hG7; replace hB7 := Lib.hid hB7; clear ho7 hg7 hat7)
        | (refine step_gen rfl (.tmp 27) (.tmp 35) 30 rfl w2.heap.size 61 iX _ 2 32 Try.underlying30 hiX hzX0 hzX1 hzX2 rfl (by decide) (.slice A1 ml.length c1) ml.length (shS.fl ml) (by rfl) (h8.out w7 A7 c7 hB7.out).1 (some ⟨_, 0, none⟩) 1 1 (cS { r with A := A7, c := c7 }) (by rfl) rfl (stand_new _ _ _ _) (cS_one _) (h8.out w7 A7 c7 hB7.out).2.1 (h8.out w7 A7 c7 hB7.out).2.2.1 (h8.out w7 A7 c7 hB7.out).2.2.2 ?_; intro A9 c9 w9 ho9 hg9 hat9; have hfin := h9.out w7 A7 c7 hG7.out hB7.out w9 A9 c9 ho9 hg9; replace hfin := Lib.hid hfin; clear ho9 hg9 hat9)
        | fail)
      all_goals
        clear h7 h8 h9 hown1 hst1 hfl1 hfa1 hlt1 c0 k1 c0' k1' d0 d0' hG7 hB7
        go_wp2
        go_roundw
        case rel => exact ⟨j + 1, _, _, ml ++ [{ r with A := A7, c := c7 }], by omega, by go_num, by rw [List.length_append]; rfl, hfin⟩
        case measure => simp [intOf]; omega
    · have hjR : RL = j := by omega
      subst hjR
      have hjI : ¬ (RL : Int) < (RL : Int) := by omega
      have hms : ml.map SR.s = RS.map SR.s := by have := hM.out.es; rwa [List.take_of_length_le (by omega)] at this
      have hmq : ∀ r ∈ ml, (-9223372036854775808 ≤ r.node ∧ r.node ≤ 9223372036854775807) ∧ Sm r.vs ∧ r.vs.length ≤ 8 := fun r hr => by
        have h1 : r.s ∈ RS.map SR.s := by rw [← hms]; exact List.mem_map.2 ⟨r, hr, rfl⟩
        obtain ⟨q, hq, e⟩ := List.mem_map.1 h1
        obtain ⟨⟨k1, k2, k3⟩, k4⟩ := hks.out w2 hb2.out q hq
        have e1 : q.node = r.node := congrArg Sh.node e
        have e2 : q.vs = r.vs := congrArg Sh.vs e
        rw [e1] at k1
        rw [e2] at k3 k4
        exact ⟨k1, k3, k4⟩
      have hkm : ∀ r ∈ ml, kSh wr r := fun r hr => ⟨(hmq r hr).1, (hM.out.gv r hr).hv (by have := (hmq r hr).2.2; omega), (hmq r hr).2.1⟩
      have hJ2' : J w (X2 (XS t []) (XR Af cf RS)) w2 := by obtain ⟨col, a, b, d, _⟩ := hJ2.out; exact ⟨col, a, b, d⟩
      have hJ3 := j_paint hJ2' (st_XS (by decide) (by decide)) (st_XR (by decide)) hM.out (fun r hr => (hmq r hr).2.2)
      have hst := Lib.hid (j_start hJ3 (st_X2 (st_XR (by decide)) (st_XK (by decide))) (by simp) (tx := 1) (low := 0) (by decide) (by decide) A1 c1 ml hM.out.ro.rd (by omega) hkm)
      have hsv : ∀ s ∈ ml.map SR.s, s.vs.length ≤ 8 := fun s hs => by
        obtain ⟨r, hr, rfl⟩ := List.mem_map.1 hs
        exact (hmq r hr).2.2
      have hok := Lib.hid (ok_start (tx := 1) (low := 0) (sh := ml.map SR.s) ok_nil (by decide) (by decide) (by decide) (by rw [List.length_map]; omega) hsv)
      have hE0 : Hid (¬ stE [] 1 (ml.map SR.s) = 0 → wrs (stS [] 1 0 (ml.map SR.s)) 1 = []) := Lib.hid fun he => by unfold stS; rw [if_neg he]; rfl
      have hE1 : Hid (stE [] 1 (ml.map SR.s) = 0 → wrs (stS [] 1 0 (ml.map SR.s)) 1 = (RS.map (·.vs)).flatten ∧ (nos (stS [] 1 0 (ml.map SR.s)) 1).length = RL) := Lib.hid fun he => by
        unfold stS
        rw [if_pos he]
        refine ⟨?_, ?_⟩
        · show ((ml.map SR.s).map (·.vs)).flatten = _
          rw [hms, List.map_map]; rfl
        · show (nds (ml.map SR.s)).length = RL
          unfold nds
          rw [List.length_map, List.length_map]; exact hml
      have hmc := hM.out.ro.cap
      obtain ⟨lo, hlo⟩ : ∃ b, w2.heap.size = b := ⟨_, rfl⟩
      obtain ⟨hi, hhi⟩ : ∃ b, wr.heap.size = b := ⟨_, rfl⟩
      rw [hlo, hhi, hml] at hst
      rw [hml] at hmc
      replace hml := Lib.hid hml
      rw [hml.out]
      have hm8 : Hid (∀ r ∈ ml, r.vs.length ≤ 8) := Lib.hid (fun r hr => (hmq r hr).2.2)
      generalize stS [] 1 0 (ml.map SR.s) = S1 at *
      generalize stE [] 1 (ml.map SR.s) = E at *
      clear hM hms hmq hkm hJ2' hJ3 hsv hJ2 hlo hhi iV iX hiV hzV0 hzV1 hzV2 hiX hzX0 hzX1 hzX2
      have hX3 : Hid (St 3 (XS t S1)) := Lib.hid (st_XS (by decide) (by decide))
      have hY3 : Hid (St 3 (XR Af cf RS)) := Lib.hid (st_XR (by decide))
      go_wp2_with (fail)
      with_reducible refine hst.out.mono ?_
      rintro e w3 ⟨rfl, hJ4⟩
      replace hJ4 := Lib.hid hJ4
      clear hst
      go_wp2
      go_loopw [43] (fun i wr => ∃ j : Nat, j ≤ RL ∧ i = .int .i64 j ∧ Hid (J w (X2 (XS t S1) (X2 (XR Af cf RS) (XK lo hi A1 ml))) wr)) (fun i _ => RL - (intOf i).toNat)
      case atStart => exact ⟨0, by omega, rfl, hJ4⟩
      case round =>
        clear hJ4
        obtain ⟨i, hi1, rfl, hI⟩ := hrel
        by_cases hli : i < RL
        · have hiI : (i : Int) < (RL : Int) := by omega
          obtain ⟨q, hq⟩ : ∃ q, ml[i]? = some q := ⟨_, List.getElem?_eq_getElem (by have := hml.out; omega)⟩
          rcases (jk_km hI.out).1 with h0 | ⟨g, eg, hg1, hg2, hc⟩
          · subst h0; simp at hq
          · subst eg
            obtain ⟨-, -, h3, h4⟩ := hc i q hq
            obtain ⟨qn, qv, qA, qc⟩ := q
            simp only at h3 h4
            have hN8 : qv.length ≤ 8 := hm8.out _ (List.mem_of_getElem? hq)
            replace hq := Lib.hid hq
            clear hc h4
            generalize hN : qv.length = N at *
            replace hN := Lib.hid hN
            go_wp2
            clear h3
            go_loopw [52] (fun i wx => ∃ k : Nat, k ≤ N ∧ i = .int .i64 k ∧ Hid (J w (X2 (XS t S1) (X2 (XR Af cf RS) (XK lo hi (some ⟨g, 0, none⟩) ml))) wx)) (fun i _ => N - (intOf i).toNat)
            case atStart => exact ⟨0, by omega, rfl, hI⟩
            case round =>
              clear hI
              obtain ⟨k, hk1, rfl, hK⟩ := hrel
              rcases (jk_km hK.out).1 with h0 | ⟨g', eg, -, -, hc⟩
              · rw [h0] at hq; exact absurd hq.out (by simp)
              · cases eg
                obtain ⟨⟨z, h1⟩, h2, h3, h4⟩ := hc i _ hq.out
                simp only at h1 h2 h3 h4
                rw [hN.out] at h3 h4
                clear hc
                by_cases hlk : k < N
                · have hkI : (k : Int) < (N : Int) := by omega
                  rcases h4 with h0 | ⟨B, rfl, b1, b2, hf⟩
                  · omega
                  · obtain ⟨⟨u, hu⟩, hfz⟩ := hf k hlk
                    have hJn := Lib.hid (fun V (hB : Below wr.heap.size wr V) => jk_flag (hK.out.below (st_X2 (st_XS (by decide) (by decide)) (st_X2 (st_XR (by decide)) (st_XK (by decide)))) hB) hX3.out hY3.out (keep_cell hB hu) b1 b2 (!u))
                    clear hK hf h1 h2
                    go_upto_region 18 with (fail)
                    go_region
                    all_goals
                      have hJ9 := Lib.hid (hJn.out _ (below_drew wr))
                      clear hJn hu hfz h3
                      go_wp2
                      go_roundw
                      case rel => exact ⟨k + 1, by omega, by go_num, hJ9⟩
                      case measure => simp [intOf]; omega
                · obtain rfl : k = N := by omega
                  have hkI : ¬ (k : Int) < (k : Int) := by omega
                  have hJn := Lib.hid (fun z' => jk_node hK.out hX3.out hY3.out h1 hg1 hg2 z')
                  clear hK h3 h4
                  go_wp2
                  go_roundw
                  case rel => exact ⟨i + 1, by omega, by go_num, Lib.hid (hJn.out _)⟩
                  case measure => simp [intOf]; omega
        · have hjR2 : RL = i := by omega
          subst hjR2
          have hiI : ¬ (RL : Int) < (RL : Int) := by omega
          have hbe := Lib.hid (fun V V' (hV : J w (X2 (XS t S1) (X2 (XR Af cf RS) (XK lo hi A1 ml))) V) (hB : Below V.heap.size V V') => hV.below (st_X2 (st_XS (by decide) (by decide)) (st_X2 (st_XR (by decide)) (st_XK (by decide)))) hB)
          have haw := Lib.hid (fun V => awake_any V)
          by_cases he : E = 0
          · obtain ⟨hW, hNn⟩ := hE1.out he
            subst he
            have hwr := Lib.hid (j_writes hI.out hok.out (tx := 1) (by decide) (by decide))
            rw [hW] at hwr
            have h8s : ∀ r ∈ RS, r.vs.length ≤ 8 := fun r hr => (hks.out w2 hb2.out r hr).2
            have hFl : ((RS.map (·.vs)).flatten).length ≤ 48 := by have := vsl_len (rs := RS) h8s; omega
            obtain ⟨FV, hFV⟩ : ∃ l, (RS.map (·.vs)).flatten = l := ⟨_, rfl⟩
            rw [hFV] at hwr hFl hW
            replace hFV := Lib.hid hFV
            replace hW := Lib.hid hW
            replace hNn := Lib.hid hNn
            replace h8s := Lib.hid h8s
            clear hE0 hE1 hm8 hX3 hY3
            generalize wr = WA at *
            go_wp2_with (fail)
            with_reducible refine hwr.out.mono ?_
            rintro e w4 ⟨A4, c4, rfl, hG4, hB4⟩
            have hKb := kb_own hG4 (by omega)
            have hv4 := hG4.hv (by omega)
            have hc4 := hv4.le
            have ht4 := hv4.top
            have hJA := Lib.hid (fun V (hB : Below WA.heap.size WA V) => hbe.out _ _ hI.out hB)
            clear hwr hG4 hv4 hI
            obtain ⟨LF, hLF⟩ : ∃ n, FV.length = n := ⟨_, rfl⟩
            rw [hLF] at hFl hKb hc4 ⊢
            replace hLF := Lib.hid hLF
            obtain ⟨h4, hh4⟩ : ∃ b, w4.heap.size = b := ⟨_, rfl⟩
            rw [hh4] at hKb
            clear hh4
            replace hKb := Lib.hid hKb
            replace hB4 := Lib.hid hB4
            go_wp2
            go_loopw [96] (fun i wx => ∃ k : Nat, k ≤ LF ∧ i = .int .i64 k ∧ Hid (Below WA.heap.size WA wx ∧ Kb WA.heap.size h4 wx A4 LF)) (fun i _ => LF - (intOf i).toNat)
            case atStart => exact ⟨0, by omega, rfl, Lib.hid ⟨hB4.out, hKb.out⟩⟩
            case round =>
              clear hKb hB4
              obtain ⟨k, hk1, rfl, hX⟩ := hrel
              obtain ⟨hBx, hKx⟩ := hX.out
              by_cases hlk : k < LF
              · have hkI : (k : Int) < (LF : Int) := by omega
                rcases hKx with h0 | ⟨B, rfl, b1, b2, hf⟩
                · omega
                · obtain ⟨⟨u, hu⟩, hfz⟩ := hf k hlk
                  have hN := Lib.hid (show Below WA.heap.size WA (wr.setCell ⟨B, k * 6 + 2, none⟩ (.bool (!u))) ∧ Kb WA.heap.size h4 (wr.setCell ⟨B, k * 6 + 2, none⟩ (.bool (!u))) (some ⟨B, 0, none⟩) LF from ⟨hBx.setCell (p := ⟨B, k * 6 + 2, none⟩) b1 _, Kb.set (.inr ⟨B, rfl, b1, b2, hf⟩) hu⟩)
                  clear hX hBx hf
                  go_wp2
                  go_roundw
                  case rel => exact ⟨k + 1, by omega, by go_num, hN⟩
                  case measure => simp [intOf]; omega
              · obtain rfl : k = LF := by omega
                have hkI : ¬ (k : Int) < (k : Int) := by omega
                have hJ5 := Lib.hid (hJA.out _ hBx)
                clear hX hBx hKx hJA
                generalize wr = w5 at *
                obtain ⟨iV, hiV, hzV0, hzV1, hzV2⟩ := info_parts infoV
                go_wp2
                go_loopw [112, 13] (fun i s wx => ∃ (j : Nat) (A : Option Addr) (c : Nat), j ≤ RL ∧ i = .int .i64 j ∧ s = .slice A (((RS.take j).map (·.vs)).flatten).length c ∧ Hid (GV wx w5.heap.size A c ((RS.take j).map (·.vs)).flatten ∧ Below w5.heap.size w5 wx)) (fun i _ _ => RL - (intOf i).toNat)
                case atStart => exact ⟨0, none, 0, by omega, rfl, rfl, Lib.hid ⟨GV.nil_ _ _, Below.refl _ _⟩⟩
                case round =>
                  obtain ⟨j, A1x, c1x, hj, rfl, rfl, hX⟩ := hrel
                  obtain ⟨hG, hB⟩ := hX.out
                  by_cases hlt : j < RL
                  · have hjI2 : (j : Int) < (RL : Int) := by omega
                    obtain ⟨r, hr⟩ : ∃ r, RS[j]? = some r := ⟨_, List.getElem?_eq_getElem (by omega)⟩
                    have hJx := hbe.out _ _ hJ5.out hB
                    obtain ⟨b1, f1, rfl, -, g1⟩ := (jk_rd hJx).at_ hr
                    have a0 : wr.cell? ⟨b1, f1 + j * 2, none⟩ = some (.int .i64 r.node) := g1 0 _ rfl
                    have a1 : wr.cell? ⟨b1, f1 + j * 2 + 1, none⟩ = some (.slice r.A r.vs.length r.c) := g1 1 _ rfl
                    obtain ⟨⟨-, hvs, -⟩, hv8⟩ := hks.out wr hJx.bel r (List.mem_of_getElem? hr)
                    obtain ⟨L0, hL0⟩ : ∃ L, ((RS.take j).map (·.vs)).flatten = L := ⟨_, rfl⟩
                    have hL1 : ((RS.take (j + 1)).map (·.vs)).flatten = L0 ++ r.vs := by
                      rw [← hL0, List.take_succ_eq_append_getElem (by omega), (List.getElem?_eq_some_iff.1 hr).2]
                      simp
                    have hlen : L0.length + r.vs.length ≤ 56 := by
                      have := vsl_len (rs := RS.take (j + 1)) fun q hq => h8s.out q (List.mem_of_mem_take hq)
                      rw [hL1, List.length_append, List.length_take] at this
                      omega
                    rw [hL0] at hG
                    obtain ⟨W7, hW7⟩ : ∃ W7, wr.alloc (.cells #[.int .i64 r.node, .slice r.A r.vs.length r.c] 61) = W7 := ⟨_, rfl⟩
                    obtain ⟨Bs, hBs⟩ : ∃ b, wr.heap.size = b := ⟨_, rfl⟩
                    have hP := P2.new wr r
                    rw [hW7, hBs] at hP
                    have hB7 : Below wr.heap.size wr W7 := by rw [← hW7]; exact al0 _ _
                    have hBW := trans0 hB hB7
                    have hG7 := hG.below hB7
                    obtain ⟨d0, d1, -⟩ := P2.cells hP
                    have hown := Lib.hid (show W7.ownsRow w5.heap.size 64 6 (.slice A1x L0.length c1x) L0.length (fl L0) from hG7)
                    have hst := Lib.hid (hvs.below hB7).stand
                    have hend := Lib.hid (fun A9 c9 w9 (ho : w9.ownsRow w5.heap.size 64 6 (.slice A9 (L0.length + r.vs.length) c9) (L0.length + r.vs.length) (fl L0 ++ fl r.vs)) (hg : W7.grownBy w9 (Value.slice A1x L0.length c1x).ownBlock) => (by
                      rw [hL1]
                      refine ⟨gv_app rfl rfl ho, grown_below hBW hg (fun k e => ?_) hBW.size⟩
                      exact (World.ownsRow.lt hG7 k e).1 : GV w9 w5.heap.size A9 c9 ((RS.take (j + 1)).map (·.vs)).flatten ∧ Below w5.heap.size w5 w9))
                    have hlt9 := Lib.hid (show L0.length + r.vs.length ≤ maxLen ∧ (L0.length + r.vs.length) * 64 ≤ 140737488355328 ∧ w5.heap.size ≤ W7.heap.size from ⟨by unfold maxLen; omega, by omega, hBW.size⟩)
                    have hnext : Hid ((((RS.take (j + 1)).map (·.vs)).flatten).length = L0.length + r.vs.length) := Lib.hid (by rw [hL1, List.length_append])
                    have hfl : Hid ((fl r.vs).length = r.vs.length * 6) := Lib.hid (fl_len _)
                    have hfa := Lib.hid (fl_all r.vs)
                    have hrvc := hvs.le
                    have hrvt := hvs.top
                    rw [hL0]
                    replace hP := Lib.hid hP
                    replace hW7 := Lib.hid hW7
                    clear hX hG hB hL0 hL1 hlen hr hJx g1 hvs hB7 hBW hG7
                    go_upto_region 34 with (fail)
                    rw [hW7.out]
                    clear hW7 a0 a1
                    go_wp2_with (at_builtin; refine wpList_gen rfl (.tmp 116) (.tmp 118) 47 rfl w5.heap.size 64 iV _ 6 64 Try.underlying47 hiV hzV0 hzV1 hzV2 rfl (by decide) (.slice A1x L0.length c1x) L0.length (fl L0) (by rfl) hown.out r.A r.vs.length r.c (fl r.vs) (by rfl) hfl.out hst.out hfa.out hlt9.out.1 hlt9.out.2.1 hlt9.out.2.2 ?_; intro A9 c9 w9 hr9 hg9 hat9; have hF := Lib.hid (hend.out A9 c9 w9 hr9 hg9); clear hr9 hg9 hat9)
                    go_roundw
                    case rel => exact ⟨j + 1, A9, c9, by omega, by go_num, by rw [hnext.out], hF⟩
                    case measure => simp [intOf]; omega
                  · have hji : RL = j := by omega
                    subst hji
                    have hjI2 : ¬ (RL : Int) < (RL : Int) := by omega
                    rw [List.take_of_length_le (by omega), hFV.out] at hX ⊢
                    obtain ⟨hG, hB⟩ := hX.out
                    have hJ9 := hbe.out _ _ hJ5.out hB
                    have hbl := Lib.hid hJ9.bel
                    have hcall := Lib.hid (fun V (hV : Below wr.heap.size wr V) => (by
                      have h := j_writes (hbe.out _ _ hJ9 hV) hok.out (tx := 1) (by decide) (by decide)
                      rw [hW.out] at h
                      exact h : Calls Try.prog 21 #[.pointer (some ⟨t, 0, none⟩), .int .u64 1] V fun e w' => ∃ A c, e = .returned (.slice A FV.length c) ∧ GV w' V.heap.size A c FV ∧ Below V.heap.size V w'))
                    have hnod := Lib.hid (fun V (hV : Below wr.heap.size wr V) => (by
                      have h := j_nodes (hbe.out _ _ hJ9 hV) hok.out (tx := 1) (by decide) (by decide)
                      rw [hNn.out] at h
                      exact h.mono fun _ _ ⟨A, c, he, _, hb⟩ => ⟨A, c, he, trans0 hV hb⟩ : Calls Try.prog 17 #[.pointer (some ⟨t, 0, none⟩), .int .u64 1] V fun e w' => ∃ A c, e = .returned (.slice A RL c) ∧ Below wr.heap.size wr w'))
                    have hF48 : FV.length * 64 ≤ 140737488355328 := by have := hLF.out; omega
                    have hGx := Lib.hid (fun V (hV : Below wr.heap.size wr V) => ((hG.below hV).hv hF48 : HV V A1x c1x FV))
                    clear hX hG hB hJ9 hJ5 hbe hok hW hNn hLF hFV hks hrd2 hml
                    go_wp2_with (fail)
                    with_reducible refine (haw.out _).mono ?_
                    rintro e w10 ⟨rfl, hB10⟩
                    have hc10 := Lib.hid (hcall.out _ hB10)
                    clear haw hcall
                    go_wp2_with (fail)
                    with_reducible refine hc10.out.mono ?_
                    rintro e w11 ⟨A11, c11, rfl, hG11, hB11⟩
                    have hB11' := trans0 hB10 hB11
                    have hsm := samevers A11 c11 FV A1x c1x FV w11 (hG11.hv hF48) (hGx.out _ hB11')
                    rw [decide_eq_true rfl] at hsm
                    replace hsm := Lib.hid hsm
                    replace hB11' := Lib.hid hB11'
                    clear hc10 hG11 hB11 hB10 hGx hF48
                    go_wp2_with (fail)
                    with_reducible refine hsm.out.mono ?_
                    rintro e w12 ⟨rfl, hB12⟩
                    have hn12 := Lib.hid (hnod.out _ (trans0 hB11'.out hB12))
                    clear hnod hsm hB12 hB11'
                    go_wp2_with (fail)
                    with_reducible refine hn12.out.mono ?_
                    rintro e w13 ⟨A13, c13, rfl, hB13⟩
                    have hfin := Lib.hid (trans0 hbl.out hB13)
                    have hll : ((RL : Int) == (RL : Int)) = true := by simp
                    clear hn12 hB13 hbl
                    go_wp2
                    go_ret
                    exact ⟨rfl, hfin.out⟩
          · have hW := hE0.out he
            have heI : (E != 0) = true := by simpa using he
            have hwr := Lib.hid (fun V (hB : Below wr.heap.size wr V) => (by
              have h := j_writes (hbe.out _ _ hI.out hB) hok.out (tx := 1) (by decide) (by decide)
              rw [hW] at h
              exact h.mono fun _ _ ⟨A, c, he, _, hb⟩ => ⟨A, c, he, trans0 hB hb⟩ : Calls Try.prog 21 #[.pointer (some ⟨t, 0, none⟩), .int .u64 1] V fun e w' => ∃ A c, e = .returned (.slice A ([] : List Ver).length c) ∧ Below wr.heap.size wr w'))
            have hbw := Lib.hid hI.out.bel
            clear hE0 hE1 hW he hI hok hbe
            go_wp2_with (fail)
            with_reducible refine (haw.out _).mono ?_
            rintro e w5 ⟨rfl, hB5⟩
            have hwr5 := Lib.hid (hwr.out _ hB5)
            clear hwr haw
            go_wp2_with (fail)
            with_reducible refine hwr5.out.mono ?_
            rintro e w6 ⟨A6, c6, rfl, hB6⟩
            have hfin := Lib.hid (trans0 hbw.out hB6)
            clear hwr5 hB5 hB6 hbw
            go_wp2
            go_ret
            exact ⟨rfl, hfin.out⟩
end Go.Proofs.Ytafocefbpkcoaaa.coOv
