/- CoordShares: writes are shared as the document says; a right map's shares part them. -/
import Derived.Test.YtafocefbpkcoaaaCoS
import Derived.Test.YtafocefbpkcoaaaCoJ
import Derived.Test.YtafocefbpkcoaaaSpnC
set_option linter.unusedVariables false
set_option linter.unusedSimpArgs false
set_option maxRecDepth 100000
namespace Go.Proofs.Ytafocefbpkcoaaa.coSh
open Go.ChangeShapes Go.WideShapes Go.ChangeAt Go.RowKit Go.Deep
open opG opV chnM gen chnA chnR chnE ordA ordC coG coO coM coP coL coN coB coK coV coE coF coW coT coA coJ coD coDs coS

/-! ### Plainly -/
theorem shJ_mem {m : spnM.M} {ws : List Ver} : ∀ j, ∀ s ∈ shJ m ws j, s.vs = owV m s.node ws ∧ s.vs.length ≤ ws.length
  | 0, s, h => by cases h
  | j + 1, s, h => by
    unfold shJ at h
    rcases List.mem_append.1 h with h | h
    · exact shJ_mem j s h
    · split at h
      · cases h
      · rw [List.mem_singleton.1 h]
        exact ⟨rfl, owV_len _ _ _⟩
theorem shJ_sum (m : spnM.M) (ws : List Ver) (j : Nat) : (((shJ m ws (j + 1)).map (·.vs)).flatten).length = (((shJ m ws j).map (·.vs)).flatten).length + (owV m j ws).length := by
  have e0 : shJ m ws (j + 1) = shJ m ws j ++ (if owV m j ws = [] then [] else [⟨j, owV m j ws⟩]) := rfl
  rw [e0, List.map_append, List.flatten_append, List.length_append]
  by_cases e : owV m j ws = []
  · rw [if_pos e, e]; rfl
  · rw [if_neg e]; simp
theorem own_sum (m : spnM.M) (ws : List Ver) (h : ∀ k : ByteArray, 0 ≤ spnM.own m k ∧ spnM.own m k < 4) : (owV m 0 ws).length + (owV m 1 ws).length + (owV m 2 ws).length + (owV m 3 ws).length = ws.length := by
  unfold owV
  induction ws with
  | nil => rfl
  | cons v l ih =>
    have hk := h v.key
    simp only [List.filter_cons, List.length_cons]
    generalize spnM.own m v.key = O at *
    have : O = 0 ∨ O = 1 ∨ O = 2 ∨ O = 3 := by omega
    rcases this with rfl | rfl | rfl | rfl <;> simp <;> omega
theorem shJ_all {m : spnM.M} {ws : List Ver} (h : spnM.chk m 4 = 0) : (((shJ m ws 4).map (·.vs)).flatten).length = ws.length := by
  have ho := (spnM.chk_iff m 4).1 h
  have h1 := own_sum m ws fun k => ho.owner_in k
  rw [shJ_sum, shJ_sum, shJ_sum, shJ_sum]
  show 0 + (owV m ((0 : Nat) : Int) ws).length + (owV m ((1 : Nat) : Int) ws).length + (owV m ((2 : Nat) : Int) ws).length + (owV m ((3 : Nat) : Int) ws).length = ws.length
  simp only [Int.natCast_zero] at *
  have e1 : ((1 : Nat) : Int) = 1 := rfl
  have e2 : ((2 : Nat) : Int) = 2 := rfl
  have e3 : ((3 : Nat) : Int) = 3 := rfl
  have e0 : ((0 : Nat) : Int) = 0 := rfl
  rw [e1, e2, e3]
  omega
theorem flat_up {rs : List SR} {j : Nat} {r : SR} (h : rs[j]? = some r) : (((rs.take (j + 1)).map (·.vs)).flatten).length = (((rs.take j).map (·.vs)).flatten).length + r.vs.length := by
  have hj := (List.getElem?_eq_some_iff.1 h).1
  rw [List.take_succ_eq_append_getElem hj, (List.getElem?_eq_some_iff.1 h).2]
  simp
theorem flat_le {rs : List SR} {B : Nat} (h : ∀ r ∈ rs, r.vs.length ≤ B) : ((rs.map (·.vs)).flatten).length ≤ rs.length * B := by
  induction rs with
  | nil => simp
  | cons r rs ih =>
    have h1 := h r (List.mem_cons_self ..)
    have h2 := ih fun q hq => h q (List.mem_cons_of_mem _ hq)
    simp only [List.map_cons, List.flatten_cons, List.length_append, List.length_cons, Nat.add_mul, Nat.one_mul]
    omega
theorem map_vs {rs : List SR} : (rs.map SR.s).map (·.vs) = rs.map (·.vs) := by rw [List.map_map]; rfl
section
variable {A1 A2 Aw : Option Addr} {c1 c2 cw : Nat} {m : spnM.M} {ws : List Ver}
theorem big_any (w : World) (hM : spnA.HM w A1 c1 A2 c2 m) (hW : HV w Aw cw ws) (hb : 60 < m.cs.length ∨ 60 < m.ns.length ∨ 60 < ws.length) :
    Calls Try.prog 5 #[.agg #[.slice A1 m.cs.length c1, .slice A2 m.ns.length c2], .slice Aw ws.length cw] w fun e w' => e = .returned (.bool true) ∧ Below w.heap.size w w' := by
  obtain ⟨W0, hW0⟩ : ∃ W0, w.alloc (.cells #[.slice A1 m.cs.length c1, .slice A2 m.ns.length c2] 57) = W0 := ⟨_, rfl⟩
  have hB : Below w.heap.size w W0 := by rw [← hW0]; exact al0 _ _
  obtain ⟨p1, p2⟩ := spnA.cells2 w (.slice A1 m.cs.length c1) (.slice A2 m.ns.length c2) 57
  obtain ⟨B0, hB0⟩ : ∃ b, w.heap.size = b := ⟨_, rfl⟩
  rw [hW0, hB0] at p1 p2
  have haw := Lib.hid (awake_any W0)
  have hB' := Lib.hid hB
  replace hW0 := Lib.hid hW0
  clear hM hW hB
  generalize m.cs.length = NC at *
  generalize m.ns.length = NN at *
  generalize ws.length = NW at *
  by_cases h1 : 60 < NC
  · have h1I : (60 : Int) < (NC : Int) := by omega
    clear hb h1
    go_enter Try.func5, Try.ntmps5
    go_upto_region 1 with (fail)
    rw [hW0.out]
    go_wp2_with (fail)
    with_reducible refine haw.out.mono ?_
    rintro e w' ⟨rfl, hB⟩
    have hfin := Lib.hid (trans0 hB'.out hB)
    clear hB hB' haw
    go_wp2
    go_ret
    exact ⟨rfl, hfin.out⟩
  · by_cases h2 : 60 < NN
    · have h1I : ¬ (60 : Int) < (NC : Int) := by omega
      have h2I : (60 : Int) < (NN : Int) := by omega
      clear hb h1 h2
      go_enter Try.func5, Try.ntmps5
      go_upto_region 1 with (fail)
      rw [hW0.out]
      go_wp2_with (fail)
      with_reducible refine haw.out.mono ?_
      rintro e w' ⟨rfl, hB⟩
      have hfin := Lib.hid (trans0 hB'.out hB)
      clear hB hB' haw
      go_wp2
      go_ret
      exact ⟨rfl, hfin.out⟩
    · have h1I : ¬ (60 : Int) < (NC : Int) := by omega
      have h2I : ¬ (60 : Int) < (NN : Int) := by omega
      have h3I : (60 : Int) < (NW : Int) := by omega
      clear hb h1 h2
      go_enter Try.func5, Try.ntmps5
      go_upto_region 1 with (fail)
      rw [hW0.out]
      go_wp2_with (fail)
      with_reducible refine haw.out.mono ?_
      rintro e w' ⟨rfl, hB⟩
      have hfin := Lib.hid (trans0 hB'.out hB)
      clear hB hB' haw
      go_wp2
      go_ret
      exact ⟨rfl, hfin.out⟩
set_option maxHeartbeats 8000000 in
theorem shares_law (w : World) (hM : spnA.HM w A1 c1 A2 c2 m) (hW : HV w Aw cw ws) :
    Calls Try.prog 5 #[.agg #[.slice A1 m.cs.length c1, .slice A2 m.ns.length c2], .slice Aw ws.length cw] w fun e w' => e = .returned (.bool true) ∧ Below w.heap.size w w' := by
  by_cases hbig : 60 < m.cs.length ∨ 60 < m.ns.length ∨ 60 < ws.length
  · exact big_any w hM hW hbig
  obtain ⟨W0, hW0⟩ : ∃ W0, w.alloc (.cells #[.slice A1 m.cs.length c1, .slice A2 m.ns.length c2] 57) = W0 := ⟨_, rfl⟩
  have hB : Below w.heap.size w W0 := by rw [← hW0]; exact al0 _ _
  obtain ⟨p1, p2⟩ := spnA.cells2 w (.slice A1 m.cs.length c1) (.slice A2 m.ns.length c2) 57
  obtain ⟨B0, hB0⟩ : ∃ b, w.heap.size = b := ⟨_, rfl⟩
  rw [hW0, hB0] at p1 p2
  have hM0 := hM.below hB
  have hV0 := hW.below hB
  have h60 : ws.length ≤ 60 := by omega
  have hp := Lib.hid (fun V (hV : Below W0.heap.size W0 V) => And.intro (keep_cell hV p1) (keep_cell hV p2))
  have hs1 := Lib.hid (shares_any W0 hM0 hV0 h60)
  have hs2 := Lib.hid (fun V (hV : Below W0.heap.size W0 V) => rshares_any V (hM0.below hV) (hV0.below hV) h60)
  have hoc := Lib.hid (fun V (hV : Below W0.heap.size W0 V) key => spnB.owner_any A1 c1 A2 c2 m key V (hM0.below hV))
  have hch := Lib.hid (fun V (hV : Below W0.heap.size W0 V) => spnC.rcheck_any A1 c1 A2 c2 m 4 V (hM0.below hV))
  have hB0' := Lib.hid hB
  have h1I : ¬ (60 : Int) < (m.cs.length : Int) := by omega
  have h2I : ¬ (60 : Int) < (m.ns.length : Int) := by omega
  have h3I : ¬ (60 : Int) < (ws.length : Int) := by omega
  replace hW0 := Lib.hid hW0
  clear hM hW hB hM0 hV0 hbig
  go_enter Try.func5, Try.ntmps5
  go_upto_region 1 with (fail)
  rw [hW0.out]
  clear hW0
  go_wp2_with (fail)
  with_reducible refine hs1.out.mono ?_
  rintro e w1 ⟨Ar1, cr1, rs1, rfl, hO1, hg1, he1, hB1⟩
  clear p1 p2
  obtain ⟨p1, p2⟩ := hp.out _ hB1
  have hs2' := Lib.hid (hs2.out _ hB1)
  clear hs1 hs2
  replace hO1 := Lib.hid hO1
  replace hg1 := Lib.hid hg1
  replace he1 := Lib.hid he1
  replace hB1 := Lib.hid hB1
  go_wp2_with (fail)
  with_reducible refine hs2'.out.mono ?_
  rintro e w2 ⟨Ar2, cr2, rs2, rfl, hO2, hg2, he2, hB2⟩
  clear p1 p2 hs2'
  have hBW2 := Lib.hid (trans0 hB1.out hB2)
  have hmm : rs1.map SR.s = rs2.map SR.s := he1.out.trans he2.symm
  have hll : rs2.length = rs1.length := by have := congrArg List.length hmm; simpa using this.symm
  have hR1 := Lib.hid ((hO1.out.below hB2).rd)
  have hR2 := Lib.hid hO2.rd
  have hln : rs1.length ≤ 4 := by have h1 := congrArg List.length he1.out; have h2 := shJ_len m ws 4; simp at h1; omega
  have hvl : Hid (∀ r ∈ rs1, r.vs = owV m r.node ws ∧ r.vs.length ≤ ws.length) := Lib.hid (fun r hr => shJ_mem 4 r.s (by rw [← he1.out]; exact List.mem_map.2 ⟨r, hr, rfl⟩))
  have hV1 := Lib.hid (fun r (hr : r ∈ rs1) => (((hg1.out r hr).below hB2).hv (by have := (hvl.out r hr).2; omega) : HV w2 r.A r.c r.vs))
  have hV2 := Lib.hid (fun r (hr : r ∈ rs2) => (hg2 r hr).hv (by
    obtain ⟨r0, h1, h2⟩ := List.mem_map.1 (show r.s ∈ rs1.map SR.s by rw [hmm]; exact List.mem_map.2 ⟨r, hr, rfl⟩)
    have h3 : r0.vs = r.vs := congrArg Sh.vs h2
    have := (hvl.out r0 h1).2
    rw [h3] at this
    omega))
  have hpair := Lib.hid (fun (j : Nat) r1 r2 (e1 : rs1[j]? = some r1) (e2 : rs2[j]? = some r2) => (by
    have h1 : (rs1.map SR.s)[j]? = some r1.s := by rw [List.getElem?_map, e1]; rfl
    have h2 : (rs1.map SR.s)[j]? = some r2.s := by rw [hmm, List.getElem?_map, e2]; rfl
    have h3 := Option.some.inj (h1.symm.trans h2)
    exact ⟨congrArg Sh.node h3, congrArg Sh.vs h3⟩ : r1.node = r2.node ∧ r1.vs = r2.vs))
  have hT : Hid (spnM.chk m 4 = 0 → ((rs1.map (·.vs)).flatten).length = ws.length) := Lib.hid (fun h => by rw [← map_vs, he1.out]; exact shJ_all h)
  have r1c := hR1.out.le
  have r1t := hR1.out.top
  have r2c := hR2.out.le
  have r2t := hR2.out.top
  rw [hll] at r2c ⊢
  clear hO1 hO2 hg1 hg2 he2 hB2 hB1 hmm
  go_wp2
  go_loopw [41, 7] (fun i s wr => ∃ j : Nat, j ≤ rs1.length ∧ i = .int .i64 j ∧ s = .int .i64 ((((rs1.take j).map (·.vs)).flatten).length : Nat) ∧ Hid (Below w2.heap.size w2 wr)) (fun i _ _ => rs1.length - (intOf i).toNat)
  case atStart => exact ⟨0, by omega, rfl, rfl, Lib.hid (Below.refl _ _)⟩
  case round =>
    obtain ⟨j, hj, rfl, rfl, hX⟩ := hrel
    by_cases hlt : j < rs1.length
    · have hjI : (j : Int) < (rs1.length : Int) := by omega
      obtain ⟨r, hr⟩ : ∃ r, rs1[j]? = some r := ⟨_, List.getElem?_eq_getElem hlt⟩
      obtain ⟨s, hs⟩ : ∃ s, rs2[j]? = some s := ⟨_, List.getElem?_eq_getElem (by omega)⟩
      obtain ⟨b1, f1, e1, -, g1⟩ := (hR1.out.below hX.out).at_ hr
      obtain ⟨b2, f2, e2, -, g2⟩ := (hR2.out.below hX.out).at_ hs
      subst e1
      subst e2
      have a0 : wr.cell? ⟨b1, f1 + j * 2, none⟩ = some (.int .i64 r.node) := g1 0 _ rfl
      have a1 : wr.cell? ⟨b1, f1 + j * 2 + 1, none⟩ = some (.slice r.A r.vs.length r.c) := g1 1 _ rfl
      have c0 : wr.cell? ⟨b2, f2 + j * 2, none⟩ = some (.int .i64 s.node) := g2 0 _ rfl
      have c1' : wr.cell? ⟨b2, f2 + j * 2 + 1, none⟩ = some (.slice s.A s.vs.length s.c) := g2 1 _ rfl
      obtain ⟨en, ev⟩ := hpair.out j r s hr hs
      have hvr := (hV1.out r (List.mem_of_getElem? hr)).below hX.out
      have hvs := (hV2.out s (List.mem_of_getElem? hs)).below hX.out
      rw [← en] at c0
      rw [← ev] at c1' hvs
      obtain ⟨hvo, hvl60⟩ := hvl.out r (List.mem_of_getElem? hr)
      have hup := flat_up hr
      have hb4 : (((rs1.take j).map (·.vs)).flatten).length ≤ 4 * 60 := by
        have h1 := flat_le (rs := rs1.take j) (B := 60) fun q hq => by have := (hvl.out q (List.mem_of_mem_take hq)).2; omega
        rw [List.length_take] at h1
        have h2 : min j rs1.length * 60 ≤ 4 * 60 := Nat.mul_le_mul_right _ (by omega)
        omega
      obtain ⟨N0, hN0⟩ : ∃ N, (((rs1.take j).map (·.vs)).flatten).length = N := ⟨_, rfl⟩
      rw [hN0] at hup hb4 ⊢
      have ew : IntKind.i64.wrap ((N0 : Int) + (r.vs.length : Int)) = (N0 : Int) + (r.vs.length : Int) := wrap_in _ (by omega) (by omega)
      obtain ⟨W3, hW3⟩ : ∃ W3, wr.alloc (.cells #[.int .i64 r.node, .slice r.A r.vs.length r.c] 61) = W3 := ⟨_, rfl⟩
      obtain ⟨Bs, hBs⟩ : ∃ b, wr.heap.size = b := ⟨_, rfl⟩
      have hP := P2.new wr r
      rw [hW3, hBs] at hP
      have hB3 : Below wr.heap.size wr W3 := by rw [← hW3]; exact al0 _ _
      have hBW3 := Lib.hid (trans0 hX.out hB3)
      obtain ⟨d0, d1, -⟩ := P2.cells hP
      have x0 := keep_cell hB3 c0
      have x1 := keep_cell hB3 c1'
      have hs0 := Lib.hid (show W3.cell? ⟨Bs, 0, none⟩ = some (.int .i64 r.node) ∧ W3.cell? ⟨Bs, 1, none⟩ = some (.slice r.A r.vs.length r.c) ∧ W3.cell? ⟨b2, f2 + j * 2, none⟩ = some (.int .i64 r.node) ∧ W3.cell? ⟨b2, f2 + j * 2 + 1, none⟩ = some (.slice s.A r.vs.length s.c) from ⟨d0, d1, x0, x1⟩)
      have hsd : Hid (W3.drew.cell? ⟨Bs, 0, none⟩ = some (.int .i64 r.node) ∧ W3.drew.cell? ⟨Bs, 1, none⟩ = some (.slice r.A r.vs.length r.c) ∧ W3.drew.cell? ⟨b2, f2 + j * 2, none⟩ = some (.int .i64 r.node) ∧ W3.drew.cell? ⟨b2, f2 + j * 2 + 1, none⟩ = some (.slice s.A r.vs.length s.c)) := hs0
      have hsm := samevers r.A r.c r.vs s.A s.c r.vs W3.drew ((hvr.below hB3).below (below_drew W3)) ((hvs.below hB3).below (below_drew W3))
      rw [decide_eq_true rfl] at hsm
      replace hsm := Lib.hid hsm
      have hvr3 := Lib.hid (hvr.below hB3)
      have hvc := hvr.le
      have hvt := hvr.top
      replace hP := Lib.hid hP
      replace hvo := Lib.hid hvo
      replace hup := Lib.hid hup
      replace hX := Lib.hid hX
      clear g1 g2 hr hs hvr hvs hN0 hB3 c0 c1' en ev
      have hBW3' := Lib.hid (trans0 hBW2.out hBW3.out)
      replace hW3 := Lib.hid hW3
      go_upto_region 11 with (fail)
      rw [hW3.out]
      clear hW3 a0 a1
      go_region_held3 (fun w' => w'.cell? ⟨Bs, 0, none⟩ = some (.int .i64 r.node) ∧ w'.cell? ⟨Bs, 1, none⟩ = some (.slice r.A r.vs.length r.c) ∧ w'.cell? ⟨b2, f2 + j * 2, none⟩ = some (.int .i64 r.node) ∧ w'.cell? ⟨b2, f2 + j * 2 + 1, none⟩ = some (.slice s.A r.vs.length s.c))
        (first | with_reducible exact hsd.out | with_reducible exact hs0.out | with_reducible exact hs1.out | fail)
        (first
          | (go_at_call 20; ((with_reducible refine (hsm.out).mono ?_); rintro e w4 ⟨rfl, hB4⟩; have hs1 := Lib.hid (And.intro (keep_cell hB4 hsd.out.1) (And.intro (keep_cell hB4 hsd.out.2.1) (And.intro (keep_cell hB4 hsd.out.2.2.1) (keep_cell hB4 hsd.out.2.2.2)))); replace hB4 := Lib.hid hB4))
          | fail)
      all_goals
        have hB4' : Below W3.heap.size W3 w4 := undrew hB4.out
        have hP4 := hP.out.below hB4'
        have hvr4 := Lib.hid (hvr3.out.below hB4')
        have hBW4 := Lib.hid (trans0 hBW3'.out hB4')
        have hB24 := Lib.hid (trans0 hBW3.out hB4')
        clear d0 d1 x0 x1 hs0 hs1 hsd hsm hvr3 hBW3 hBW3' hB4 hB4' hP
        obtain ⟨d0, d1, -⟩ := P2.cells hP4
        replace hP4 := Lib.hid hP4
        generalize r.A = RA at *
        go_wp2
        go_loopw [73] (fun i wx => ∃ k : Nat, k ≤ r.vs.length ∧ i = .int .i64 k ∧ Hid (Below w4.heap.size w4 wx)) (fun i _ => r.vs.length - (intOf i).toNat)
        case atStart => exact ⟨0, by omega, rfl, Lib.hid (Below.refl _ _)⟩
        case round =>
          obtain ⟨k, hk, rfl, hXk⟩ := hrel
          by_cases hlk : k < r.vs.length
          · have hkI : (k : Int) < (r.vs.length : Int) := by omega
            have hown := hvo.out
            obtain ⟨v, hv⟩ : ∃ v, r.vs[k]? = some v := ⟨_, List.getElem?_eq_getElem hlk⟩
            have hvm : spnM.own m v.key = r.node := by
              have h1 := List.mem_of_getElem? hv
              rw [hown] at h1
              unfold owV at h1
              rw [List.mem_filter] at h1
              simpa using h1.2
            obtain ⟨pb, po, rfl, hpb, hc⟩ := (hvr4.out.below hXk.out).at hlk
            have hnv : chnM.nt r.vs k = v := by rw [chnM.nt_at hlk]; exact (List.getElem?_eq_some_iff.1 hv).2
            rw [hnv] at hc
            obtain ⟨v0, v1, v2, v3, v4, v5⟩ := hc
            obtain ⟨W5, hW5⟩ : ∃ W5, wr.alloc (.cells #[.string v.key, .string v.val, .bool v.gone, .int .u64 v.ts, .int .i64 v.dc, .int .i64 v.tx] 64) = W5 := ⟨_, rfl⟩
            obtain ⟨Bv, hBv⟩ : ∃ b, wr.heap.size = b := ⟨_, rfl⟩
            have hPv := R6.new wr v
            rw [hW5, hBv] at hPv
            have hB5 : Below wr.heap.size wr W5 := by rw [← hW5]; exact al0 _ _
            have hX5 := trans0 hXk.out hB5
            have hBW5 := Lib.hid (trans0 hBW4.out hX5)
            obtain ⟨q0, -, -, -, -, -⟩ := hPv.v6
            obtain ⟨z0, z1⟩ := hp.out _ hBW5.out
            obtain ⟨s0, -, -⟩ := P2.cells (hP4.out.below hX5)
            have hs0 := Lib.hid (show W5.cell? ⟨B0, 0, none⟩ = some (.slice A1 m.cs.length c1) ∧ W5.cell? ⟨B0, 1, none⟩ = some (.slice A2 m.ns.length c2) ∧ W5.cell? ⟨Bv, 0, none⟩ = some (.string v.key) ∧ W5.cell? ⟨Bs, 0, none⟩ = some (.int .i64 r.node) from ⟨z0, z1, q0, s0⟩)
            have hsd : Hid (W5.drew.cell? ⟨B0, 0, none⟩ = some (.slice A1 m.cs.length c1) ∧ W5.drew.cell? ⟨B0, 1, none⟩ = some (.slice A2 m.ns.length c2) ∧ W5.drew.cell? ⟨Bv, 0, none⟩ = some (.string v.key) ∧ W5.drew.cell? ⟨Bs, 0, none⟩ = some (.int .i64 r.node)) := hs0
            have hoc5 := Lib.hid (show Calls Try.prog 28 #[.agg #[.slice A1 m.cs.length c1, .slice A2 m.ns.length c2], .string v.key] W5.drew fun e w' => e = .returned (.int .i64 r.node) ∧ Below W5.drew.heap.size W5.drew w' from by
              have h := hoc.out W5.drew (trans0 hBW5.out (below_drew W5)) v.key
              rw [hvm] at h
              exact h)
            have hne : (r.node != r.node) = false := by simp
            replace hX5 := Lib.hid hX5
            replace hW5 := Lib.hid hW5
            clear hv hvm hnv hPv hB5 hown hpb z0 z1 s0 q0
            go_upto_region 17 with (fail)
            rw [hW5.out]
            clear hW5 v0 v1 v2 v3 v4 v5
            go_region_held3 (fun w' => w'.cell? ⟨B0, 0, none⟩ = some (.slice A1 m.cs.length c1) ∧ w'.cell? ⟨B0, 1, none⟩ = some (.slice A2 m.ns.length c2) ∧ w'.cell? ⟨Bv, 0, none⟩ = some (.string v.key) ∧ w'.cell? ⟨Bs, 0, none⟩ = some (.int .i64 r.node))
              (first | with_reducible exact hsd.out | with_reducible exact hs0.out | with_reducible exact hs1.out | fail)
              (first
                | (go_at_call 28; ((with_reducible refine (hoc5.out).mono ?_); rintro e w6 ⟨rfl, hB6⟩; have hs1 := Lib.hid (And.intro (keep_cell hB6 hsd.out.1) (And.intro (keep_cell hB6 hsd.out.2.1) (And.intro (keep_cell hB6 hsd.out.2.2.1) (keep_cell hB6 hsd.out.2.2.2)))); replace hB6 := Lib.hid hB6))
                | fail)
            all_goals
              have hX6 := Lib.hid (trans0 hX5.out (undrew hB6.out))
              clear hs0 hs1 hsd hoc5 hB6 hX5
              go_wp2
              go_roundw
              case rel => exact ⟨k + 1, by omega, by go_num, hX6⟩
              case measure => simp [intOf]; omega
          · obtain rfl : k = r.vs.length := by omega
            have hkI : ¬ (r.vs.length : Int) < (r.vs.length : Int) := by omega
            have hX9 := Lib.hid (trans0 hB24.out hXk.out)
            go_wp2
            go_roundw
            case rel => exact ⟨j + 1, by omega, by go_num, by rw [hup.out]; push_cast; rfl, hX9⟩
            case measure => simp [intOf]; omega
    · obtain rfl : j = rs1.length := by omega
      have hjI : ¬ (rs1.length : Int) < (rs1.length : Int) := by omega
      rw [List.take_length]
      have hBf := Lib.hid (trans0 hBW2.out hX.out)
      have haw := Lib.hid (awake_any wr)
      have hTT := hT
      obtain ⟨N0, hN0⟩ : ∃ N, ((rs1.map (·.vs)).flatten).length = N := ⟨_, rfl⟩
      rw [hN0] at hTT ⊢
      clear hX hR1 hR2 hV1 hV2 hvl hpair hT he1 hoc
      go_wp2_with (fail)
      with_reducible refine haw.out.mono ?_
      rintro e w3 ⟨rfl, hB3⟩
      have hB3f := trans0 hBf.out hB3
      obtain ⟨p1, p2⟩ := hp.out _ hB3f
      by_cases hn : N0 = ws.length
      · have hnI : ((N0 : Int) == (ws.length : Int)) = true := by rw [beq_iff_eq]; omega
        have hfin := Lib.hid (trans0 hB0'.out hB3f)
        clear hch hTT hB3 hB3f hn
        go_wp2
        go_ret
        exact ⟨rfl, hfin.out⟩
      · have hnI : ((N0 : Int) == (ws.length : Int)) = false := by rw [beq_eq_false_iff_ne]; omega
        have hck := Lib.hid (hch.out _ hB3f)
        have hne : ((spnM.chk m 4 : Nat) : Int) ≠ 0 := fun e => hn (hTT.out (by omega))
        have hneI : (((spnM.chk m 4 : Nat) : Int) != 0) = true := by simpa using hne
        generalize ((spnM.chk m 4 : Nat) : Int) = CK at *
        replace hB3f := Lib.hid hB3f
        clear hch hTT hB3 hn hne
        go_wp2_with (fail)
        with_reducible refine hck.out.mono ?_
        rintro e w4 ⟨rfl, hB4⟩
        have hfin := Lib.hid (trans0 hB0'.out (trans0 hB3f.out hB4))
        clear hck hB4
        go_wp2
        go_ret
        exact ⟨rfl, hfin.out⟩
end
end Go.Proofs.Ytafocefbpkcoaaa.coSh
