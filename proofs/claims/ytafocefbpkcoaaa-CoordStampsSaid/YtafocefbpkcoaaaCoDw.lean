/- The document's Writes, Nodes, Touches. -/
import Derived.Test.YtafocefbpkcoaaaCoDv
import Derived.Test.YtafocefbpkcoaaaCoT
set_option linter.unusedVariables false
set_option linter.unusedSimpArgs false
set_option maxRecDepth 100000
namespace Go.Proofs.Ytafocefbpkcoaaa.coDw
open Go.ChangeShapes Go.WideShapes Go.ChangeAt Go.RowKit Go.Deep
open opG opV chnM gen chnA chnR chnE ordA ordC coG coO coM coP coL coK coN coW coT coD coDf coDv

section
variable {col : Nat → Nat} {c q cA : Nat} {A : Option Addr} {l : List DE} {os : Ens} {tx : Int}
theorem dwrs_e {x : DE} (h : fnE os tx = some x.e) : wrs os tx = (x.rs.map (·.vs)).flatten := by
  unfold wrs; rw [h]
  show ((x.rs.map SR.s).map (·.vs)).flatten = _
  rw [List.map_map]; rfl
theorem dnos_e {x : DE} (h : fnE os tx = some x.e) : nos os tx = x.ns := by unfold nos; rw [h]; exact nds_de x
theorem dsv_rs {x : DE} (h : okX x.e) : ∀ r ∈ x.rs, r.vs.length ≤ 8 := fun r hr => h.sv r.s (List.mem_map.2 ⟨r, hr, rfl⟩)
set_option maxHeartbeats 2000000 in
theorem dwrites_at (w : World) (h : DocAt col c w q os) (hok : ok os) (hn : os.length ≤ 1000) :
    Calls Try.prog 22 #[.pointer (some ⟨q, 0, none⟩), .int .u64 tx] w fun e w' => ∃ A c, e = .returned (.slice A (wrs os tx).length c) ∧ GV w' w.heap.size A c (wrs os tx) ∧ Below w.heap.size w w' := by
  obtain ⟨A, cA, l, hT, rfl⟩ := h
  rw [List.length_map] at hn
  have hfi := dfind_at w hT hn tx
  cases hfe : fnE (l.map DE.e) tx with
  | none =>
    have e1 : wrs (l.map DE.e) tx = [] := by unfold wrs; rw [hfe]
    rw [e1]
    rw [show dfI (l.map DE.e) tx = -1 by unfold dfI; rw [hfe]] at hfi
    replace hfi := Lib.hid hfi
    clear hT hok hfe e1
    go_enter Try.func22, Try.ntmps22
    go_wp2_with (fail)
    with_reducible refine hfi.out.mono ?_
    rintro e w' ⟨rfl, rfl⟩
    go_wp2
    go_ret
    exact ⟨none, 0, rfl, GV.nil_ _ _, Below.refl _ _⟩
  | some x' =>
    obtain ⟨P, x, hx, rfl, rfl, hdI⟩ := dpos hfe
    have hxo := (ok_mem hok hfe).1
    rw [hdI] at hfi
    replace hfi := Lib.hid hfi
    rw [dwrs_e hfe]
    have hl6 : x.rs.length ≤ 6 := by have := hxo.sz; rw [len_de] at this; exact this
    have hsv := Lib.hid (dsv_rs hxo)
    have hPl := (List.getElem?_eq_some_iff.1 hx).1
    have hPI : (P : Int) < (l.length : Int) := by omega
    have hP0 : (0 : Int) ≤ (P : Int) := by omega
    have hcap := hT.ro.cap
    obtain ⟨g, eA, -⟩ := hT.at_ hx
    subst eA
    have hcells := Lib.hid (fun w' (hB : Below w.heap.size w w') => And.intro (hT.below hB).cell.1 ((hT.below hB).at_ hx))
    have hm := Lib.hid (fun w' (hB : Below w.heap.size w w') => (hT.below hB).xs x (List.mem_of_getElem? hx))
    have hc1 := (hm.out w (Below.refl _ _)).sh.le
    have hc1t := (hm.out w (Below.refl _ _)).sh.top
    obtain ⟨iV, hiV, hzV0, hzV1, hzV2⟩ := info_parts infoV
    clear hT hok hfe hxo hdI hx
    obtain ⟨xt, xl, rs, A1, c1', vt, A2, c2'⟩ := x
    simp only at hl6 hsv hcells hm hc1 hc1t hfi ⊢
    go_enter Try.func22, Try.ntmps22
    go_wp2_with (fail)
    with_reducible refine hfi.out.mono ?_
    rintro e w' ⟨rfl, rfl⟩
    clear hfi
    go_wp2
    go_loopw [7, 5] (fun i s wr => ∃ (j : Nat) (A : Option Addr) (c : Nat), j ≤ rs.length ∧ i = .int .i64 j ∧ s = .slice A (((rs.take j).map (·.vs)).flatten).length c ∧ Hid (GV wr w.heap.size A c ((rs.take j).map (·.vs)).flatten ∧ Below w.heap.size w wr)) (fun i _ _ => rs.length - (intOf i).toNat)
    case atStart => exact ⟨0, none, 0, by omega, rfl, rfl, Lib.hid ⟨GV.nil_ _ _, Below.refl _ _⟩⟩
    case round =>
      obtain ⟨j, A1x, c1x, hj, rfl, rfl, hX⟩ := hrel
      obtain ⟨hG, hB⟩ := hX.out
      obtain ⟨z0, g1, e8, -, -, k2, -, -⟩ := hcells.out _ hB
      cases e8
      by_cases hlt : j < rs.length
      · have hjI : (j : Int) < (rs.length : Int) := by omega
        obtain ⟨r, hr⟩ : ∃ r, rs[j]? = some r := ⟨_, List.getElem?_eq_getElem hlt⟩
        have hmw := hm.out _ hB
        obtain ⟨b, off, eb, s0, s1⟩ := hmw.share hr
        have eb' : A1 = some ⟨b, off, none⟩ := eb
        subst eb'
        have hdv := (hmw.dv r (List.mem_of_getElem? hr)).hv
        obtain ⟨L0, hL0⟩ : ∃ L, ((rs.take j).map (·.vs)).flatten = L := ⟨_, rfl⟩
        have hL1 : ((rs.take (j + 1)).map (·.vs)).flatten = L0 ++ r.vs := by
          rw [← hL0, List.take_succ_eq_append_getElem hlt, (List.getElem?_eq_some_iff.1 hr).2]
          simp
        have hlen : L0.length + r.vs.length ≤ 48 := by
          have := vsl_len (rs := rs.take (j + 1)) fun q hq => hsv.out q (List.mem_of_mem_take hq)
          rw [hL1, List.length_append, List.length_take] at this
          omega
        rw [hL0] at hG
        have hown := Lib.hid (show wr.ownsRow w.heap.size 64 6 (.slice A1x L0.length c1x) L0.length (fl L0) from hG)
        have hst := Lib.hid hdv.stand
        have hend := Lib.hid (fun A9 c9 w9 (ho : w9.ownsRow w.heap.size 64 6 (.slice A9 (L0.length + r.vs.length) c9) (L0.length + r.vs.length) (fl L0 ++ fl r.vs)) (hg : wr.grownBy w9 (Value.slice A1x L0.length c1x).ownBlock) => (by
          rw [hL1]
          refine ⟨gv_app rfl rfl ho, grown_below hB hg (fun k e => ?_) hB.size⟩
          exact (World.ownsRow.lt hG k e).1 : GV w9 w.heap.size A9 c9 ((rs.take (j + 1)).map (·.vs)).flatten ∧ Below w.heap.size w w9))
        have hlt9 := Lib.hid (show L0.length + r.vs.length ≤ maxLen ∧ (L0.length + r.vs.length) * 64 ≤ 140737488355328 ∧ w.heap.size ≤ wr.heap.size from ⟨by unfold maxLen; omega, by omega, hB.size⟩)
        have hnext : Hid ((((rs.take (j + 1)).map (·.vs)).flatten).length = L0.length + r.vs.length) := Lib.hid (by rw [hL1, List.length_append])
        have hfl : Hid ((fl r.vs).length = r.vs.length * 6) := Lib.hid (fl_len _)
        have hfa := Lib.hid (fl_all r.vs)
        rw [hL0]
        clear hX hG hB hmw hdv hL0 hL1 hlen hr
        go_wp2_with (at_builtin; refine wpList_gen rfl (.tmp 26) (.tmp 38) 47 rfl w.heap.size 64 iV _ 6 64 Try.underlying47 hiV hzV0 hzV1 hzV2 rfl (by decide) (.slice A1x L0.length c1x) L0.length (fl L0) (by rfl) hown.out r.A r.vs.length r.c (fl r.vs) (by rfl) hfl.out hst.out hfa.out hlt9.out.1 hlt9.out.2.1 hlt9.out.2.2 ?_; intro A9 c9 w9 hr9 hg9 hat9; have hF := Lib.hid (hend.out A9 c9 w9 hr9 hg9); clear hr9 hg9 hat9)
        go_roundw
        case rel => exact ⟨j + 1, A9, c9, by omega, by go_num, by rw [hnext.out], hF⟩
        case measure => simp [intOf]; omega
      · obtain rfl : j = rs.length := by omega
        have hjI : ¬ (rs.length : Int) < (rs.length : Int) := by omega
        rw [List.take_length] at hX ⊢
        clear hm hsv hcells hG hB
        go_wp2
        go_ret
        exact ⟨_, _, rfl, hX.out.1, hX.out.2⟩
set_option maxHeartbeats 2000000 in
theorem dnodes_at (w : World) (h : DocAt col c w q os) (hok : ok os) (hn : os.length ≤ 1000) :
    Calls Try.prog 18 #[.pointer (some ⟨q, 0, none⟩), .int .u64 tx] w fun e w' => ∃ A c, e = .returned (.slice A (nos os tx).length c) ∧ coG.Own shI w' w.heap.size A c (nos os tx) ∧ Below w.heap.size w w' := by
  obtain ⟨A, cA, l, hT, rfl⟩ := h
  rw [List.length_map] at hn
  have hfi := dfind_at w hT hn tx
  cases hfe : fnE (l.map DE.e) tx with
  | none =>
    have e1 : nos (l.map DE.e) tx = [] := by unfold nos; rw [hfe]
    rw [e1]
    rw [show dfI (l.map DE.e) tx = -1 by unfold dfI; rw [hfe]] at hfi
    replace hfi := Lib.hid hfi
    clear hT hok hfe e1
    go_enter Try.func18, Try.ntmps18
    go_wp2_with (fail)
    with_reducible refine hfi.out.mono ?_
    rintro e w' ⟨rfl, rfl⟩
    go_wp2
    go_ret
    exact ⟨none, 0, rfl, coG.Own.nil_ _ _ _, Below.refl _ _⟩
  | some x' =>
    obtain ⟨P, x, hx, rfl, rfl, hdI⟩ := dpos hfe
    have hxo := (ok_mem hok hfe).1
    rw [hdI] at hfi
    replace hfi := Lib.hid hfi
    rw [dnos_e hfe]
    have hl6 : x.rs.length ≤ 6 := by have := hxo.sz; rw [len_de] at this; exact this
    have hPl := (List.getElem?_eq_some_iff.1 hx).1
    have hPI : (P : Int) < (l.length : Int) := by omega
    have hP0 : (0 : Int) ≤ (P : Int) := by omega
    have hcap := hT.ro.cap
    obtain ⟨g, eA, -⟩ := hT.at_ hx
    subst eA
    have hcells := Lib.hid (fun w' (hB : Below w.heap.size w w') => And.intro (hT.below hB).cell.1 ((hT.below hB).at_ hx))
    have hm := Lib.hid (fun w' (hB : Below w.heap.size w w') => (hT.below hB).xs x (List.mem_of_getElem? hx))
    have hc1 := (hm.out w (Below.refl _ _)).sh.le
    have hc1t := (hm.out w (Below.refl _ _)).sh.top
    obtain ⟨iV, hiV, hzV0, hzV1, hzV2⟩ := info_parts infoI
    have hnl : x.ns.length = x.rs.length := by simp [DE.ns]
    obtain ⟨NS, hNS⟩ : ∃ NS, x.ns = NS := ⟨_, rfl⟩
    have hat := Lib.hid (fun (j : Nat) r (hr : x.rs[j]? = some r) => (by rw [← hNS]; unfold DE.ns; rw [List.getElem?_map, hr]; rfl : NS[j]? = some r.node))
    rw [hNS] at hnl ⊢
    replace hnl := Lib.hid hnl
    clear hT hok hfe hxo hdI hx hNS
    obtain ⟨xt, xl, rs, A1, c1', vt, A2, c2'⟩ := x
    simp only at hl6 hcells hm hc1 hc1t hfi hnl hat
    go_enter Try.func18, Try.ntmps18
    go_wp2_with (fail)
    with_reducible refine hfi.out.mono ?_
    rintro e w' ⟨rfl, rfl⟩
    clear hfi
    go_wp2
    go_loopw [7, 5] (fun i s wr => ∃ (j : Nat) (A : Option Addr) (c : Nat), j ≤ rs.length ∧ i = .int .i64 j ∧ s = .slice A (NS.take j).length c ∧ Hid (coG.Own shI wr w.heap.size A c (NS.take j) ∧ Below w.heap.size w wr)) (fun i _ _ => rs.length - (intOf i).toNat)
    case atStart => exact ⟨0, none, 0, by omega, rfl, rfl, Lib.hid ⟨coG.Own.nil_ _ _ _, Below.refl _ _⟩⟩
    case round =>
      obtain ⟨j, A1x, c1x, hj, rfl, rfl, hX⟩ := hrel
      obtain ⟨hG, hB⟩ := hX.out
      obtain ⟨z0, g1, e8, -, -, k2, -, -⟩ := hcells.out _ hB
      cases e8
      by_cases hlt : j < rs.length
      · have hjI : (j : Int) < (rs.length : Int) := by omega
        obtain ⟨r, hr⟩ : ∃ r, rs[j]? = some r := ⟨_, List.getElem?_eq_getElem hlt⟩
        have hmw := hm.out _ hB
        obtain ⟨b, off, eb, s0, s1⟩ := hmw.share hr
        have eb' : A1 = some ⟨b, off, none⟩ := eb
        subst eb'
        have hns := hat.out j r hr
        have hL1 : NS.take (j + 1) = NS.take j ++ [r.node] := by
          rw [List.take_succ_eq_append_getElem (by rw [hnl.out]; exact hlt), (List.getElem?_eq_some_iff.1 hns).2]
        have hlj : (NS.take j).length = j := by rw [List.length_take, hnl.out]; omega
        obtain ⟨L0, hL0⟩ : ∃ L, NS.take j = L := ⟨_, rfl⟩
        rw [hL0] at hG hL1 hlj ⊢
        have hal := al0 wr (.cells #[.int .i64 r.node] 3)
        have hown := Lib.hid (show (wr.alloc (.cells #[.int .i64 r.node] 3)).ownsRow w.heap.size 3 1 (.slice A1x L0.length c1x) L0.length (shI.fl L0) from hG.below hal)
        have hend := Lib.hid (fun A9 c9 w9 (ho : w9.ownsRow w.heap.size 3 1 (.slice A9 (L0.length + 1) c9) (L0.length + 1) (shI.fl L0 ++ cI r.node)) (hg : (wr.alloc (.cells #[.int .i64 r.node] 3)).grownBy w9 (Value.slice A1x L0.length c1x).ownBlock) => (by
          rw [hL1]
          refine ⟨coG.Own.of_app1 ho, grown_below (trans0 hB hal) hg (fun k e => (hG.lt e).1) (Nat.le_trans hB.size hal.size)⟩ : coG.Own shI w9 w.heap.size A9 c9 (NS.take (j + 1)) ∧ Below w.heap.size w w9))
        have hlt9 := Lib.hid (show L0.length + 1 ≤ maxLen ∧ (L0.length + 1) * 8 ≤ 140737488355328 ∧ w.heap.size ≤ (wr.alloc (.cells #[.int .i64 r.node] 3)).heap.size from ⟨by unfold maxLen; omega, by omega, Nat.le_trans hB.size hal.size⟩)
        have hnext : Hid ((NS.take (j + 1)).length = L0.length + 1) := Lib.hid (by rw [hL1, List.length_append]; rfl)
        clear hX hG hB hmw hL0 hL1 hr hns hlj hal
        go_wp2_with (at_builtin; refine wpList_gen rfl (.tmp 26) (.tmp 39) 43 rfl w.heap.size 3 iV _ 1 8 Try.underlying43 hiV hzV0 hzV1 hzV2 rfl (by decide) (.slice A1x L0.length c1x) L0.length (shI.fl L0) (by rfl) hown.out (some ⟨wr.heap.size, 0, none⟩) 1 1 (cI r.node) (by rfl) rfl (stand_new _ _ _ _) (cI_one _) hlt9.out.1 hlt9.out.2.1 hlt9.out.2.2 ?_; intro A9 c9 w9 hr9 hg9 hat9; have hF := Lib.hid (hend.out A9 c9 w9 hr9 hg9); clear hr9 hg9 hat9)
        go_roundw
        case rel => exact ⟨j + 1, A9, c9, by omega, by go_num, by rw [hnext.out], hF⟩
        case measure => simp [intOf]; omega
      · obtain rfl : j = rs.length := by omega
        have hjI : ¬ (rs.length : Int) < (rs.length : Int) := by omega
        rw [List.take_of_length_le (by rw [hnl.out]; exact Nat.le_refl _)] at hX ⊢
        clear hm hcells hG hB hat
        go_wp2
        go_ret
        exact ⟨_, _, rfl, hX.out.1, hX.out.2⟩
theorem tcV_flat (rs : List SR) (lo hi : ByteArray) : tcV (rs.map (·.vs)).flatten lo hi = tcR rs lo hi := by
  unfold tcV tcR
  rw [List.any_flatten, List.any_map]
  rfl
theorem dtcR_e (x : DE) (lo hi : ByteArray) : tcS x.e.sh lo hi = tcR x.rs lo hi := by
  unfold tcS tcR DE.e
  show (x.rs.map SR.s).any _ = _
  rw [List.any_map]; rfl
set_option maxHeartbeats 2000000 in
theorem dtouches_at (w : World) (h : DocAt col c w q os) (hok : ok os) (hn : os.length ≤ 1000) (lo hi : ByteArray) :
    Calls Try.prog 24 #[.pointer (some ⟨q, 0, none⟩), .string lo, .string hi] w fun e w' => e = .returned (.bool (tcE os lo hi)) ∧ Below w.heap.size w w' := by
  have hwr := Lib.hid (fun V (hB : Below w.heap.size w V) tx => dwrites_at (tx := tx) V (h.below hB) hok hn)
  obtain ⟨A, cA, l, hT, rfl⟩ := h
  rw [List.length_map] at hn
  have hcap := hT.ro.cap
  have hcell := Lib.hid (fun V (hB : Below w.heap.size w V) => (hT.below hB).cell.1)
  have hat := Lib.hid (fun V (hB : Below w.heap.size w V) i x (hx : l[i]? = some x) => (hT.below hB).at_ hx)
  have hwe := Lib.hid (fun (i : Nat) (x : DE) (hx : l[i]? = some x) => (by
    have hm : fnE (l.map DE.e) x.tx = some x.e := by
      have hd := hok.df
      have e0 : l.map DE.e = (l.take i).map DE.e ++ x.e :: (l.drop (i + 1)).map DE.e := by
        conv => lhs; rw [split_at hx]
        rw [List.map_append, List.map_cons]
      rw [e0] at hd ⊢
      exact fnE_mid (dif_at hd).1
    have hxo := (ok_mem hok hm).1
    have h1 := dwrs_e hm
    have h6 : x.rs.length ≤ 6 := by have := hxo.sz; rw [len_de] at this; exact this
    have h2 := vsl_len (dsv_rs hxo)
    exact ⟨h1, by rw [h1]; omega, by rw [h1]; exact tcV_flat x.rs lo hi⟩ : wrs (l.map DE.e) x.tx = (x.rs.map (·.vs)).flatten ∧ (wrs (l.map DE.e) x.tx).length ≤ 48 ∧ tcV (wrs (l.map DE.e) x.tx) lo hi = tcR x.rs lo hi))
  obtain ⟨B, hBe⟩ : ∃ B, tcE (l.map DE.e) lo hi = B := ⟨_, rfl⟩
  rw [hBe]
  have hBe2 : Hid ((l.any fun x => tcR x.rs lo hi) = B) := Lib.hid (by
    rw [← hBe]
    unfold tcE
    rw [List.any_map]
    congr 1
    funext x
    exact (dtcR_e x lo hi).symm)
  clear hT hok hBe
  go_enter Try.func24, Try.ntmps24
  go_wp2
  go_loopw [7, 8, 9] (fun i _ _ wr => ∃ j : Nat, j ≤ l.length ∧ i = .int .i64 j ∧ Hid (Below w.heap.size w wr ∧ ((l.take j).any fun x => tcR x.rs lo hi) = false)) (fun i _ _ _ => l.length - (intOf i).toNat)
  case atStart => exact ⟨0, by omega, rfl, Lib.hid ⟨Below.refl _ _, rfl⟩⟩
  case round =>
    obtain ⟨j, hj, rfl, hX⟩ := hrel
    obtain ⟨hB, hF⟩ := hX.out
    have z0 := hcell.out _ hB
    by_cases hlt : j < l.length
    · have hjI : (j : Int) < (l.length : Int) := by omega
      obtain ⟨x, hx⟩ : ∃ x, l[j]? = some x := ⟨_, List.getElem?_eq_getElem hlt⟩
      obtain ⟨g, rfl, k0, -⟩ := hat.out _ hB j x hx
      obtain ⟨-, hw48, hwt⟩ := hwe.out j x hx
      have hcall := Lib.hid (hwr.out _ hB x.tx)
      have hup : Hid (((l.take (j + 1)).any fun x => tcR x.rs lo hi) = tcV (wrs (l.map DE.e) x.tx) lo hi) := Lib.hid (by
        rw [any_up (f := fun x : DE => tcR x.rs lo hi) hx, hF, hwt]; rfl)
      have hyes : Hid (tcV (wrs (l.map DE.e) x.tx) lo hi = true → B = true) := Lib.hid (fun h => by rw [← hBe2.out]; exact any_at (f := fun x : DE => tcR x.rs lo hi) hx (by rw [← hwt]; exact h))
      generalize wrs (l.map DE.e) x.tx = VS at *
      replace hB := Lib.hid hB
      clear hX hF hwt hx
      go_wp2_with (fail)
      with_reducible refine hcall.out.mono ?_
      rintro e w2 ⟨Av, cv, rfl, hG, hB2⟩
      have hv := hG.hv (by omega)
      have hvc := hv.le
      have hvt := hv.top
      have hBB := Lib.hid (trans0 hB.out hB2)
      replace hv := Lib.hid hv
      clear hcall hG hB2 z0 k0
      go_wp2
      go_loopw [9] (fun i wx => ∃ k : Nat, k ≤ VS.length ∧ i = .int .i64 k ∧ wx = w2 ∧ Hid (tcV (VS.take k) lo hi = false)) (fun i _ => VS.length - (intOf i).toNat)
      case atStart => exact ⟨0, by omega, rfl, rfl, Lib.hid rfl⟩
      case round =>
        obtain ⟨k, hk, rfl, rfl, hY⟩ := hrel
        by_cases hlk : k < VS.length
        · have hkI : (k : Int) < (VS.length : Int) := by omega
          obtain ⟨pb, po, rfl, hpb, hc⟩ := hv.out.at hlk
          obtain ⟨v, hv0⟩ : ∃ v, VS[k]? = some v := ⟨_, List.getElem?_eq_getElem hlk⟩
          have hnv : nt VS k = v := by rw [nt_at hlk]; exact (List.getElem?_eq_some_iff.1 hv0).2
          rw [hnv] at hc
          obtain ⟨d0, -⟩ := hc
          have hup2 : Hid (tcV (VS.take (k + 1)) lo hi = spnM.wth v.key lo hi) := Lib.hid (by
            have := any_up (f := fun v : Ver => spnM.wth v.key lo hi) hv0
            show (VS.take (k + 1)).any _ = _
            rw [this]
            show (tcV (VS.take k) lo hi || spnM.wth v.key lo hi) = _
            rw [hY.out]; rfl)
          have hyes2 : Hid (spnM.wth v.key lo hi = true → B = true) := Lib.hid (fun h => hyes.out (any_at (f := fun v : Ver => spnM.wth v.key lo hi) hv0 h))
          have hwi := Lib.hid (fun w => spnB.rwithin_any v.key lo hi w)
          generalize spnM.wth v.key lo hi = T at *
          clear hY hnv hv0
          go_wp2_with (fail)
          with_reducible refine (hwi.out _).mono ?_
          rintro e w3 ⟨rfl, rfl⟩
          clear hwi d0
          cases T
          · go_wp2
            go_roundw
            case rel => exact ⟨k + 1, by omega, by go_num, trivial, hup2⟩
            case measure => simp [intOf]; omega
          · have hBt := hyes2.out rfl
            subst hBt
            clear hup2 hyes2 hup hyes hBe2
            go_wp2
            go_ret
            exact ⟨rfl, hBB.out⟩
        · obtain rfl : k = VS.length := by omega
          have hkI : ¬ (VS.length : Int) < (VS.length : Int) := by omega
          have hY2 := hY.out
          rw [List.take_length] at hY2
          have hno := Lib.hid (hup.out.trans hY2)
          clear hY hY2 hup hyes hv
          go_wp2
          go_roundw
          case rel => exact ⟨j + 1, by omega, by go_num, Lib.hid ⟨hBB.out, hno.out⟩⟩
          case measure => simp [intOf]; omega
    · obtain rfl : j = l.length := by omega
      have hjI : ¬ (l.length : Int) < (l.length : Int) := by omega
      have hX2 := hX.out
      rw [List.take_length] at hX2
      have hB0 : B = false := hBe2.out.symm.trans hX2.2
      subst hB0
      have hBl := Lib.hid hX2.1
      clear hX hX2 hBe2 hcell hat hwe hwr hF hB
      go_wp2
      go_ret
      exact ⟨rfl, hBl.out⟩
end
end Go.Proofs.Ytafocefbpkcoaaa.coDw
