/- The program's Touches. -/
import Derived.Test.YtafocefbpkcoaaaCoW
set_option linter.unusedVariables false
set_option linter.unusedSimpArgs false
set_option maxRecDepth 100000
namespace Go.Proofs.Ytafocefbpkcoaaa.coT
open Go.ChangeShapes Go.WideShapes Go.ChangeAt Go.RowKit Go.Deep
open opG opV chnM gen chnA chnR chnE ordA ordC coG coO coM coP coL coN coK coW

/-- does one of them write a key of a span? -/
def tcV (vs : List Ver) (lo hi : ByteArray) : Bool := vs.any fun v => spnM.wth v.key lo hi
def tcR (rs : List SR) (lo hi : ByteArray) : Bool := rs.any fun r => tcV r.vs lo hi
def tcS (sh : List Sh) (lo hi : ByteArray) : Bool := sh.any fun r => tcV r.vs lo hi
def tcE (os : Ens) (lo hi : ByteArray) : Bool := os.any fun x => tcS x.sh lo hi
theorem tcR_e (x : Tx) (lo hi : ByteArray) : tcS x.e.sh lo hi = tcR x.rs lo hi := by
  unfold tcS tcR Tx.e
  show (x.rs.map SR.s).any _ = _
  rw [List.any_map]; rfl
theorem any_up {α : Type} {l : List α} {f : α → Bool} {j : Nat} {x : α} (h : l[j]? = some x) : (l.take (j + 1)).any f = ((l.take j).any f || f x) := by
  have hj := (List.getElem?_eq_some_iff.1 h).1
  rw [List.take_succ_eq_append_getElem hj, (List.getElem?_eq_some_iff.1 h).2, List.any_append]
  simp
theorem any_at {α : Type} {l : List α} {f : α → Bool} {j : Nat} {x : α} (h : l[j]? = some x) (hf : f x = true) : l.any f = true := List.any_eq_true.2 ⟨x, List.mem_of_getElem? h, hf⟩
section
variable {col : Nat → Nat} {c t mb : Nat} {D : DM} {l : List Tx} {os : Ens}
set_option maxHeartbeats 2000000 in
theorem touchx_at (w : World) {x : Tx} (hm : TxM col c w x) (hl6 : x.rs.length ≤ 6) (lo hi : ByteArray) :
    Calls Try.prog 37 #[.pointer (some ⟨x.p, 0, none⟩), .string lo, .string hi] w fun e w' => e = .returned (.bool (tcR x.rs lo hi)) ∧ Below w.heap.size w w' := by
  obtain ⟨-, c1, -⟩ := hm.cells
  replace hm := Lib.hid hm
  obtain ⟨B, hBe⟩ : ∃ B, tcR x.rs lo hi = B := ⟨_, rfl⟩
  rw [hBe]
  replace hBe := Lib.hid hBe
  go_enter Try.func37, Try.ntmps37
  go_wp2
  go_loopw [16] (fun i wr => ∃ j : Nat, j ≤ x.rs.length ∧ i = .int .i64 j ∧ Hid (Below w.heap.size w wr ∧ tcR (x.rs.take j) lo hi = false)) (fun i _ => x.rs.length - (intOf i).toNat)
  case atStart => exact ⟨0, by omega, rfl, Lib.hid ⟨Below.refl _ _, rfl⟩⟩
  case round =>
    obtain ⟨j, hj, rfl, hX⟩ := hrel
    by_cases hlt : j < x.rs.length
    · have hjI : (j : Int) < (x.rs.length : Int) := by omega
      obtain ⟨r, hr⟩ : ∃ r, x.rs[j]? = some r := ⟨_, List.getElem?_eq_getElem hlt⟩
      obtain ⟨hB, hF⟩ := hX.out
      have hmw := hm.out.below hB
      obtain ⟨k0, k1, k2, k3, -⟩ := hmw.side hr
      generalize hasV x.vt r.node = hv at *
      generalize endV x.vt r.node = he at *
      have hdv := (hmw.dv r (List.mem_of_getElem? hr)).hv
      have hup : Hid (tcR (x.rs.take (j + 1)) lo hi = tcV r.vs lo hi) := Lib.hid (by
        have := any_up (f := fun r : SR => tcV r.vs lo hi) hr
        show (x.rs.take (j + 1)).any _ = _
        rw [this]
        show (tcR (x.rs.take j) lo hi || tcV r.vs lo hi) = _
        rw [hF]; rfl)
      have hyes : Hid (tcV r.vs lo hi = true → B = true) := Lib.hid (fun h => by rw [← hBe.out]; exact any_at (f := fun r : SR => tcV r.vs lo hi) hr h)
      obtain ⟨W1, hW1⟩ : ∃ W1, wr.alloc (.cells #[.int .i64 r.node, .slice r.A r.vs.length r.c, .bool hv, .bool he] TD) = W1 := ⟨_, rfl⟩
      have hB1 : Below wr.heap.size wr W1 := by rw [← hW1]; exact al0 _ _
      have hdv1 := Lib.hid (hdv.below hB1)
      have hBB := Lib.hid (trans0 hB hB1)
      have hbx : W1.cell? ⟨wr.heap.size, 1, none⟩ = some (.slice r.A r.vs.length r.c) := by
        rw [← hW1]
        exact (cell_of_row _ _ 1 _ TD (0, 0) (heap_alloc_new wr (.cells #[.int .i64 r.node, .slice r.A r.vs.length r.c, .bool hv, .bool he] TD))).trans rfl
      have hv9 := Lib.hid hdv.top
      have hvc := hdv.le
      have hvt := hdv.top
      clear hX hB hF hmw hdv hr hB1
      obtain ⟨rn, vs, rA, rc⟩ := r
      simp only at k0 k1 hup hyes hW1 hdv1 hbx hvc hvt
      replace hW1 := Lib.hid hW1
      go_upto_region 4 with (fail)
      rw [hW1.out]
      clear hW1 k0 k1 k2 k3
      go_wp2
      clear hbx
      go_loopw [24] (fun i w2 => ∃ k : Nat, k ≤ vs.length ∧ i = .int .i64 k ∧ Hid (Below W1.heap.size W1 w2 ∧ tcV (vs.take k) lo hi = false)) (fun i _ => vs.length - (intOf i).toNat)
      case atStart => exact ⟨0, by omega, rfl, Lib.hid ⟨Below.refl _ _, rfl⟩⟩
      case round =>
        obtain ⟨k, hk, rfl, hY⟩ := hrel
        by_cases hlk : k < vs.length
        · have hkI : (k : Int) < (vs.length : Int) := by omega
          obtain ⟨hB2, hF2⟩ := hY.out
          have hdw := hdv1.out.below hB2
          obtain ⟨pb, po, rfl, hpb, hc⟩ := hdw.at hlk
          obtain ⟨v, hv0⟩ : ∃ v, vs[k]? = some v := ⟨_, List.getElem?_eq_getElem hlk⟩
          have hnv : nt vs k = v := by rw [nt_at hlk]; exact (List.getElem?_eq_some_iff.1 hv0).2
          rw [hnv] at hc
          obtain ⟨d0, d1, d2, d3, d4, d5⟩ := hc
          have hup2 : Hid (tcV (vs.take (k + 1)) lo hi = spnM.wth v.key lo hi) := Lib.hid (by
            have := any_up (f := fun v : Ver => spnM.wth v.key lo hi) hv0
            show (vs.take (k + 1)).any _ = _
            rw [this]
            show (tcV (vs.take k) lo hi || spnM.wth v.key lo hi) = _
            rw [hF2]; rfl)
          have hyes2 : Hid (spnM.wth v.key lo hi = true → B = true) := Lib.hid (fun h => hyes.out (any_at (f := fun v : Ver => spnM.wth v.key lo hi) hv0 h))
          have hwi := Lib.hid (fun w => spnB.within_any v.key lo hi w)
          have hB3 := Lib.hid (trans0 hB2 (al0 wr (.cells #[.string v.key, .string v.val, .bool v.gone, .int .u64 v.ts, .int .i64 v.dc, .int .i64 v.tx] 64)))
          generalize spnM.wth v.key lo hi = T at *
          clear hY hB2 hF2 hdw hnv hv0
          go_wp2_with (fail)
          with_reducible refine (hwi.out _).mono ?_
          rintro e w3 ⟨rfl, rfl⟩
          have hBl := Lib.hid (trans0 hBB.out hB3.out)
          clear hwi d0 d1 d2 d3 d4 d5
          cases T
          · go_wp2
            go_roundw
            case rel => exact ⟨k + 1, by omega, by go_num, Lib.hid ⟨hB3.out, hup2.out⟩⟩
            case measure => simp [intOf]; omega
          · have hBt := hyes2.out rfl
            subst hBt
            clear hup2 hyes2 hup hyes
            go_wp2
            go_ret
            exact ⟨rfl, hBl.out⟩
        · obtain rfl : k = vs.length := by omega
          have hkI : ¬ (vs.length : Int) < (vs.length : Int) := by omega
          have hY2 := hY.out
          rw [List.take_length] at hY2
          have hno : Hid (tcR (x.rs.take (j + 1)) lo hi = false) := Lib.hid (hup.out.trans hY2.2)
          have hBl := Lib.hid (trans0 hBB.out hY2.1)
          clear hY hY2 hup hyes hdv1 hBB
          go_wp2
          go_roundw
          case rel => exact ⟨j + 1, by omega, by go_num, Lib.hid ⟨hBl.out, hno.out⟩⟩
          case measure => simp [intOf]; omega
    · obtain rfl : j = x.rs.length := by omega
      have hjI : ¬ (x.rs.length : Int) < (x.rs.length : Int) := by omega
      have hX2 := hX.out
      rw [List.take_length] at hX2
      have hB0 : B = false := hBe.out.symm.trans hX2.2
      subst hB0
      have hBl := Lib.hid hX2.1
      clear hX hX2 hBe hm
      go_wp2
      go_ret
      exact ⟨rfl, hBl.out⟩
/-- between the steps of the range -/
structure GT (col : Nat → Nat) (c t mb : Nat) (D : DM) (l : List Tx) (lo hi : ByteArray) (r : Nat) (w : World) (left : Lit → Bool) (cnt : Nat) (wr : World) : Prop where
  tb : TabM col c wr t mb D l
  rg : wr.ranges Try.prog 29 hV mb r l.length D left cnt
  bel : Below w.heap.size w wr
  rw_ : w.heap.size ≤ r
  sn : Seen .u64 (l.map fun x => (x.tx, .pointer (some ⟨x.p, 0, none⟩))) (fun k _ => ∀ x ∈ l, x.tx = k → tcR x.rs lo hi = false) left
theorem GT.below {lo hi : ByteArray} {r cnt : Nat} {left : Lit → Bool} {w wr w1 : World} (h : GT col c t mb D l lo hi r w left cnt wr) (hB : Below wr.heap.size wr w1) : GT col c t mb D l lo hi r w left cnt w1 where
  tb := h.tb.below hB
  rg := h.rg.kept (row := none) ⟨hB.os, hB.tape, hB.output, hB.size, fun k hk _ => hB.block k hk⟩ (by simp) (by simp)
  bel := trans0 h.bel hB
  rw_ := h.rw_
  sn := h.sn
theorem GT.tb1 {lo hi : ByteArray} {r cnt : Nat} {left : Lit → Bool} {w wr w1 : World} (h : GT col c t mb D l lo hi r w left cnt wr) (hf : Fresh col w) (hc : c ≠ 0) (hg : wr.grownBy w1 (some r)) : TabM col c w1 t mb D l ∧ Below w.heap.size w w1 := by
  refine ⟨?_, ⟨hg.os.trans h.bel.os, hg.tape.trans h.bel.tape, hg.output.trans h.bel.output, Nat.le_trans h.bel.size hg.size, fun k hk => (hg.block k (by have := h.bel.size; omega) (fun e => by have := Option.some.inj e; have := h.rw_; omega)).trans (h.bel.block k hk)⟩⟩
  have hne : ∀ k, col k = c → k ≠ r := fun k hk e => by
    subst e
    have := hf k h.rw_
    omega
  have h1 := h.tb
  refine { row := h1.row.of_block (hg.block t h1.row.lt (fun e => hne t h1.ct (Option.some.inj e))), mp := map_block h1.mp (hg.block mb h1.mp.lt (fun e => hne mb h1.cm (Option.some.inj e))), cr := h1.cr, xs := fun x hx => ?_, ap := h1.ap, tm := h1.tm, ct := h1.ct, cm := h1.cm }
  have hx' := h1.xs x hx
  refine { row := hx'.row.of_block (hg.block _ hx'.row.lt (fun e => hne _ hx'.cp (Option.some.inj e))), sd := hx'.sd.block fun k e => hg.block k (hx'.sd.lt e).2.1 (fun e2 => hne k (by cases e; exact hx'.cg) (Option.some.inj e2)), mp := map_block hx'.mp (hg.block _ hx'.mp.lt (fun e => hne _ hx'.cm (Option.some.inj e))), cr := hx'.cr, dv := fun q hq => ?_, cp := hx'.cp, cg := hx'.cg, cm := hx'.cm }
  have hd := hx'.dv q hq
  refine ⟨hv_block hd.hv hg.size ?_, hd.co⟩
  by_cases h0 : q.vs = []
  · exact .inl h0
  · refine .inr fun y e => hg.block _ (hv_lt hd.hv h0 e) fun e2 => ?_
    have e3 := Option.some.inj e2
    obtain ⟨b, off, e4, _, hc6⟩ := hd.hv.at (i := 0) (List.length_pos_iff.2 h0)
    rw [e] at e4
    cases e4
    simp only at e3
    subst e3
    obtain ⟨es, cl, since, seen, c0, _, _, _, _, hr, _⟩ := h.rg
    have := hc6.1
    simp [World.cell?, hr] at this
theorem GT.step {lo hi : ByteArray} {r cnt cnt1 : Nat} {left : Lit → Bool} {w wr w1 : World} {k : Int} (h : GT col c t mb D l lo hi r w left cnt wr) (hf : Fresh col w) (hc : c ≠ 0) (hg : wr.grownBy w1 (some r)) (hrg : w1.ranges Try.prog 29 hV mb r l.length D (fun z => left z && !z.sameKey (.int .u64 k)) cnt1) (hno : ∀ x ∈ l, x.tx = k → tcR x.rs lo hi = false) :
    GT col c t mb D l lo hi r w (fun z => left z && !z.sameKey (.int .u64 k)) cnt1 w1 :=
  ⟨(h.tb1 hf hc hg).1, hrg, (h.tb1 hf hc hg).2, h.rw_, h.sn.step fun v hv => hno⟩
theorem ov_at {os : Ens} {x : En} {lo hi : ByteArray} (h : x ∈ os) (ht : tcS x.sh lo hi = true) : tcE os lo hi = true := List.any_eq_true.2 ⟨x, h, ht⟩
set_option maxHeartbeats 2000000 in
theorem touches_at (w : World) (h : TabAt col c w t os) (hc : c ≠ 0) (hf : Fresh col w) (hok : ok os) (hn : os.length ≤ 1000) (lo hi : ByteArray) :
    Calls Try.prog 23 #[.pointer (some ⟨t, 0, none⟩), .string lo, .string hi] w fun e w' => e = .returned (.bool (tcE os lo hi)) ∧ Below w.heap.size w w' := by
  obtain ⟨mb, D, l, hT, rfl⟩ := h
  have k0 : w.cell? ⟨t, 0, none⟩ = some (.map (some mb)) := hT.row.cell (i := 0) (by omega)
  have hmp := Lib.hid hT.mp
  have hgo := Lib.hid (fun w0 (hrg : w0.ranges Try.prog 29 hV mb w.heap.size l.length D (Maps.has D) (Maps.size D)) (hg : w.grownBy w0 none) => (by
    have hB : Below w.heap.size w w0 := ⟨hg.os, hg.tape, hg.output, hg.size, fun k hk => hg.block k hk (by simp)⟩
    exact ⟨hT.below hB, hrg, hB, Nat.le_refl _, seen_start hT.cr _⟩ : GT col c t mb D l lo hi w.heap.size w (Maps.has D) (Maps.size D) w0))
  have hdif : (l.map (·.tx)).Nodup := by
    have := hok.df
    unfold DifE at this
    rw [List.map_map] at this
    exact this
  have hone := Lib.hid (fun x (hx : x ∈ l) y (hy : y ∈ l) (e : y.tx = x.tx) => (by
    obtain ⟨i, hi, e1⟩ := List.getElem_of_mem hx
    obtain ⟨j, hj, e2⟩ := List.getElem_of_mem hy
    have h1 : (l.map (·.tx))[i]? = some x.tx := by rw [List.getElem?_map, List.getElem?_eq_getElem hi, e1]; rfl
    have h2 : (l.map (·.tx))[j]? = some x.tx := by rw [List.getElem?_map, List.getElem?_eq_getElem hj, e2]; simp [e]
    have h3 := (List.getElem?_inj (by simpa using hi) hdif).1 (h1.trans h2.symm)
    subst h3
    exact e2.symm.trans e1 : y = x))
  have hsz := Lib.hid (fun x (hx : x ∈ l) => (by have := (hok.ea x.e (List.mem_map.2 ⟨x, hx, rfl⟩)).sz; rw [show x.e.sh.length = x.rs.length by unfold Tx.e; simp] at this; exact this : x.rs.length ≤ 6))
  obtain ⟨B, hBe⟩ : ∃ B, tcE (l.map Tx.e) lo hi = B := ⟨_, rfl⟩
  rw [hBe]
  have hyes := Lib.hid (fun x (hx : x ∈ l) (ht : tcR x.rs lo hi = true) => (by rw [← hBe]; exact ov_at (List.mem_map.2 ⟨x, hx, rfl⟩) ((tcR_e x lo hi).trans ht) : B = true))
  have hnot := Lib.hid (fun (h : ∀ x ∈ l, tcR x.rs lo hi = false) => (by
    rw [← hBe]
    unfold tcE
    rw [List.any_eq_false]
    intro e he
    obtain ⟨x, hx, rfl⟩ := List.mem_map.1 he
    rw [tcR_e, h x hx]; simp : B = false))
  have hfn := Lib.hid (fun x (hx : x ∈ l) => (by
    refine fnp_of_mem (x := (x.tx, .pointer (some ⟨x.p, 0, none⟩))) ?_ (List.mem_map.2 ⟨x, hx, rfl⟩)
    unfold Dfp
    rw [List.map_map]
    exact hdif : fnp (l.map fun x => (x.tx, (.pointer (some ⟨x.p, 0, none⟩) : Value))) x.tx = some (.pointer (some ⟨x.p, 0, none⟩))))
  replace hf := Lib.hid hf
  replace hc := Lib.hid hc
  clear hT hok hn hdif hBe
  go_enter Try.func23, Try.ntmps23
  go_wp2_with (at_range; refine wpList_range_own _ rfl _ TM rfl 29 73 (Maps.int_keyed Try.underlying29) Try.underlying70 _ mb l.length D rfl hmp.out ?_; intro w0 hrg0 hg0 hs0)
  have hG0 := Lib.hid (hgo.out _ hrg0 hg0)
  clear hrg0 hg0 hs0 hgo hmp k0
  go_frame
  generalize hrr : w.heap.size = r at *
  go_loopw [16] (fun _ wr => ∃ (left : Lit → Bool) (cnt : Nat), Hid (GT col c t mb D l lo hi r w left cnt wr)) (fun _ wr => wr.rangeLeft mb r)
  case atStart => exact ⟨_, _, hG0⟩
  case round =>
    obtain ⟨left, cnt, hG⟩ := hrel
    go_wp2_with (at_next; refine wpList_next_hv rfl _ rfl Try.underlying29 r _ _ rfl hG.out.rg ?_ ?_)
    · intro _ hl0
      have hB0 := hnot.out fun x hx => hG.out.sn.done hl0 _ _ (hfn.out x hx) x hx rfl
      subst hB0
      have hBl := Lib.hid hG.out.bel
      clear hG hG0 hl0 hyes hnot hfn hone hsz
      go_wp2
      go_ret
      exact ⟨rfl, hBl.out⟩
    · intro k v w1 cnt1 hat hrg1 hlt1 hg1 hs1 hen
      have hfk := cr_was hG.out.tb.cr hat
      obtain ⟨x, hx, ex⟩ := List.mem_map.1 (fnp_mem hfk)
      simp only [Prod.mk.injEq] at ex
      obtain ⟨rfl, rfl⟩ := ex
      obtain ⟨hT1, hB1⟩ := hG.out.tb1 hf.out hc.out hg1
      have hcall := Lib.hid (touchx_at w1 (hT1.xs x hx) (hsz.out x hx) lo hi)
      have hms := Lib.hid (show w1.rangeLeft mb r < wr.rangeLeft mb r from by rw [hrg1.left_eq, hG.out.rg.left_eq]; omega)
      have hstep := Lib.hid (fun w2 (hB2 : Below w1.heap.size w1 w2) (ht : tcR x.rs lo hi = false) => (by
        have h1 := (hG.out.step hf.out hc.out hg1 hrg1 (fun y hy e => by rw [hone.out x hx y hy e]; exact ht)).below hB2
        exact ⟨h1, by rw [h1.rg.left_eq, ← hrg1.left_eq]; exact hms.out⟩ : GT col c t mb D l lo hi r w (fun z => left z && !z.sameKey (.int .u64 x.tx)) cnt1 w2 ∧ w2.rangeLeft mb r < wr.rangeLeft mb r))
      have hB1' := Lib.hid hB1
      have hy := Lib.hid (hyes.out x hx)
      clear hG hG0 hat hrg1 hg1 hfk hT1 hB1 hnot hfn hone hsz hyes hms hx
      generalize tcR x.rs lo hi = T at *
      go_wp2_with (fail)
      with_reducible refine hcall.out.mono ?_
      rintro e w2 ⟨rfl, hB2⟩
      cases T
      · obtain ⟨hG2, hms⟩ := hstep.out _ hB2 rfl
        replace hG2 := Lib.hid hG2
        replace hms := Lib.hid hms
        clear hstep hcall hB2 hB1' hy
        go_wp2
        go_roundw
        case rel => exact ⟨_, _, hG2⟩
        case measure => exact hms.out
      · have hBt := hy.out rfl
        subst hBt
        have hBl := Lib.hid (trans0 hB1'.out hB2)
        clear hstep hcall hB2 hB1' hy
        go_wp2
        go_ret
        exact ⟨rfl, hBl.out⟩
end
end Go.Proofs.Ytafocefbpkcoaaa.coT
