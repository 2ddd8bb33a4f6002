/- The program's Begin: what is seen at the time goes, while the map is gone through. -/
import Derived.Test.YtnicomhodnfggaaSeW
import Derived.Maps.RangeWalk
import Derived.LoopTactic
set_option linter.unusedVariables false
set_option linter.unusedSimpArgs false
set_option maxRecDepth 100000
namespace Go.Proofs.Ytnicomhodnfggaa.seG
open Go.ChangeShapes Go.WideShapes Go.ChangeAt Go.RowKit Go.Deep
open opV chnM gen chnA chnR chnE seM seI ordC seL seN seB seK seV seW

/-- a step of the range over a map of versions -/
theorem wpList_next_ver {P : Program} (w : World) {ops : Array Oper} {rest : List Oper} {o : Oper} {a : Act} {Q : Exit → Act → World → Prop} (hg : o.guard = none) (it : Operand) (hop : o.op = Op.next it false) (k : TypeId) (K : Maps.Keyed P k) (hk : P.underlying k = some .string)
    (b r n : Nat) (D : DM) (left : Lit → Bool) (cnt : Nat) (hit : a.eval it = .pointer (some ⟨r, 0, none⟩)) (h : w.ranges P k vR b r n D left cnt)
    (hDone : cnt = 0 → (∀ kl, left kl = false) → wpList P ops Q rest (a.put o.dst (.tuple #[.bool false])) w)
    (hMore : ∀ (x : ByteArray) (c : Ver) (w' : World) (cnt' : Nat), x.size ≤ maxLen → left (kS x) = true → (∀ zd, D.atKey (kS x) zd = .held c) → w'.ranges P k vR b r n D (fun z => left z && !z.sameKey (kS x)) cnt' → cnt' < cnt →
      w.grownBy w' (some r) → w'.heap.size = w.heap.size → (Instr.entry (.pointer (some ⟨r, 0, none⟩))).run P w' = .ok (.tuple #[.string x, vv c]) w' → wpList P ops Q rest (a.put o.dst (.tuple #[.bool true, .string x, vv c])) w') :
    wpList P ops Q (o :: rest) a w :=
  wpList_next_ranges w hg it hop k K vR Value.string vv (fun key kl hkey => by obtain ⟨x, rfl, _⟩ := Maps.keyOf_str hk hkey; exact ⟨_, rfl⟩) (fun v y hv => by obtain ⟨c, rfl, _⟩ := vR_inv hv; exact ⟨c, rfl⟩)
    b r n D left cnt hit h hDone (fun x c kl y w' cnt' hkey hlk hv hat hrg hlt hgr hsz hen => by
      obtain ⟨x', ex, rfl, hx⟩ := Maps.keyOf_str hk hkey
      rw [vR_mk] at hv
      obtain rfl := Option.some.inj hv
      have e : x = ⟨x'.toArray⟩ := by simpa [encStr] using ex
      subst e
      exact hMore ⟨x'.toArray⟩ c w' cnt' (by simpa [ByteArray.size] using hx) hlk hat hrg hlt hgr hsz hen)
def colQ (col : Nat → Nat) (a d k : Nat) : Nat := if k = a then d else col k
section
variable {col col' : Nat → Nat} {c d p : Nat} {S : Ss} {w w1 : World} {sn la : Int} {A : Option Addr} {cw mb n : Nat} {ws ca : List Ver} {D D' : DM}
theorem ext_colQ {a : Nat} (h : w.heap.size ≤ a) : Ext w col (colQ col a d) := fun k hk => if_neg (by omega)
theorem fresh_colQ {a : Nat} {w2 : World} (hf : Fresh col w) (hs : w.heap.size ≤ w2.heap.size) (ha : a < w2.heap.size) : Fresh (colQ col a d) w2 := fun k hk => by
  unfold colQ
  rw [if_neg (by omega)]
  exact hf k (by omega)
theorem chg_swap {c1 c2 : Nat → Nat} {c : Nat} {w w1 : World} (h : Chg c1 c w w1) (he : Ext w c1 c2) : Chg c2 c w w1 := ⟨h.os, h.tape, h.output, h.size, fun k hk hc => h.block k hk (by rw [← he k hk]; exact hc)⟩
/-- between the steps of the range -/
structure G2 (col : Nat → Nat) (c p : Nat) (sn la : Int) (A : Option Addr) (cw : Nat) (ws ca : List Ver) (mb n r : Nat) (w : World) (D : DM) (left : Lit → Bool) (cnt : Nat) (wr : World) : Prop where
  chg : Chg col c w wr
  ses : SesM col c wr p sn la true A cw ws mb n D
  rg : wr.ranges Try.prog 9 vR mb r n D left cnt
  rl : RL ca sn D left
  rc : col r = c + 1
  rw_ : w.heap.size ≤ r
theorem G2.step {r cnt cnt1 : Nat} {left left' : Lit → Bool} {wr : World} (h : G2 col c p sn la A cw ws ca mb n r w D left cnt wr) (hg : wr.grownBy w1 (some r)) (hrg : w1.ranges Try.prog 9 vR mb r n D left' cnt1) :
    SesM col c w1 p sn la true A cw ws mb n D ∧ Chg col c w w1 := by
  have hgc : Chg col (c + 1) wr w1 := Chg.grown hg fun k e => by cases e; exact h.rc
  refine ⟨h.ses.other hgc (by omega) (by omega) (Ext.refl _ _), ⟨hg.os.trans h.chg.os, hg.tape.trans h.chg.tape, hg.output.trans h.chg.output, Nat.le_trans h.chg.size hg.size, fun k hk hc => ?_⟩⟩
  refine (hg.block k (Nat.lt_of_lt_of_le hk h.chg.size) ?_).trans (h.chg.block k hk hc)
  rintro e
  cases e
  have := h.rw_
  omega
theorem G2.start {w6 w0 : World} (hC : Chg col c w w6) (hf : Fresh col w6) (hb : SesM col c w6 p sn la true A cw ws mb n D) (hcr : CR ca D) (hrg : w0.ranges Try.prog 9 vR mb w6.heap.size n D (Maps.has D) (Maps.size D)) (hg : w6.grownBy w0 none) :
    G2 (colQ col w6.heap.size (c + 1)) c p sn la A cw ws ca mb n w6.heap.size w D (Maps.has D) (Maps.size D) w0 := by
  have hB : Below w6.heap.size w6 w0 := ⟨hg.os, hg.tape, hg.output, hg.size, fun k hk => hg.block k hk (by simp)⟩
  have hE : Ext w6 col (colQ col w6.heap.size (c + 1)) := ext_colQ (Nat.le_refl _)
  have hEw : Ext w col (colQ col w6.heap.size (c + 1)) := fun k hk => hE k (by have := hC.size; omega)
  exact ⟨chg_swap (hC.then hB) hEw, hb.other (Chg.of_below _ (c + 1) hB) (by omega) (by omega) hE, hrg, rl_start hcr _, if_pos rfl, hC.size⟩
/-- a round's end where the version stays -/
theorem G2.stay {r cnt cnt1 : Nat} {left : Lit → Bool} {wr w2 : World} {x : ByteArray} {v : Ver} (h : G2 col c p sn la A cw ws ca mb n r w D left cnt wr) (hg : wr.grownBy w1 (some r)) (hrg : w1.ranges Try.prog 9 vR mb r n D (fun z => left z && !z.sameKey (kS x)) cnt1)
    (hat : ∀ z, D.atKey (kS x) z = .held v) (hv : newer sn v = true) (hB : Below w1.heap.size w1 w2) : G2 col c p sn la A cw ws ca mb n r w D (fun z => left z && !z.sameKey (kS x)) cnt1 w2 := by
  obtain ⟨b1, c1⟩ := h.step hg hrg
  exact ⟨c1.then hB, b1.below hB, hrg.kept (row := none) ⟨hB.os, hB.tape, hB.output, hB.size, fun k hk _ => hB.block k hk⟩ (by simp) (by simp), h.rl.go_stay hat hv, h.rc, h.rw_⟩
/-- .. where it goes -/
theorem G2.gone {r cnt cnt1 cnt3 : Nat} {left : Lit → Bool} {wr w2 w3 : World} {x : ByteArray} {v : Ver} (h : G2 col c p sn la A cw ws ca mb n r w D left cnt wr) (hg : wr.grownBy w1 (some r)) (hrg : w1.ranges Try.prog 9 vR mb r n D (fun z => left z && !z.sameKey (kS x)) cnt1)
    (hat : ∀ z, D.atKey (kS x) z = .held v) (hv : newer sn v = false) (hB : Below w1.heap.size w1 w2) (hc : c ≠ 0) (hrg3 : w3.ranges Try.prog 9 vR mb r n (D.del (kS x)) (fun z => left z && !z.sameKey (kS x)) cnt3) (ht : w2.mapTurned w3 mb) : G2 col c p sn la A cw ws ca mb n r w (D.del (kS x)) (fun z => left z && !z.sameKey (kS x)) cnt3 w3 := by
  obtain ⟨b1, c1⟩ := h.step hg hrg
  obtain ⟨c3, b3⟩ := (b1.below hB).turned ht.grown hrg3.owns
  exact ⟨(c1.then hB).tran c3, b3, hrg3, h.rl.go_del hat hv, h.rc, h.rw_⟩
theorem G2.fin {r cnt : Nat} {left : Lit → Bool} {wr : World} {cl : Nat → Nat} (h : G2 cl c p sn la A cw ws ca mb n r w D left cnt wr) (hE : Ext w col cl) (hF : Fresh cl wr) (hl : ∀ z, left z = false) (hu : Up ca) :
    Cn c col w cl wr ∧ SesM cl c wr p sn la true A cw ws mb n D ∧ CR (ca.filter (newer sn)) D :=
  ⟨⟨hE, hF, chg_swap h.chg (fun k hk => (hE k hk).symm)⟩, h.ses, h.rl.done hl hu⟩
theorem begin_open (w : World) (h : SesAt col c w p S) (hf : Fresh col w) (hop : S.op = true) (t : Int) : Calls Try.prog 9 #[.pointer (some ⟨p, 0, none⟩), .int .u64 t] w fun e w' =>
    e = .returned (.tuple #[.int .u64 0, .int .i64 17]) ∧ Lv col c p S w w' := by
  have hfin := Lib.hid (lv_stay h hf (Below.refl _ _))
  obtain ⟨A, cw, mb, n, D, h, hr⟩ := h
  obtain ⟨k0, k1, k2, k3, k4⟩ := h.cells
  rw [hop] at k2
  clear h hr
  go_enter Try.func9, Try.ntmps9
  go_wp2
  go_ret2
  exact ⟨rfl, hfin.out⟩
set_option maxHeartbeats 4000000 in
theorem begin_shut (w : World) (h : SesAt col c w p S) (hc : c ≠ 0) (hf : Fresh col w) (hok : S.ok) (hop : S.op = false) (t : Int) : Calls Try.prog 9 #[.pointer (some ⟨p, 0, none⟩), .int .u64 t] w fun e w' =>
    e = .returned (.tuple #[.int .u64 (max S.snap t), .int .i64 0]) ∧ Lv col c p { S with op := true, snap := max S.snap t, ca := S.ca.filter (newer (max S.snap t)) } w w' := by
  obtain ⟨A, cw, mb, n, D, h, hcr, hn⟩ := h
  obtain ⟨k0, k1, k2, k3, k4⟩ := h.cells
  have f0 := h.fz 0
  have f2 := h.fz 2
  rw [hop] at k2
  obtain ⟨g1, h1⟩ := h.setOp hc true
  obtain ⟨g2, h2⟩ := h1.setSn hc (max S.snap t)
  have hg := g1.tran g2
  obtain ⟨w6, hw6⟩ : ∃ w6, (w.setCell ⟨p, 2, none⟩ (.bool true)).setCell ⟨p, 0, none⟩ (.int .u64 (max S.snap t)) = w6 := ⟨_, rfl⟩
  rw [hw6] at h2 hg
  replace hw6 := Lib.hid hw6
  obtain ⟨ws, hws⟩ : ∃ ws, S.ws = ws := ⟨_, rfl⟩
  rw [hws] at h2 k3
  have hend := Lib.hid (fun cl wr D2 (h1 : Cn c col w cl wr) (h2 : SesM cl c wr p (max S.snap t) S.last true A cw ws mb n D2) (h3 : CR (S.ca.filter (newer (max S.snap t))) D2) => (⟨cl, h1, A, cw, mb, n, D2, by rw [← hws] at h2; exact h2, h3, hn⟩ : Lv col c p { S with op := true, snap := max S.snap t, ca := S.ca.filter (newer (max S.snap t)) } w wr))
  generalize hsn : max S.snap t = sn at *
  replace hsn := Lib.hid hsn
  generalize S.last = la at *
  have hst := Lib.hid (fun w0 hrg hg' => G2.start (w0 := w0) hg (hf.up hg.size) h2 hcr hrg hg')
  have hmp := Lib.hid h2.mp
  have hFF := Lib.hid (fun w2 (hs2 : w6.heap.size + 1 ≤ w2.heap.size) => fresh_colQ (w := w6) (w2 := w2) (col := col) (a := w6.heap.size) (d := c + 1) (hf.up hg.size) (by omega) (by omega))
  have hEE := Lib.hid (show Ext w col (colQ col w6.heap.size (c + 1)) from ext_colQ hg.size)
  obtain ⟨cl, hcl⟩ : ∃ cl, colQ col w6.heap.size (c + 1) = cl := ⟨_, rfl⟩
  rw [hcl] at hst hFF hEE
  have hu := Lib.hid hok.uc
  obtain ⟨ca, hca⟩ : ∃ ca, S.ca = ca := ⟨_, rfl⟩
  rw [hca] at hst hend hu ⊢
  have hcells := Lib.hid h2.cells
  clear hcl g1 g2 h1 h2 hg h hcr hok hca hws
  go_enter Try.func9, Try.ntmps9
  go_upto_region 7 with (fail)
  rw [hsn.out, hw6.out]
  clear k0 k1 k2 k3 k4 f0 f2
  obtain ⟨k0, k1, k2, k3, k4⟩ := hcells.out
  go_wp2_with (at_range; refine wpList_range_own _ rfl _ TM rfl 9 41 lawS Try.underlying52 _ mb n D rfl hmp.out ?_; intro w0 hrg0 hg0 hs0)
  have hG0 := Lib.hid (hst.out _ hrg0 hg0)
  have hF0 := Lib.hid (hFF.out w0 (by omega))
  clear hrg0 hg0 hs0 hst hFF hmp k0 k1 k2 k3 k4 hcells hw6 hsn
  go_frame
  generalize w6.heap.size = r at *
  go_loopw [6, 7] (fun _ _ wr => ∃ (left : Lit → Bool) (cnt : Nat) (D' : DM), Hid (G2 cl c p sn la A cw ws ca mb n r w D' left cnt wr) ∧ Hid (Fresh cl wr)) (fun _ _ wr => wr.rangeLeft mb r)
  case atStart => exact ⟨_, _, _, hG0, hF0⟩
  case round =>
    obtain ⟨left, cnt, D', hG, hF⟩ := hrel
    go_wp2_with (at_next; refine wpList_next_ver _ rfl _ rfl 9 lawS Try.underlying9 mb r n _ _ _ rfl hG.out.rg ?_ ?_)
    · intro _ hl0
      have hfin := hG.out.fin hEE.out hF.out hl0 hu.out
      obtain ⟨k0, k1, k2, k3, k4⟩ := hfin.2.1.cells
      have hfi := Lib.hid (hend.out _ _ _ hfin.1 hfin.2.1 hfin.2.2)
      clear hend hG hF hG0 hF0 hl0 hfin
      go_wp2
      go_ret2
      exact ⟨rfl, hfi.out⟩
    · intro x v w1 cnt1 hxs hlx hat hrg1 hlt1 hg1 hs1 hen
      obtain ⟨b1, c1⟩ := hG.out.step hg1 hrg1
      have hmeas := Lib.hid (fun (w3 : World) cnt3 D3 left3 (h3 : w3.ranges Try.prog 9 vR mb r n D3 left3 cnt3) (hle : cnt3 ≤ cnt1) => (by rw [h3.left_eq, hG.out.rg.left_eq]; omega : w3.rangeLeft mb r < wr.rangeLeft mb r))
      obtain ⟨W2, hW2⟩ : ∃ W2, w1.alloc (.cells #[.string v.key, .string v.val, .bool v.gone, .int .u64 v.ts, .int .i64 v.dc, .int .i64 v.tx] 41) = W2 := ⟨_, rfl⟩
      have hB2 : Below w1.heap.size w1 W2 := by rw [← hW2]; exact al0 w1 _
      have hV2 : V6 w1.heap.size 0 v W2 := by rw [← hW2]; exact V6.new w1 v _
      have hF2 := Lib.hid (fun (w3 : World) (hs : W2.heap.size ≤ w3.heap.size) => hF.out.up (by have := hB2.size; omega : wr.heap.size ≤ w3.heap.size))
      have hall := Lib.hid (fun nn => And.intro (bdrN nn hB2) (Nat.le_refl (W2.drewN nn).heap.size))
      replace hW2 := Lib.hid hW2
      by_cases hx : v.ts ≤ sn
      · have hnw : newer sn v = false := by unfold newer; exact decide_eq_false (by omega)
        have hrg2 := Lib.hid (fun nn => (hrg1.kept (w' := W2.drewN nn) (row := none) ⟨(hall.out nn).1.os, (hall.out nn).1.tape, (hall.out nn).1.output, (hall.out nn).1.size, fun k hk _ => (hall.out nn).1.block k hk⟩ (by simp) (by simp)))
        have hgo := Lib.hid (fun nn w3 cnt3 hrg3 ht => hG.out.gone (w3 := w3) (cnt3 := cnt3) hg1 hrg1 hat hnw (hall.out nn).1 hc hrg3 ht)
        have hc2 := (b1.below hB2).cells
        obtain ⟨k0, k1, k2, k3, k4⟩ := hc2
        obtain ⟨d0, d1, d2, d3, d4, d5⟩ := hV2
        have hc3 := Lib.hid (fun nn => (b1.below (hall.out nn).1).cells)
        clear hG hF hG0 hF0 hend b1 c1 hat hrg1 hg1 hlt1 hs1 hnw
        go_upto_region 10 with (fail)
        rw [hW2.out]
        go_quiet (fail)
        have hrg3 := Lib.hid (hrg2.out nq)
        have hgo3 := Lib.hid (fun w3 cnt3 hrg3 ht => hgo.out nq w3 cnt3 hrg3 ht)
        have hsz3 : Hid (W2.heap.size = (W2.drewN nq).heap.size) := Lib.hid rfl
        clear k0 k1 k2 k3 k4 d0 d1 d2 d3 d4 d5 hrg2 hgo hall hB2
        obtain ⟨k0, k1, k2, k3, k4⟩ := hc3.out nq
        clear hc3
        generalize W2.drewN nq = W3 at *
        go_wp2_with (at_delete; refine wpList_delete_ranges _ rfl _ _ TM 9 rfl 41 lawS Try.underlying52 _ mb r n _ _ _ rfl hrg3.out _ _ rfl (hkey x hxs) ?_; intro w4 cnt4 hrg4 hle4 hturn; go_frame)
        rw [Maps.strike_twice] at hrg4
        have hG4 := Lib.hid (hgo3.out _ _ hrg4 hturn)
        have hF4 := Lib.hid (hF2.out w4 (by rw [hsz3.out]; exact hturn.grown.size))
        have hms := Lib.hid (hmeas.out _ _ _ _ hrg4 hle4)
        clear hrg4 hturn hgo3 hmeas
        go_roundw
        case rel => exact ⟨_, _, _, hG4, hF4⟩
        case measure => exact hms.out
      · have hnw : newer sn v = true := by unfold newer; exact decide_eq_true (by omega)
        have hgo := Lib.hid (fun nn => hG.out.stay hg1 hrg1 hat hnw (hall.out nn).1)
        have hc2 := (b1.below hB2).cells
        obtain ⟨k0, k1, k2, k3, k4⟩ := hc2
        obtain ⟨d0, d1, d2, d3, d4, d5⟩ := hV2
        clear hG hF hG0 hF0 hend b1 c1 hat hrg1 hg1 hlt1 hs1 hnw
        go_upto_region 10 with (fail)
        rw [hW2.out]
        go_quiet (fail)
        have hG4 := hgo.out nq
        have hF4 := Lib.hid (hF2.out (W2.drewN nq) (Nat.le_refl _))
        have hms := Lib.hid (hmeas.out _ _ _ _ hG4.rg (Nat.le_refl _))
        replace hG4 := Lib.hid hG4
        clear k0 k1 k2 k3 k4 d0 d1 d2 d3 d4 d5 hgo hall hB2 hmeas
        generalize W2.drewN nq = W3 at *
        go_wp2
        go_roundw
        case rel => exact ⟨_, _, _, hG4, hF4⟩
        case measure => exact hms.out
theorem begin_at (w : World) (h : SesAt col c w p S) (hc : c ≠ 0) (hf : Fresh col w) (hok : S.ok) (t : Int) : Calls Try.prog 9 #[.pointer (some ⟨p, 0, none⟩), .int .u64 t] w fun e w' =>
    e = .returned (.tuple #[.int .u64 (beT S t), .int .i64 (beE S)]) ∧ Lv col c p (beS S t) w w' := by
  cases hop : S.op with
  | true =>
    have e1 : beT S t = 0 := by unfold beT; rw [hop]; rfl
    have e2 : beE S = 17 := by unfold beE; rw [hop]; rfl
    have e3 : beS S t = S := by unfold beS; rw [hop]; rfl
    rw [e1, e2, e3]
    exact begin_open w h hf hop t
  | false =>
    have e1 : beT S t = max S.snap t := by unfold beT; rw [hop]; rfl
    have e2 : beE S = 0 := by unfold beE; rw [hop]; rfl
    have e3 : beS S t = { S with op := true, snap := max S.snap t, ca := S.ca.filter (newer (max S.snap t)) } := by unfold beS; rw [hop]; rfl
    rw [e1, e2, e3]
    exact begin_shut w h hc hf hok hop t
end
end Go.Proofs.Ytnicomhodnfggaa.seG
