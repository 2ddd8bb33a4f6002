/- The contract of the program's writer of version 2. -/
import Derived.Test.YtkbhmeajgmecoaaWirJ
namespace Go.Proofs.Ytkbhmeajgmecoaa.wirK
open Go.ChangeShapes Go.WideShapes Go.ChangeAt Go.RowKit
open numM numN rowA byt numA numB numC numD numE wirM wirA wirB wirD wirE wirF wirG wirL wirH wirI wirJ

theorem index8 (v0 v1 v2 v3 v4 v5 v6 v7 : Value) (k : Nat) (h : k < 8) (w : World) :
    (Instr.index 78 (.agg #[v0, v1, v2, v3, v4, v5, v6, v7]) (.int .i64 k)).run Try.prog w = .ok ([v0, v1, v2, v3, v4, v5, v6, v7].getD k undef) w := by
  obtain rfl | rfl | rfl | rfl | rfl | rfl | rfl | rfl : k = 0 ∨ k = 1 ∨ k = 2 ∨ k = 3 ∨ k = 4 ∨ k = 5 ∨ k = 6 ∨ k = 7 := by omega
  all_goals kernel_rfl
theorem orb (x k : Nat) (h : x < 2 ^ k) (hk : k < 8) : bits .or .u8 (x : Int) (2 ^ k % 256) = ((x + 2 ^ k : Nat) : Int) := by
  have hp : (2 : Nat) ^ k < 256 := Nat.pow_lt_pow_right (by decide) hk
  have e : (2 : Int) ^ k % 256 = ((2 ^ k : Nat) : Int) := by
    have e1 : ((2 ^ k : Nat) : Int) = (2 : Int) ^ k := by rw [Int.natCast_pow]; rfl
    rw [← e1]; omega
  rw [e, u8_or_nat x (2 ^ k) (by omega) hp, Nat.or_comm]
  have := Nat.two_pow_add_eq_or_of_lt h 1
  rw [Nat.mul_one] at this
  rw [← this, Nat.add_comm]
theorem list8 {vs : List Value} (h : vs.length = 8) : ∃ v0 v1 v2 v3 v4 v5 v6 v7, vs = [v0, v1, v2, v3, v4, v5, v6, v7] := by
  match vs, h with
  | [v0, v1, v2, v3, v4, v5, v6, v7], _ => exact ⟨v0, v1, v2, v3, v4, v5, v6, v7, rfl⟩
/-- the head of a body by version 2, laid -/
abbrev hd (m : Ms) : Obj := .cells #[.int .u8 m.kind, .int .u8 (bitsOf m)] 5
theorem bits_lt (m : Ms) : bitsOf m < 256 := by have := bk_lt m 8; rw [bk_8] at this; simpa using this
theorem hd_pb (m : Ms) (w : World) (h0 : 0 ≤ m.kind) (h1 : m.kind < 256) : PB none (w.alloc (hd m)) (.slice (some ⟨w.heap.size, 0, none⟩) 2 2) [m.kind.toNat, bitsOf m] := by
  have hb := bits_lt m
  have e : hd m = .cells (ub [m.kind.toNat, bitsOf m]).toArray 5 := by
    unfold hd ub; simp [Int.toNat_of_nonneg h0]
  have ho := Own.made w w.heap.size (Nat.le_refl _) [m.kind.toNat, bitsOf m] (by intro c hc; simp at hc; omega) (by simp) _ rfl
  rw [← e] at ho
  exact PB.of_own ho (by intro k e; cases e)
/-- the cell of the kind, and all that was there -/
abbrev SK (wc : World) (b : Nat) (m : Ms) (w : World) : Prop := w.cell? ⟨b, 0, none⟩ = some (.int .i64 m.kind) ∧ Below wc.heap.size wc w
theorem SK.of {wc w : World} {b : Nat} {m : Ms} (hc : wc.cell? ⟨b, 0, none⟩ = some (.int .i64 m.kind)) (hl : b < wc.heap.size) (h : Below wc.heap.size wc w) : SK wc b m w := ⟨by rw [(bcell h).1 _ _ hl]; exact hc, h⟩
theorem SK.call {wc w w1 : World} {b : Nat} {m : Ms} (hc : Hid (wc.cell? ⟨b, 0, none⟩ = some (.int .i64 m.kind))) (hl : Hid (b < wc.heap.size)) (h : SK wc b m w) (hB : Below w.heap.size w w1) : SK wc b m w1 := SK.of hc.out hl.out (h.2.trans (hB.mono h.2.size))
theorem SK.alloc {wc w : World} {b : Nat} {m : Ms} (hc : Hid (wc.cell? ⟨b, 0, none⟩ = some (.int .i64 m.kind))) (hl : Hid (b < wc.heap.size)) (h : SK wc b m w) (o : Obj) : SK wc b m (w.alloc o) := SK.call hc hl h (alloc_below w o)
/-- the parts' bytes -/
def ptf (m : Ms) : List Nat := (pts m).flatten
theorem parts_any {wc w : World} {b b0 : Nat} {m : Ms} {v0 v1 v2 v3 v4 v5 v6 v7 : Value} (hpl : Hid ((pts m).flatten.length ≤ 1099511627770)) (ha : Hid (Arr wc b (pts m) [v0, v1, v2, v3, v4, v5, v6, v7])) (h : SK wc b0 m w) :
    Calls Try.prog 48 #[.slice (some ⟨b, 0, none⟩) 8 8] w (Makes w (ptf m)) :=
  joined_any none _ 8 8 (pts m) w (Arr.lst (Arr.below' ha.out h.2) (by simp)) (by have := hpl.out; omega)
theorem mk_from {wc w : World} {b F : Nat} {m : Ms} {l : List Nat} {args : Array Value} (h : SK wc b m w) (hc : Calls Try.prog F args w (Makes w l)) : Calls Try.prog F args w (Makes wc l) := by
  refine hc.mono ?_
  rintro e w' ⟨A, cap, rfl, ho, hB⟩
  exact ⟨A, cap, rfl, Own.more (base' := wc.heap.size) ho h.2.size, h.2.trans (hB.mono h.2.size)⟩
theorem newer_eq (m : Ms) : [[m.kind.toNat, bitsOf m], (pts m).flatten].flatten = newer m := by unfold newer; simp
theorem newer_le (m : Ms) (hpl : (pts m).flatten.length ≤ 1099511627770) : (newer m).length ≤ 1099511627776 := by unfold newer; rw [List.length_append]; simp only [List.length_cons, List.length_nil]; omega
theorem j2 {w1 : World} {m : Ms} {u v : Value} (hpl : Hid ((pts m).flatten.length ≤ 1099511627770)) (hu : PB none w1 u [m.kind.toNat, bitsOf m]) (hv : PB none w1 v (ptf m)) :
    Calls Try.prog 48 #[.slice (some ⟨w1.heap.size, 0, none⟩) 2 2] (w1.alloc (.cells #[u, v] 31)) (Makes (w1.alloc (.cells #[u, v] 31)) (newer m)) := by
  have hl : PBs none w1 [u, v] [[m.kind.toNat, bitsOf m], (pts m).flatten] := ⟨hu, hv, trivial⟩
  have hj := joined_any none (some ⟨w1.heap.size, 0, none⟩) 2 2 _ _ (Lst.lit hl (by intro k e; cases e) (by simp) 31 2 rfl) (by rw [newer_eq]; exact newer_le m hpl.out)
  rw [newer_eq] at hj
  exact hj
theorem j2A {wX w1 : World} {B n c : Nat} {A : Option Addr} {m : Ms} (h0 : 0 ≤ m.kind) (h1 : m.kind < 256) (hpl : Hid ((pts m).flatten.length ≤ 1099511627770)) (hB : Below (wX.alloc (hd m)).heap.size (wX.alloc (hd m)) w1) (ho : Own w1 B (.slice A n c) n (ptf m)) :
    Calls Try.prog 48 #[.slice (some ⟨w1.heap.size, 0, none⟩) 2 2] (w1.alloc (.cells #[.slice (some ⟨wX.heap.size, 0, none⟩) 2 2, .slice A n c] 31)) (Makes (w1.alloc (.cells #[.slice (some ⟨wX.heap.size, 0, none⟩) 2 2, .slice A n c] 31)) (newer m)) :=
  j2 hpl ((hd_pb m wX h0 h1).below hB) (PB.of_own ho (by intro k e; cases e))
theorem j2A' {wX w1 : World} {B n c : Nat} {A : Option Addr} {m : Ms} (h0 : 0 ≤ m.kind) (h1 : m.kind < 256) (hpl : Hid ((pts m).flatten.length ≤ 1099511627770)) (hB : Below (wX.alloc (hd m)).drew.heap.size (wX.alloc (hd m)).drew w1) (ho : Own w1 B (.slice A n c) n (ptf m)) :
    Calls Try.prog 48 #[.slice (some ⟨w1.heap.size, 0, none⟩) 2 2] (w1.alloc (.cells #[.slice (some ⟨wX.heap.size, 0, none⟩) 2 2, .slice A n c] 31)) (Makes (w1.alloc (.cells #[.slice (some ⟨wX.heap.size, 0, none⟩) 2 2, .slice A n c] 31)) (newer m)) :=
  j2 hpl (PB.below (w := (wX.alloc (hd m)).drew) (hd_pb m wX h0 h1) hB) (PB.of_own ho (by intro k e; cases e))
theorem j2B {w1 : World} {B n c : Nat} {A : Option Addr} {m : Ms} (h0 : 0 ≤ m.kind) (h1 : m.kind < 256) (hpl : Hid ((pts m).flatten.length ≤ 1099511627770)) (ho : Own w1 B (.slice A n c) n (ptf m)) :
    Calls Try.prog 48 #[.slice (some ⟨w1.heap.size + 1, 0, none⟩) 2 2] ((w1.alloc (hd m)).alloc (.cells #[.slice (some ⟨w1.heap.size, 0, none⟩) 2 2, .slice A n c] 31))
      (Makes ((w1.alloc (hd m)).alloc (.cells #[.slice (some ⟨w1.heap.size, 0, none⟩) 2 2, .slice A n c] 31)) (newer m)) := by
  have := j2 (w1 := w1.alloc (hd m)) hpl (hd_pb m w1 h0 h1) ((PB.of_own (x := none) ho (by intro k e; cases e)).alloc (hd m))
  rw [show (w1.alloc (hd m)).heap.size = w1.heap.size + 1 by simp] at this
  exact this

set_option maxRecDepth 100000 in
set_option maxHeartbeats 4000000 in
theorem wnewer_any (m : Ms) (t : At) (w : World) (h : HM w m t) (hok : m.ok) : Calls Try.prog 30 #[.agg (cm m t)] w (Makes w (newer m)) := by
  have hpl := Lib.hid (pts_le m hok h.fits)
  obtain ⟨va, vc, na, nc⟩ := t
  have hvl : Hid (VL w va m.vers.length m.vers) := h.vers
  have hnl : Hid (NL w na m.vec.length m.vec) := h.vec
  obtain ⟨-, f1, f2, f3, -, -, fv, fn, fc⟩ := h.fits
  obtain ⟨o0, o1, o2, o3, o4, o5, o6, o7⟩ := hok
  have k0 : m.kind < 256 := by omega
  have k00 : 0 ≤ m.kind := by omega
  have k1 : m.lo.size ≤ 64 := by omega
  have k2 : m.hi.size ≤ 64 := by omega
  have hvo := Lib.hid o5
  have hco := Lib.hid o7
  clear h o2 o3 o5 o7 fv fn fc
  have hS := Lib.hid (SM.new w m ⟨va, vc, na, nc⟩)
  have hW := Lib.hid (alloc_below w (.cells (cm m ⟨va, vc, na, nc⟩) 28))
  have hbx := Lib.hid (Box.new w (cm m ⟨va, vc, na, nc⟩) 28)
  go_enter Try.func30, Try.ntmps30
  go_upto_region 1 with fail
  generalize w.alloc (.cells (cm m ⟨va, vc, na, nc⟩) 28) = W at *
  have ha : Acc W W.drew [] [] := Acc.start (Below.refl _ _).drew
  have ha2 : Acc W (W.alloc (.cells zs 78)).drew [] [] := Acc.start ((Below.refl _ _).alloc (Nat.le_refl _) _).drew
  have hv1 := hvl.out.below hW.out
  have hn1 := hnl.out.below hW.out
  go_cut [3] (fun v wx => Hid (Lft W m v wx))
  case first =>
    go_region_held3 (SW W w.heap.size m ⟨va, vc, na, nc⟩)
      (first | with_reducible exact SW.acc hbx (by assumption) | with_reducible assumption | with_reducible exact SW.alloc hbx (by assumption) _ | with_reducible exact SW.sets2 hbx (by assumption) (by assumption) _ _ _ _ _ _ _ _ | (go_must (exact (0 : Nat))))
      (first
        | (go_at_call 49; ((with_reducible refine (accb_of (sun_any _ _ (by assumption)) (by first | assumption | exact Acc.alloc (by assumption) _)).mono ?_); rintro e w' ⟨A, cap, rfl, hacc, hB, ho⟩; first | (have hz := AZ.next (by assumption) hB ho) | (have hz := AZ.first (by assumption) hB ho) | (have hz := AZ.first2 hB ho) | skip))
        | (go_at_call 50; ((with_reducible refine (accb_of (tue_any _ _ (by assumption)) (by first | assumption | exact Acc.alloc (by assumption) _)).mono ?_); rintro e w' ⟨A, cap, rfl, hacc, hB, ho⟩; first | (have hz := AZ.next (by assumption) hB ho) | (have hz := AZ.first (by assumption) hB ho) | (have hz := AZ.first2 hB ho) | skip))
        | (go_at_call 51; ((with_reducible refine (accb_of (nvers_any _ _ _ m.vers _ (VL.of_acc hv1 (by first | assumption | exact Acc.alloc (by assumption) _)) o4 hvo.out) (by first | assumption | exact Acc.alloc (by assumption) _)).mono ?_); rintro e w' ⟨A, cap, rfl, hacc, hB, ho⟩; first | (have hz := AZ.next (by assumption) hB ho) | (have hz := AZ.first (by assumption) hB ho) | (have hz := AZ.first2 hB ho) | skip))
        | (go_at_call 52; ((with_reducible refine (accb_of (nvec_any _ _ _ m.vec _ (NL.of_acc hn1 (by first | assumption | exact Acc.alloc (by assumption) _)) o6) (by first | assumption | exact Acc.alloc (by assumption) _)).mono ?_); rintro e w' ⟨A, cap, rfl, hacc, hB, ho⟩; first | (have hz := AZ.next (by assumption) hB ho) | (have hz := AZ.first (by assumption) hB ho) | (have hz := AZ.first2 hB ho) | skip))
        | (go_at_call 53; ((with_reducible refine (accb_of (ncmd_any m.cmd _ hco.out) (by first | assumption | exact Acc.alloc (by assumption) _)).mono ?_); rintro e w' ⟨A, cap, rfl, hacc, hB, ho⟩; first | (have hz := AZ.next (by assumption) hB ho; obtain ⟨z0, z1, z2, z3, z4, z5, z6, z7, zf⟩ := BZ.cells hz.1) | (have hz := AZ.first (by assumption) hB ho; obtain ⟨z0, z1, z2, z3, z4, z5, z6, z7, zf⟩ := BZ.cells hz.1) | (have hz := AZ.first2 hB ho; obtain ⟨z0, z1, z2, z3, z4, z5, z6, z7, zf⟩ := BZ.cells hz.1) | skip)))
    all_goals
      go_wp2
      go_meet
      simp only [List.nil_append, List.cons_append] at hacc
      first
        | (simp only [List.nil_append, List.cons_append] at hz
           exact Lft.sets (m := m) hz hacc.1)
        | exact Lft.lit (m := m) hacc _ rfl
  case rest =>
    obtain ⟨b, vs, rfl, hn8, harr, hB⟩ := hcut.out
    obtain ⟨v0, v1, v2, v3, v4, v5, v6, v7, rfl⟩ := list8 hn8
    have c0 : wc.cell? ⟨b, 0, none⟩ = some v0 := harr.1.at 0
    have c1 : wc.cell? ⟨b, 1, none⟩ = some v1 := harr.1.at 1
    have c2 : wc.cell? ⟨b, 2, none⟩ = some v2 := harr.1.at 2
    have c3 : wc.cell? ⟨b, 3, none⟩ = some v3 := harr.1.at 3
    have c4 : wc.cell? ⟨b, 4, none⟩ = some v4 := harr.1.at 4
    have c5 : wc.cell? ⟨b, 5, none⟩ = some v5 := harr.1.at 5
    have c6 : wc.cell? ⟨b, 6, none⟩ = some v6 := harr.1.at 6
    have c7 : wc.cell? ⟨b, 7, none⟩ = some v7 := harr.1.at 7
    have hB' := Lib.hid hB
    have harr' := Lib.hid harr
    clear hB harr hn8 hcut hS hvo hco hvl hnl hv1 hn1 ha ha2
    go_wp2
    clear c0 c1 c2 c3 c4 c5 c6 c7
    go_loop [4, 33] (fun h i => ∃ k : Nat, k ≤ 8 ∧ i = .int .i64 k ∧ h = .int .u8 (bk m k)) (fun _ i => 8 - (intOf i).toNat)
    case atStart => exact ⟨0, by omega, rfl, rfl⟩
    case round =>
      obtain ⟨k, hk, rfl, rfl⟩ := hrel
      by_cases hlt : k < 8
      · have hidx := index8 v0 v1 v2 v3 v4 v5 v6 v7 k hlt wc
        obtain ⟨v, hv, A, n, c, rfl, hb, -⟩ := harr'.out.2.get (i := k) hlt
        have hv2 : [v0, v1, v2, v3, v4, v5, v6, v7].getD k undef = .slice A n c := by rw [List.getD_eq_getElem?_getD, hv]; rfl
        rw [hv2] at hidx
        have hbk : bk m (k + 1) = bk m k + bt (lth (pts m) k) (2 ^ k) := rfl
        have hbl := bk_lt m k
        rw [show bt (lth (pts m) k) (2 ^ k) = if n = 0 then 0 else 2 ^ k by unfold bt; rw [hb.1]] at hbk
        generalize hy : bk m (k + 1) = y at *
        generalize bk m k = x at *
        replace hbk := Lib.hid hbk
        replace hy := Lib.hid hy
        replace hbl := Lib.hid hbl
        clear hv hv2 hb
        by_cases hn : n = 0
        · subst hn
          go_wp2
          go_round
          case rel => exact ⟨k + 1, by omega, by go_num, by rw [hy.out, hbk.out]; rfl⟩
          case measure => simp [intOf]; omega
        · rw [if_neg hn] at hbk
          go_wp2
          go_round
          case rel => exact ⟨k + 1, by omega, by go_num, by rw [hy.out, hbk.out]; exact congrArg (Value.int .u8) (orb x k hbl.out hlt)⟩
          case measure => simp [intOf]; omega
      · obtain rfl : k = 8 := by omega
        rw [bk_8]
        have hbc := hbx.out.below hB'.out
        have d0 := Lib.hid (show wc.cell? ⟨w.heap.size, 0, none⟩ = some (.int .i64 m.kind) from hbc.at 0)
        have dl := Lib.hid (show w.heap.size < wc.heap.size from hbc.lt)
        have hWc := Lib.hid (show Below w.heap.size w wc from hW.out.trans (hB'.out.mono hW.out.size))
        have hku : IntKind.u8.wrap m.kind = m.kind := by rw [IntKind.wrap_u8]; omega
        have hku2 : m.kind % 256 = m.kind := by omega
        clear hbc hbx hW hB'
        go_wp2
        go_region_held3 (SK wc w.heap.size m)
          (first | with_reducible exact SK.of d0.out dl.out (Below.refl _ _).drew | with_reducible assumption | with_reducible exact SK.of d0.out dl.out (by assumption) | with_reducible exact SK.call d0 dl (by assumption) (by assumption) | with_reducible exact SK.alloc d0 dl (by assumption) _ | with_reducible exact SK.of d0.out dl.out ((Below.refl _ _).alloc (Nat.le_refl _) _).drew | (go_must (exact (0 : Nat))))
          (first
            | (go_at_call 48; ((with_reducible refine (parts_any hpl harr' (by assumption)).mono ?_); rintro e w' ⟨A, cap, rfl, ho, hB⟩))
            | (go_at_call 48; ((with_reducible refine (mk_from (wc := wc) (b := w.heap.size) (m := m) (by assumption) (j2A k00 k0 hpl (by assumption) (by assumption))).mono ?_); rintro e w' ⟨A, cap, rfl, ho2, hB⟩))
            | (go_at_call 48; ((with_reducible refine (mk_from (wc := wc) (b := w.heap.size) (m := m) (by assumption) (j2A' k00 k0 hpl (by assumption) (by assumption))).mono ?_); rintro e w' ⟨A, cap, rfl, ho2, hB⟩))
            | (go_at_call 48; ((with_reducible refine (mk_from (wc := wc) (b := w.heap.size) (m := m) (by assumption) (j2B k00 k0 hpl (by assumption))).mono ?_); rintro e w' ⟨A, cap, rfl, ho2, hB⟩))
            | fail)
        all_goals
          go_wp2
          go_ret
          exact Makes.of rfl (Own.more (base' := w.heap.size) ho2 hWc.out.size) (trans0 hWc.out hB)
end Go.Proofs.Ytkbhmeajgmecoaa.wirK
