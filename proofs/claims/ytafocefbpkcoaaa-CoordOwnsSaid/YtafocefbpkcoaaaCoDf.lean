/- The document's Find, look, Decided. -/
import Derived.Test.YtafocefbpkcoaaaCoD
import Derived.Deep.RegionLaw
import Derived.Deep.DeepCutAuto
import Derived.Deep.CutBlock
import Derived.Deep.CutRange
set_option linter.unusedVariables false
set_option linter.unusedSimpArgs false
set_option maxRecDepth 100000
namespace Go.Proofs.Ytafocefbpkcoaaa.coDf
open Go.ChangeShapes Go.WideShapes Go.ChangeAt Go.RowKit Go.Deep
open opG opV chnM gen chnA chnR chnE ordA ordC coG coO coM coP coL coK coN coD

section
variable {col : Nat → Nat} {c q cA : Nat} {A : Option Addr} {l : List DE} {os : Ens}
set_option maxHeartbeats 1000000 in
theorem dfind_at (w : World) (h : DocM col c w q A cA l) (hn : l.length ≤ 1000) (tx : Int) : Calls Try.prog 31 #[.pointer (some ⟨q, 0, none⟩), .int .u64 tx] w fun e w' => e = .returned (.int .i64 (dfI (l.map DE.e) tx)) ∧ w = w' := by
  have k0 := h.cell.1
  have hat := Lib.hid (fun i x (hx : l[i]? = some x) => h.at_ hx)
  have hcap := h.ro.cap
  obtain ⟨I, hI⟩ : ∃ I, dfI (l.map DE.e) tx = I := ⟨_, rfl⟩
  rw [hI]
  replace hI := Lib.hid hI
  clear h
  go_enter Try.func31, Try.ntmps31
  go_wp2
  go_loopw [5] (fun i wr => ∃ j : Nat, j ≤ l.length ∧ i = .int .i64 j ∧ wr = w ∧ Hid (∀ i y, i < j → (l.map DE.e)[i]? = some y → y.tx ≠ tx)) (fun i _ => l.length - (intOf i).toNat)
  case atStart => exact ⟨0, by omega, rfl, rfl, Lib.hid (fun i y hi => by omega)⟩
  case round =>
    obtain ⟨j, hj, rfl, rfl, hX⟩ := hrel
    by_cases hlt : j < l.length
    · have hjI : (j : Int) < (l.length : Int) := by omega
      obtain ⟨x, hx⟩ : ∃ x, l[j]? = some x := ⟨_, List.getElem?_eq_getElem hlt⟩
      obtain ⟨g, rfl, c0, -⟩ := hat.out j x hx
      have hxe : (l.map DE.e)[j]? = some x.e := by rw [List.getElem?_map, hx]; rfl
      by_cases e : x.tx = tx
      · have hc : (x.tx == tx) = true := by simpa using e
        obtain ⟨h1, h2⟩ := fnE_first hX.out hxe e
        obtain rfl : I = (j : Int) := by rw [← hI.out]; unfold dfI; rw [h1, h2]
        clear hat hX h1 h2 hI hxe e
        go_wp2
        go_ret
        exact ⟨rfl, rfl⟩
      · have hc : (x.tx == tx) = false := by simpa using e
        have hnx : Hid (∀ i y, i < j + 1 → (l.map DE.e)[i]? = some y → y.tx ≠ tx) := Lib.hid (fun i y hi hy => by
          rcases (by omega : i < j ∨ i = j) with h1 | rfl
          · exact hX.out i y h1 hy
          · rw [hxe] at hy; cases hy; exact e)
        clear hat hX hxe e
        go_wp2
        go_roundw
        case rel => exact ⟨j + 1, by omega, by go_num, trivial, hnx⟩
        case measure => simp [intOf]; omega
    · obtain rfl : j = l.length := by omega
      have hjI : ¬ (l.length : Int) < (l.length : Int) := by omega
      obtain rfl : I = -1 := by rw [← hI.out]; unfold dfI; rw [fnE_last (by rw [List.length_map]; exact hX.out)]
      clear hat hX hI
      go_wp2
      go_ret
      exact ⟨rfl, rfl⟩
theorem top_up {vt : List Vt} {j : Nat} {v : Vt} (h : vt[j]? = some v) : top (vt.take (j + 1)) = max (top (vt.take j)) v.t := by
  have hj := (List.getElem?_eq_some_iff.1 h).1
  rw [List.take_succ_eq_append_getElem hj, (List.getElem?_eq_some_iff.1 h).2, top_app]
set_option maxHeartbeats 1000000 in
theorem decided_any (w : World) (x : DE) (h : coG.Own shW w 0 x.A2 x.c2 x.vt) (hn : x.vt.length ≤ 1000) : Calls Try.prog 35 #[.agg #[.int .u64 x.tx, .int .u64 x.low, .slice x.A1 x.rs.length x.c1, .slice x.A2 x.vt.length x.c2]] w fun e w' => e = .returned (.tuple #[.int .u64 (top x.vt), .bool (decide (x.vt.length = x.rs.length))]) ∧ Below w.heap.size w w' := by
  obtain ⟨W, hW⟩ : ∃ W, w.alloc (.cells #[.int .u64 x.tx, .int .u64 x.low, .slice x.A1 x.rs.length x.c1, .slice x.A2 x.vt.length x.c2] TE) = W := ⟨_, rfl⟩
  obtain ⟨B, hB⟩ : ∃ B, w.heap.size = B := ⟨_, rfl⟩
  have hBW : Below w.heap.size w W := by rw [← hW]; exact al0 _ _
  have hcs : W.cell? ⟨B, 2, none⟩ = some (.slice x.A1 x.rs.length x.c1) ∧ W.cell? ⟨B, 3, none⟩ = some (.slice x.A2 x.vt.length x.c2) := by
    rw [← hW, ← hB]
    have h := fun (j : Nat) (u : Value) (hu : (#[.int .u64 x.tx, .int .u64 x.low, .slice x.A1 x.rs.length x.c1, .slice x.A2 x.vt.length x.c2] : Array Value)[j]? = some u) => (cell_of_row _ _ j _ TE (0, 0) (heap_alloc_new w (.cells #[.int .u64 x.tx, .int .u64 x.low, .slice x.A1 x.rs.length x.c1, .slice x.A2 x.vt.length x.c2] TE))).trans hu
    exact ⟨h 2 _ rfl, h 3 _ rfl⟩
  obtain ⟨b2, b3⟩ := hcs
  have hOW := h.below hBW
  have hat := Lib.hid (fun i v (hv : x.vt[i]? = some v) => hOW.at_ hv)
  have hcap := h.cap
  have hup := Lib.hid (fun i v (hv : x.vt[i]? = some v) => top_up hv)
  have hdc : (((x.vt.length : Nat) : Int) == ((x.rs.length : Nat) : Int)) = decide (x.vt.length = x.rs.length) := by
    by_cases e : x.vt.length = x.rs.length
    · rw [e]; simp
    · rw [decide_eq_false e, beq_eq_false_iff_ne]; omega
  have hdr := Lib.hid (fun n => chnA.bdrN n hBW)
  have hTT : Hid (top (x.vt.take x.vt.length) = top x.vt) := Lib.hid (by rw [List.take_length])
  clear h hOW hBW
  replace hW := Lib.hid hW
  obtain ⟨tx, low, rs, A1, c1, vt, A2, c2⟩ := x
  simp only at b2 b3 hat hcap hup hdc hn hTT hW ⊢
  generalize rs.length = NR at *
  generalize decide (vt.length = NR) = DB at *
  generalize hT0 : top vt = T0 at *
  go_enter Try.func35, Try.ntmps35
  go_upto_region 1 with (fail)
  rw [hW.out]
  clear hW
  go_wp2
  go_loopw [5, 4] (fun i s wr => ∃ j : Nat, j ≤ vt.length ∧ i = .int .i64 j ∧ s = .int .u64 (top (vt.take j)) ∧ wr = W) (fun i _ _ => vt.length - (intOf i).toNat)
  case atStart => exact ⟨0, by omega, rfl, rfl, rfl⟩
  case round =>
    obtain ⟨j, hj, rfl, rfl, rfl⟩ := hrel
    by_cases hlt : j < vt.length
    · have hjI : (j : Int) < (vt.length : Int) := by omega
      obtain ⟨v, hv⟩ : ∃ v, vt[j]? = some v := ⟨_, List.getElem?_eq_getElem hlt⟩
      obtain ⟨g, rfl, -, -, hc, -⟩ := hat.out j v hv
      have c1' : wr.cell? ⟨g, j * 3 + 1, none⟩ = some (.int .u64 v.t) := hc 1 _ rfl
      have hnx := hup.out j v hv
      obtain ⟨T, hT⟩ : ∃ T, top (vt.take j) = T := ⟨_, rfl⟩
      rw [hT] at hnx ⊢
      by_cases hc2 : T < v.t
      · have hm : Hid (top (vt.take (j + 1)) = v.t) := Lib.hid (by rw [hnx]; omega)
        clear hat hup hnx hc hv hT hdr hTT hT0
        go_wp2
        go_roundw
        case rel => exact ⟨j + 1, by omega, by go_num, by rw [hm.out], trivial⟩
        case measure => simp [intOf]; omega
      · have hm : Hid (top (vt.take (j + 1)) = T) := Lib.hid (by rw [hnx]; omega)
        clear hat hup hnx hc hv hT hdr hTT hT0
        go_wp2
        go_roundw
        case rel => exact ⟨j + 1, by omega, by go_num, by rw [hm.out], trivial⟩
        case measure => simp [intOf]; omega
    · obtain rfl : j = vt.length := by omega
      have hjI : ¬ (vt.length : Int) < (vt.length : Int) := by omega
      rw [hTT.out]
      clear hat hup hTT hT0
      go_upto_region 7 with (fail)
      go_quiet (fail)
      have hfin := Lib.hid (hdr.out nq)
      clear hdr
      go_wp2
      go_ret2
      exact ⟨rfl, by rw [← hB]; exact hfin.out⟩
/-- is it among the first j? -/
def inJ (sh : List SR) (j : Nat) (n : Int) : Bool := (sh.take j).any fun s => decide (s.node = n)
theorem inJ_up {rs : List SR} {j : Nat} {r : SR} (h : rs[j]? = some r) (n : Int) : inJ rs (j + 1) n = (inJ rs j n || decide (r.node = n)) := by
  have hj := (List.getElem?_eq_some_iff.1 h).1
  unfold inJ
  rw [List.take_succ_eq_append_getElem hj, (List.getElem?_eq_some_iff.1 h).2, List.any_append]
  simp
theorem inJ_all (x : DE) (n : Int) : inJ x.rs x.rs.length n = inS x.e.sh n := by
  unfold inJ inS DE.e
  rw [List.take_length, List.any_map]; rfl
set_option maxHeartbeats 2000000 in
theorem dlook_none (w : World) (h : DocM col c w q A cA l) (hn : l.length ≤ 1000) {tx : Int} (n : Int) (hf : fnE (l.map DE.e) tx = none) : Calls Try.prog 34 #[.pointer (some ⟨q, 0, none⟩), .int .u64 tx, .int .i64 n] w fun e w' => e = .returned (.tuple #[.int .i64 0, .int .i64 0, .int .i64 7]) ∧ Below w.heap.size w w' := by
  have hfi := dfind_at w h hn tx
  have e : dfI (l.map DE.e) tx = -1 := by unfold dfI; rw [hf]
  rw [e] at hfi
  replace hfi := Lib.hid hfi
  have hB := Lib.hid (Below.refl w.heap.size w)
  clear h hf e
  go_enter Try.func34, Try.ntmps34
  go_wp2_with (fail)
  with_reducible refine hfi.out.mono ?_
  rintro e w' ⟨rfl, rfl⟩
  go_wp2
  refine bodyPost_ret (v := .tuple #[.int .i64 0, .int .i64 0, .int .i64 7]) ?_ rfl ⟨rfl, hB.out⟩
  simp [results, Try.results34, go_sem]
set_option maxHeartbeats 2000000 in
theorem dlook_some (w : World) (h : DocM col c w q A cA l) (hn : l.length ≤ 1000) {tx : Int} (n : Int) {P : Nat} {x : DE} (hx : l[P]? = some x) (hf : dfI (l.map DE.e) tx = (P : Int)) (h6 : x.rs.length ≤ 6) (h7 : x.vt.length ≤ 6) : Calls Try.prog 34 #[.pointer (some ⟨q, 0, none⟩), .int .u64 tx, .int .i64 n] w fun e w' =>
    e = .returned (if inS x.e.sh n = true then .tuple #[.int .i64 (P : Int), .int .i64 (dvI x.vt n), .int .i64 0] else .tuple #[.int .i64 0, .int .i64 0, .int .i64 18]) ∧ Below w.heap.size w w' := by
  have hfi := dfind_at w h hn tx
  rw [hf] at hfi
  replace hfi := Lib.hid hfi
  have hPl := (List.getElem?_eq_some_iff.1 hx).1
  have hPI : (P : Int) < (l.length : Int) := by omega
  have hcap := h.ro.cap
  have k0 := h.cell.1
  obtain ⟨g, rfl, c0, c1, c2, c3, -⟩ := h.at_ hx
  have hm := h.xs x (List.mem_of_getElem? hx)
  have hsh := Lib.hid (fun k r (hr : x.rs[k]? = some r) => hm.share hr)
  have hvo := Lib.hid (fun k v (hv : x.vt[k]? = some v) => hm.vote hv)
  have hc1 := hm.sh.le
  have hc1t := hm.sh.top
  have hc2 := hm.vt.cap
  have hst := Lib.hid (Below.refl w.heap.size w)
  have hup := Lib.hid (fun j r (hr : x.rs[j]? = some r) => inJ_up hr n)
  have hall : Hid (inJ x.rs x.rs.length n = inS x.e.sh n) := Lib.hid (inJ_all x n)
  obtain ⟨Q, hQ⟩ : ∃ Q, (if inS x.e.sh n = true then (.tuple #[.int .i64 (P : Int), .int .i64 (dvI x.vt n), .int .i64 0] : Value) else .tuple #[.int .i64 0, .int .i64 0, .int .i64 18]) = Q := ⟨_, rfl⟩
  rw [hQ]
  replace hQ := Lib.hid hQ
  clear h hf hx hm
  obtain ⟨xt, xl, rs, A1, c1', vt, A2, c2'⟩ := x
  simp only at c0 c1 c2 c3 hsh hvo hc1 hc2 hup hall hQ h6 h7
  generalize inS (DE.e ⟨xt, xl, rs, A1, c1', vt, A2, c2'⟩).sh n = IN at *
  go_enter Try.func34, Try.ntmps34
  go_wp2_with (fail)
  with_reducible refine hfi.out.mono ?_
  rintro e w' ⟨rfl, rfl⟩
  clear hfi
  go_wp2
  go_loopw [11, 10] (fun i s wr => ∃ j : Nat, j ≤ rs.length ∧ i = .int .i64 j ∧ s = .bool (inJ rs j n) ∧ wr = w) (fun i _ _ => rs.length - (intOf i).toNat)
  case atStart => exact ⟨0, by omega, rfl, rfl, rfl⟩
  case round =>
    obtain ⟨j, hj, rfl, rfl, rfl⟩ := hrel
    by_cases hlt : j < rs.length
    · have hjI : (j : Int) < (rs.length : Int) := by omega
      obtain ⟨r, hr⟩ : ∃ r, rs[j]? = some r := ⟨_, List.getElem?_eq_getElem hlt⟩
      obtain ⟨b, off, rfl, s0, -⟩ := hsh.out j r hr
      have hnx := hup.out j r hr
      generalize inJ rs j n = T at *
      by_cases e : r.node = n
      · have hc : (r.node == n) = true := by simpa using e
        rw [decide_eq_true e, Bool.or_true] at hnx
        replace hnx := Lib.hid hnx
        clear hsh hvo hup hall hr e
        cases T
        all_goals
          go_wp2
          go_roundw
          case rel => exact ⟨j + 1, by omega, by go_num, by rw [hnx.out], trivial⟩
          case measure => simp [intOf]; omega
      · have hc : (r.node == n) = false := by simpa using e
        rw [decide_eq_false e, Bool.or_false] at hnx
        replace hnx := Lib.hid hnx
        clear hsh hvo hup hall hr e
        cases T
        all_goals
          go_wp2
          go_roundw
          case rel => exact ⟨j + 1, by omega, by go_num, by rw [hnx.out], trivial⟩
          case measure => simp [intOf]; omega
    · obtain rfl : j = rs.length := by omega
      have hjI : ¬ (rs.length : Int) < (rs.length : Int) := by omega
      rw [hall.out]
      clear hsh hup hall
      cases IN with
      | false =>
        obtain rfl : Q = .tuple #[.int .i64 0, .int .i64 0, .int .i64 18] := hQ.out.symm
        clear hvo hQ
        go_wp2
        refine bodyPost_ret (v := .tuple #[.int .i64 0, .int .i64 0, .int .i64 18]) ?_ rfl ⟨rfl, hst.out⟩
        simp [results, Try.results34, go_sem]
      | true =>
        obtain ⟨I, hI⟩ : ∃ I, dvI vt n = I := ⟨_, rfl⟩
        rw [hI] at hQ
        obtain rfl : Q = .tuple #[.int .i64 (P : Int), .int .i64 I, .int .i64 0] := hQ.out.symm
        replace hI := Lib.hid hI
        clear hQ
        go_wp2
        go_loopw [12] (fun i wx => ∃ j : Nat, j ≤ vt.length ∧ i = .int .i64 j ∧ wx = wr ∧ Hid (∀ i y, i < j → vt[i]? = some y → y.node ≠ n)) (fun i _ => vt.length - (intOf i).toNat)
        case atStart => exact ⟨0, by omega, rfl, rfl, Lib.hid (fun i y hi => by omega)⟩
        case round =>
          obtain ⟨k, hk, rfl, rfl, hY⟩ := hrel
          by_cases hlk : k < vt.length
          · have hkI : (k : Int) < (vt.length : Int) := by omega
            obtain ⟨v, hv⟩ : ∃ v, vt[k]? = some v := ⟨_, List.getElem?_eq_getElem hlk⟩
            obtain ⟨gv, rfl, v0, -⟩ := hvo.out k v hv
            by_cases e : v.node = n
            · have hc : (v.node == n) = true := by simpa using e
              obtain ⟨h1, h2⟩ := posV_first hY.out hv e
              obtain rfl : I = (k : Int) := by
                rw [← hI.out]
                unfold dvI
                rw [if_pos (show hasV vt n = true by unfold hasV; rw [h1]; rfl), h2]
              clear hvo hY h1 h2 hI hv e
              go_wp2
              refine bodyPost_ret (v := .tuple #[.int .i64 (P : Int), .int .i64 (k : Int), .int .i64 0]) ?_ rfl ⟨rfl, hst.out⟩
              simp [results, Try.results34, go_sem]
            · have hc : (v.node == n) = false := by simpa using e
              have hnx : Hid (∀ i y, i < k + 1 → vt[i]? = some y → y.node ≠ n) := Lib.hid (fun i y hi hy => by
                rcases (by omega : i < k ∨ i = k) with h1 | rfl
                · exact hY.out i y h1 hy
                · rw [hv] at hy; cases hy; exact e)
              clear hvo hY hv e
              go_wp2
              go_roundw
              case rel => exact ⟨k + 1, by omega, by go_num, trivial, hnx⟩
              case measure => simp [intOf]; omega
          · obtain rfl : k = vt.length := by omega
            have hkI : ¬ (vt.length : Int) < (vt.length : Int) := by omega
            obtain rfl : I = -1 := by
              rw [← hI.out]
              unfold dvI
              rw [if_neg (by rw [posV_none hY.out]; simp)]
            clear hvo hY hI
            go_wp2
            refine bodyPost_ret (v := .tuple #[.int .i64 (P : Int), .int .i64 (-1), .int .i64 0]) ?_ rfl ⟨rfl, hst.out⟩
            simp [results, Try.results34, go_sem]
end
end Go.Proofs.Ytafocefbpkcoaaa.coDf
