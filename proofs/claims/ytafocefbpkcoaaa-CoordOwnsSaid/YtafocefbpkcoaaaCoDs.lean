/- The document's Start. -/
import Derived.Test.YtafocefbpkcoaaaCoDf
set_option linter.unusedVariables false
set_option linter.unusedSimpArgs false
set_option maxRecDepth 100000
namespace Go.Proofs.Ytafocefbpkcoaaa.coDs
open Go.ChangeShapes Go.WideShapes Go.ChangeAt Go.RowKit Go.Deep
open opG opV chnM gen chnA chnR chnE ordA ordC coG coO coM coP coL coK coN coD coDf

theorem infoX : (Try.prog.info? 62).map (fun i => (i.zero, i.size, i.bytes)) = some (some (.agg #[.int .i64 0, .slice none 0 0]), 2, 32) := by kernel_rfl
theorem infoE : (Try.prog.info? TE).map (fun i => (i.zero, i.size, i.bytes)) = some (some (.agg #[.int .u64 0, .int .u64 0, .slice none 0 0, .slice none 0 0]), 4, 64) := by kernel_rfl
/-- a box of an entry -/
abbrev P4e (b : Nat) (x : DE) (w : World) : Prop := w.rowIs b TE 4 (fun i => (cE x).getD i undef)
theorem four4 {i : Nat} (hi : i < 4) : i = 0 ∨ i = 1 ∨ i = 2 ∨ i = 3 := by omega
theorem P4e.new (w : World) (x : DE) : P4e w.heap.size x (w.alloc (.cells #[.int .u64 x.tx, .int .u64 x.low, .slice x.A1 x.rs.length x.c1, .slice x.A2 x.vt.length x.c2] TE)) :=
  World.rowIs_alloc w #[.int .u64 x.tx, .int .u64 x.low, .slice x.A1 x.rs.length x.c1, .slice x.A2 x.vt.length x.c2] TE (fun i => (cE x).getD i undef) (fun i hi => by rcases four4 (i := i) (by simpa using hi) with rfl | rfl | rfl | rfl <;> rfl)
abbrev nx (tx low : Int) (rs : List SR) (A1 : Option Addr) (c1 : Nat) : DE := ⟨tx, low, rs, A1, c1, [], none, 0⟩
structure BD (w : World) (tx low : Int) (rs : List SR) (j : Nat) (bx : Nat) (A1 : Option Addr) (c1 : Nat) (rs' : List SR) (X : World) : Prop where
  bxr : P4e bx (nx tx low rs' A1 c1) X
  ro : coG.Own shD X w.heap.size A1 c1 rs'
  gv : ∀ r ∈ rs', GV X w.heap.size r.A r.c r.vs
  es : rs'.map SR.s = (rs.take j).map SR.s
  nd : ((rs.take j).map (·.node)).Nodup
  bel : Below w.heap.size w X
  bw : w.heap.size ≤ bx
section
variable {w X X1 w9 : World} {tx low : Int} {rs rs' : List SR} {j bx : Nat} {A A9 : Option Addr} {c1 c9 : Nat} {r r0 : SR}
theorem BD.below (h : BD w tx low rs j bx A c1 rs' X) (hB : Below X.heap.size X X1) : BD w tx low rs j bx A c1 rs' X1 where
  bxr := h.bxr.of_block (hB.block _ h.bxr.lt)
  ro := h.ro.below hB
  gv := fun r hr => (h.gv r hr).below hB
  es := h.es
  nd := h.nd
  bel := trans0 h.bel hB
  bw := h.bw
theorem BD.cell (h : BD w tx low rs j bx A c1 rs' X) : X.cell? ⟨bx, 2, none⟩ = some (.slice A rs'.length c1) ∧ X.frozen? ⟨bx, 2, none⟩ = false := ⟨h.bxr.cell (i := 2) (by omega), h.bxr.frozen 2⟩
theorem BD.cells (h : BD w tx low rs j bx A c1 rs' X) : X.cell? ⟨bx, 0, none⟩ = some (.int .u64 tx) ∧ X.cell? ⟨bx, 1, none⟩ = some (.int .u64 low) ∧ X.cell? ⟨bx, 2, none⟩ = some (.slice A rs'.length c1) ∧ X.cell? ⟨bx, 3, none⟩ = some (.slice none 0 0) := ⟨h.bxr.cell (i := 0) (by omega), h.bxr.cell (i := 1) (by omega), h.bxr.cell (i := 2) (by omega), h.bxr.cell (i := 3) (by omega)⟩
theorem BD.grow (h : BD w tx low rs j bx A c1 rs' X) (hB : Below X.heap.size X X1) (hr : rs[j]? = some r0) (hno : r0.node ∉ (rs.take j).map (·.node)) (G : GV X1 w.heap.size r.A r.c r.vs) (es : r.s = r0.s) (ho : w9.ownsRow w.heap.size 62 2 (.slice A9 (rs'.length + 1) c9) (rs'.length + 1) (shD.fl rs' ++ cS r)) (hg : X1.grownBy w9 (Value.slice A rs'.length c1).ownBlock) :
    w9.cell? ⟨bx, 2, none⟩ = some (.slice A rs'.length c1) ∧ w9.frozen? ⟨bx, 2, none⟩ = false ∧ BD w tx low rs (j + 1) bx A9 c9 (rs' ++ [r]) (w9.setCell ⟨bx, 2, none⟩ (.slice A9 (rs'.length + 1) c9)) := by
  have h1 := h.below hB
  have tp := Ty.of_row h1.bxr
  have hA := fun k (e : (Value.slice A rs'.length c1).ownBlock = some k) => h1.ro.lt e
  have hp : w9.heap[bx]? = X1.heap[bx]? := hg.block _ h1.bxr.lt (fun e => tp.ne (hA _ e.symm).2.2 (by decide) rfl)
  have hr9 := h1.bxr.of_block hp
  have tp9 := Ty.of_row hr9
  have hO : coG.Own shD w9 w.heap.size A9 c9 (rs' ++ [r]) := coG.Own.of_app1 ho
  have hl : (rs' ++ [r]).length = rs'.length + 1 := by simp
  have hB9 : Below w.heap.size w w9 := ⟨hg.os.trans h1.bel.os, hg.tape.trans h1.bel.tape, hg.output.trans h1.bel.output, Nat.le_trans h1.bel.size hg.size, fun k hk => (hg.block k (by have := h1.bel.size; omega) (fun e => by have := (hA k e.symm).1; omega)).trans (h1.bel.block k hk)⟩
  refine ⟨(World.cell?_of_block (a := ⟨bx, 2, none⟩) hp).trans h1.cell.1, (World.frozen?_of_block (a := ⟨bx, 2, none⟩) hp).trans h1.cell.2, ?_⟩
  have hgv : ∀ y : SR, GV X1 w.heap.size y.A y.c y.vs → GV (w9.setCell ⟨bx, 2, none⟩ (.slice A9 (rs'.length + 1) c9)) w.heap.size y.A y.c y.vs := fun y hy => hy.block fun k e => by
    have tv : Ty X1 k 64 := coL.Ty.of_gv hy e
    have h9 : w9.heap[k]? = X1.heap[k]? := hg.block k tv.lt (fun e2 => tv.ne (hA k e2.symm).2.2 (by decide) rfl)
    rw [Below.heap_setCell _ _ _ _ (tv.ne tp (by decide))]
    exact h9
  have hj := (List.getElem?_eq_some_iff.1 hr).1
  refine { bxr := ?_, ro := ?_, gv := fun y hy => ?_, es := ?_, nd := ?_, bel := ?_, bw := h.bw }
  · refine (hr9.set 2 _).congr fun i hi => ?_
    rcases four4 hi with rfl | rfl | rfl | rfl
    · rfl
    · rfl
    · show Value.slice A9 (rs'.length + 1) c9 = Value.slice A9 (rs' ++ [r]).length c9
      rw [hl]
    · rfl
  · exact hO.block fun k e => Below.heap_setCell _ _ _ _ ((hO.lt e).2.2.ne tp9 (by decide))
  · rcases List.mem_append.1 hy with hy | hy
    · exact hgv y (h1.gv y hy)
    · rw [List.mem_singleton.1 hy]
      exact hgv r G
  · rw [List.map_append, h.es, List.take_succ_eq_append_getElem hj, List.map_append, (List.getElem?_eq_some_iff.1 hr).2]
    simp [es]
  · rw [List.take_succ_eq_append_getElem hj, List.map_append, (List.getElem?_eq_some_iff.1 hr).2, List.nodup_append]
    refine ⟨h.nd, by simp, fun a ha b hb e => ?_⟩
    simp only [List.map_cons, List.map_nil, List.mem_singleton] at hb
    subst hb e
    exact hno ha
  · exact hB9.setCell (p := ⟨bx, 2, none⟩) h.bw _
theorem ver_made (w : World) : (w.alloc (.cells #[] 64)).ownsRow w.heap.size 64 6 (.slice (some ⟨w.heap.size, 0, none⟩) 0 0) 0 [] :=
  ⟨rfl, .inr ⟨_, 0, #[], rfl, Nat.le_refl _, heap_alloc_new w _, Nat.le_refl _, Nat.zero_le _, rfl, rfl⟩⟩
/-- a copy of versions onto a row that was made -/
theorem copied {w7 : World} {vs : List Ver} {A7 : Option Addr} {c7 : Nat} (ho : w7.ownsRow X.heap.size 64 6 (.slice A7 (0 + vs.length) c7) (0 + vs.length) ([] ++ fl vs)) (hg : (X.drew.alloc (.cells #[] 64)).grownBy w7 (Value.slice (some ⟨X.heap.size, 0, none⟩) 0 0).ownBlock) : GV w7 X.heap.size A7 c7 vs ∧ Below X.heap.size X w7 := by
  refine ⟨?_, ?_⟩
  · unfold GV
    rw [Nat.zero_add, List.nil_append] at ho
    exact ho
  · have hB := (below_drew X).alloc (Nat.le_refl _) (.cells #[] 64)
    refine ⟨hg.os.trans hB.os, hg.tape.trans hB.tape, hg.output.trans hB.output, Nat.le_trans hB.size hg.size, fun k hk => (hg.block k (by have := hB.size; omega) ?_).trans (hB.block k hk)⟩
    simp [Value.ownBlock]
    omega
end
section
variable {col : Nat → Nat} {c q cA : Nat} {A : Option Addr} {l : List DE} {os : Ens}
/-- what stands where Start has come through the shares -/
def stOut (rs : List SR) : Int := if (rs.map (·.node)).Nodup then 0 else 3
set_option maxHeartbeats 4000000 in
theorem dstart_dev (w : World) (hT : DocM col c w q A cA l) (hn : l.length ≤ 1000) {tx low : Int} (Ar : Option Addr) (cr : Nat) (rs : List SR) (hr : Rd shD w Ar cr rs) (hl : rs.length ≤ 6) (hk : ∀ r ∈ rs, kSh w r) (hne : rs ≠ []) (hfe : fnE (l.map DE.e) tx = none) (Q : Ending → World → Prop)
    (hno : ¬ (rs.map (·.node)).Nodup → ∀ w', Below w.heap.size w w' → Q (.returned (.int .i64 3)) w')
    (hyes : (rs.map (·.node)).Nodup → ∀ bx A1 c1 rs' X, BD w tx low rs rs.length bx A1 c1 rs' X → ∃ (Ad : Option Addr), X.cell? ⟨q, 0, none⟩ = some (.slice A l.length cA) ∧ (X.drew.alloc (.cells #[.int .u64 tx, .int .u64 low, .slice A1 rs'.length c1, .slice none 0 0] TE)).ownsRow 0 TE 4 (.slice A l.length cA) l.length (shE.fl l) ∧
      ∀ w9 A9 c9, w9.ownsRow 0 TE 4 (.slice A9 (l.length + 1) c9) (l.length + 1) (shE.fl l ++ [.int .u64 tx, .int .u64 low, .slice A1 rs'.length c1, .slice none 0 0]) → (X.drew.alloc (.cells #[.int .u64 tx, .int .u64 low, .slice A1 rs'.length c1, .slice none 0 0] TE)).grownBy w9 (Value.slice A l.length cA).ownBlock → ((Value.slice A9 (l.length + 1) c9).ownBlock = (Value.slice A l.length cA).ownBlock ∨ (Value.slice A9 (l.length + 1) c9).ownBlock = some (X.drew.alloc (.cells #[.int .u64 tx, .int .u64 low, .slice A1 rs'.length c1, .slice none 0 0] TE)).heap.size) →
        w9.cell? ⟨q, 0, none⟩ = some (.slice A l.length cA) ∧ w9.frozen? ⟨q, 0, none⟩ = false ∧ Q (.returned (.int .i64 0)) (w9.setCell ⟨q, 0, none⟩ (.slice A9 (l.length + 1) c9))) :
    Calls Try.prog 11 #[.pointer (some ⟨q, 0, none⟩), .int .u64 tx, .int .u64 low, .slice Ar rs.length cr] w Q := by
  obtain ⟨iV, hiV, hzV0, hzV1, hzV2⟩ := info_parts infoV
  obtain ⟨iX, hiX, hzX0, hzX1, hzX2⟩ := info_parts infoX
  obtain ⟨iE, hiE, hzE0, hzE1, hzE2⟩ := info_parts infoE
  have hfi := dfind_at w hT hn tx
  rw [show dfI (l.map DE.e) tx = -1 by unfold dfI; rw [hfe]] at hfi
  replace hfi := Lib.hid hfi
  have hlI : ((rs.length : Int) == 0) = false := by
    have := List.length_pos_iff.2 hne
    rw [beq_eq_false_iff_ne]; omega
  have hrc := hr.le
  have hrt := hr.top
  replace hr := Lib.hid hr
  replace hk := Lib.hid hk
  replace hno := Lib.hid hno
  replace hyes := Lib.hid hyes
  have hC : Hid (BD w tx low rs 0 w.heap.size none 0 [] (w.alloc (.cells #[.int .u64 tx, .int .u64 low, .slice none 0 0, .slice none 0 0] TE))) := Lib.hid ⟨P4e.new w (nx tx low [] none 0), coG.Own.nil_ _ _ _, fun r hr => (by cases hr), rfl, List.nodup_nil, al0 _ _, Nat.le_refl _⟩
  obtain ⟨bx, hbx⟩ : ∃ b, w.heap.size = b := ⟨_, rfl⟩
  have hC' : Hid (BD w tx low rs 0 bx none 0 [] (w.alloc (.cells #[.int .u64 tx, .int .u64 low, .slice none 0 0, .slice none 0 0] TE))) := Lib.hid (by rw [← hbx]; exact hC.out)
  clear hC hT hfe
  go_enter Try.func11, Try.ntmps11
  go_wp2_with (fail)
  with_reducible refine hfi.out.mono ?_
  rintro e w' ⟨rfl, rfl⟩
  clear hfi
  go_wp2
  go_loopw [10, 11] (fun i _ wr => ∃ j : Nat, j ≤ rs.length ∧ i = .int .i64 j ∧ Hid (∃ A1 c1 rs', BD w tx low rs j bx A1 c1 rs' wr)) (fun i _ _ => rs.length - (intOf i).toNat)
  case atStart => exact ⟨0, by omega, rfl, Lib.hid ⟨_, _, _, hC'.out⟩⟩
  case round =>
    clear hC' hbx
    obtain ⟨j, hj, rfl, hX⟩ := hrel
    obtain ⟨A1, c1, rs1, hS⟩ := hX.out
    by_cases hlt : j < rs.length
    · have hjI : (j : Int) < (rs.length : Int) := by omega
      obtain ⟨r, hr0⟩ : ∃ r, rs[j]? = some r := ⟨_, List.getElem?_eq_getElem hlt⟩
      replace hS := Lib.hid hS
      clear hX
      go_wp2
      go_loopw [11] (fun i wx => ∃ k : Nat, k ≤ j ∧ i = .int .i64 k ∧ Hid (Below wr.heap.size wr wx ∧ ∀ i y, i < k → rs[i]? = some y → y.node ≠ r.node)) (fun i _ => j - (intOf i).toNat)
      case atStart => exact ⟨0, by omega, rfl, Lib.hid ⟨Below.refl _ _, fun i y hi => by omega⟩⟩
      case round =>
        obtain ⟨k, hk2, rfl, hY⟩ := hrel
        obtain ⟨hB2, hdf⟩ := hY.out
        have hrdw := hr.out.step (trans0 hS.out.bel hB2) (Nat.le_refl _)
        obtain ⟨pb, po, rfl, hpb, hc⟩ := hrdw.at_ hr0
        have c0 : wr.cell? ⟨pb, po + j * 2, none⟩ = some (.int .i64 r.node) := hc 0 _ rfl
        have k1 : wr.cell? ⟨pb, po + j * 2 + 1, none⟩ = some (.slice r.A r.vs.length r.c) := hc 1 _ rfl
        by_cases hlk : k < j
        · have hkI : (k : Int) < (j : Int) := by omega
          have hkN : (k : Int) < (rs.length : Int) := by omega
          obtain ⟨s, hs0⟩ : ∃ s, rs[k]? = some s := ⟨_, List.getElem?_eq_getElem (by omega)⟩
          obtain ⟨pb2, po2, e2, -, hc2⟩ := hrdw.at_ hs0
          cases e2
          have d0 : wr.cell? ⟨pb, po + k * 2, none⟩ = some (.int .i64 s.node) := hc2 0 _ rfl
          by_cases e : s.node = r.node
          · have hcc : (r.node == s.node) = true := by rw [beq_iff_eq]; exact e.symm
            have hdup : ¬ (rs.map (·.node)).Nodup := fun hd => by
              have h1 : (rs.map (·.node))[k]? = some r.node := by rw [List.getElem?_map, hs0]; simp [e]
              have h2 : (rs.map (·.node))[j]? = some r.node := by rw [List.getElem?_map, hr0]; rfl
              have := (List.getElem?_inj (by simp; omega) hd).1 (h1.trans h2.symm)
              omega
            have hq := Lib.hid (fun n => hno.out hdup _ (chnA.bdrN n (trans0 hS.out.bel hB2)))
            clear hyes hno hY hB2 hdf hrdw hc hc2 hs0 hr0 hdup hS e hr hk
            go_upto_region 12 with (fail)
            go_quiet (fail)
            go_wp2
            exact hq.out _
          · have hcc : (r.node == s.node) = false := by rw [beq_eq_false_iff_ne]; exact fun e2 => e e2.symm
            have hnx := Lib.hid (fun n => (⟨chnA.bdrN n hB2, fun i y hi hy => (by
              rcases (by omega : i < k ∨ i = k) with h1 | rfl
              · exact hdf i y h1 hy
              · rw [hs0] at hy; cases hy; exact e)⟩ : Below _ _ (wr.drewN n) ∧ ∀ i y, i < k + 1 → rs[i]? = some y → y.node ≠ r.node))
            clear hY hdf hrdw hc hc2 e hs0 hB2
            go_upto_region 12 with (fail)
            go_quiet (fail)
            have hN := Lib.hid (hnx.out nq)
            clear hnx
            go_wp2
            go_roundw
            case rel => exact ⟨k + 1, by omega, by go_num, hN⟩
            case measure => simp [intOf]; omega
        · obtain rfl : k = j := by omega
          have hkI : ¬ (k : Int) < (k : Int) := by omega
          have hnot : r.node ∉ (rs.take k).map (·.node) := fun hm => by
            obtain ⟨y, hy, e⟩ := List.mem_map.1 hm
            obtain ⟨i, hi, rfl⟩ := List.getElem_of_mem hy
            rw [List.length_take] at hi
            exact hdf i _ (by omega) (by rw [List.getElem_take, List.getElem?_eq_getElem (by omega)]) e
          have hS2 := Lib.hid (hS.out.below hB2)
          obtain ⟨hkn, hvs, hsm⟩ := hk.out r (List.mem_of_getElem? hr0)
          have hvw := hvs.step hS2.out.bel (Nat.le_refl _)
          have hl1 : rs1.length = k := by have := congrArg List.length hS2.out.es; simp at this; omega
          have hvle := hvw.sm
          have hvc := hvw.le
          obtain ⟨b2, bf⟩ := hS2.out.cell
          have hbxl := World.block_lt_of_cell? _ _ b2
          have hBE : Below wr.heap.size wr (wr.drew.alloc (.cells #[] 64)) := (below_drew wr).alloc (Nat.le_refl _) _
          have c0' := keep_cell (al0 wr (.cells #[] 64)) c0
          have k1' := keep_cell (al0 wr (.cells #[] 64)) k1
          have b2' := keep_cell (al0 wr (.cells #[] 64)) b2
          have hown1 := Lib.hid (show (wr.drew.alloc (.cells #[] 64)).ownsRow wr.heap.size 64 6 (.slice (some ⟨wr.heap.size, 0, none⟩) 0 0) 0 [] from ver_made wr.drew)
          have hst1 := Lib.hid (hvw.below hBE).stand
          have hfl1 : Hid ((fl r.vs).length = r.vs.length * 6) := Lib.hid (fl_len _)
          have hfa1 := Lib.hid (fl_all r.vs)
          have hlt1 := Lib.hid (show 0 + r.vs.length ≤ maxLen ∧ (0 + r.vs.length) * 64 ≤ 140737488355328 ∧ wr.heap.size ≤ (wr.drew.alloc (.cells #[] 64)).heap.size from ⟨by unfold maxLen; omega, by omega, hBE.size⟩)
          have h7 := Lib.hid (fun w7 A7 c7 (ho : w7.ownsRow wr.heap.size 64 6 (.slice A7 (0 + r.vs.length) c7) (0 + r.vs.length) ([] ++ fl r.vs)) (hg : (wr.drew.alloc (.cells #[] 64)).grownBy w7 (Value.slice (some ⟨wr.heap.size, 0, none⟩) 0 0).ownBlock) => (by
            obtain ⟨hG7, hB7⟩ := copied ho hg
            exact ⟨keep_cell hB7 c0, keep_cell hB7 b2, hG7, hB7⟩ : w7.cell? ⟨pb, po + k * 2, none⟩ = some (.int .i64 r.node) ∧ w7.cell? ⟨bx, 2, none⟩ = some (.slice A1 rs1.length c1) ∧ GV w7 wr.heap.size A7 c7 r.vs ∧ Below wr.heap.size wr w7))
          have h8 := Lib.hid (fun w7 A7 c7 (hB7 : Below wr.heap.size wr w7) => (by
            have hB8 := hB7.alloc hB7.size (.cells #[.int .i64 r.node, .slice A7 r.vs.length c7] 62)
            refine ⟨?_, by unfold maxLen; omega, by omega, Nat.le_trans hS2.out.bel.size hB8.size⟩
            exact hS2.out.ro.below hB8 : (w7.alloc (.cells #[.int .i64 r.node, .slice A7 r.vs.length c7] 62)).ownsRow w.heap.size 62 2 (.slice A1 rs1.length c1) rs1.length (shD.fl rs1) ∧ rs1.length + 1 ≤ maxLen ∧ (rs1.length + 1) * 32 ≤ 140737488355328 ∧ w.heap.size ≤ (w7.alloc (.cells #[.int .i64 r.node, .slice A7 r.vs.length c7] 62)).heap.size))
          have h9 := Lib.hid (fun w7 A7 c7 (hG7 : GV w7 wr.heap.size A7 c7 r.vs) (hB7 : Below wr.heap.size wr w7) w9 A9 c9 ho hg =>
            hS2.out.grow (w9 := w9) (A9 := A9) (c9 := c9) (r := { r with A := A7, c := c7 }) (hB7.alloc hB7.size (.cells #[.int .i64 r.node, .slice A7 r.vs.length c7] 62)) hr0 hnot ((hG7.more hS2.out.bel.size).below (al0 w7 _)) rfl ho hg)
          obtain ⟨B0, hB0⟩ : ∃ b, wr.heap.size = b := ⟨_, rfl⟩
          clear hY hdf hrdw hc hvs hsm hvw hkn hl1 hvle hB2 hnot
          replace hBE := Lib.hid hBE
          go_upto_region 14 with (fail)
          rw [hB0] at hown1 hlt1 h7 h9 h8
          go_region_law (first
            | (refine step_gen rfl (.tmp 51) (.tmp 56) 47 rfl B0 64 iV _ 6 64 Try.underlying47 hiV hzV0 hzV1 hzV2 rfl (by decide) (.slice (some ⟨B0, 0, none⟩) 0 0) 0 [] (by rfl) hown1.out r.A r.vs.length r.c (fl r.vs) (by rfl) hfl1.out hst1.out hfa1.out hlt1.out.1 hlt1.out.2.1 hlt1.out.2.2 ?_; intro A7 c7 w7 ho7 hg7 hat7; obtain ⟨d0, d2, hG7, hB7⟩ := h7.out w7 A7 c7 ho7 hg7; have d0' := keep_cell (al0 w7 (.cells #[.int .i64 r.node, .slice A7 r.vs.length c7] 62)) d0; have d2' := keep_cell (al0 w7 (.cells #[.int .i64 r.node, .slice A7 r.vs.length c7] 62)) d2; replace hG7 := Lib.hid hG7; replace hB7 := Lib.hid hB7; clear ho7 hg7 hat7)
            | (refine step_gen rfl (.tmp 45) (.tmp 59) 37 rfl w.heap.size 62 iX _ 2 32 Try.underlying37 hiX hzX0 hzX1 hzX2 rfl (by decide) (.slice A1 rs1.length c1) rs1.length (shD.fl rs1) (by rfl) (h8.out w7 A7 c7 hB7.out).1 (some ⟨_, 0, none⟩) 1 1 (cS { r with A := A7, c := c7 }) (by rfl) rfl (stand_new _ _ _ _) (cS_one _) (h8.out w7 A7 c7 hB7.out).2.1 (h8.out w7 A7 c7 hB7.out).2.2.1 (h8.out w7 A7 c7 hB7.out).2.2.2 ?_; intro A9 c9 w9 ho9 hg9 hat9; obtain ⟨y0, y1, hfin⟩ := h9.out w7 A7 c7 hG7.out hB7.out w9 A9 c9 ho9 hg9; replace hfin := Lib.hid hfin; clear ho9 hg9 hat9)
            | fail)
          all_goals
            clear h7 h8 h9 hown1 hst1 hfl1 hfa1 hlt1 c0 k1 c0' k1' b2 b2' bf d0 d2 d0' d2' y0 y1 hyes hno hk hr hG7 hB7
            go_wp2
            go_roundw
            case rel => exact ⟨k + 1, by omega, by go_num, Lib.hid ⟨_, _, _, hfin.out⟩⟩
            case measure => simp [intOf]; omega
    · obtain rfl : j = rs.length := by omega
      have hjI : ¬ (rs.length : Int) < (rs.length : Int) := by omega
      have hnd : (rs.map (·.node)).Nodup := by have := hS.nd; rw [List.take_length] at this; exact this
      obtain ⟨Ad, z0, hown, hend⟩ := hyes.out hnd bx A1 c1 rs1 wr hS
      obtain ⟨b0, b1, b2, b3⟩ := hS.cells
      have z0' := keep_cell (al0 wr (.cells #[.int .u64 tx, .int .u64 low, .slice A1 rs1.length c1, .slice none 0 0] TE)) z0
      have hlt9 := Lib.hid (show l.length + 1 ≤ maxLen ∧ (l.length + 1) * 64 ≤ 140737488355328 from ⟨by unfold maxLen; omega, by omega⟩)
      replace hown := Lib.hid hown
      replace hend := Lib.hid hend
      clear hX hS hyes hno hk hr hnd
      go_upto_region 15 with (fail)
      go_region_law (refine step_gen rfl (.tmp 66) (.tmp 68) 26 rfl 0 TE iE _ 4 64 Try.underlying26 hiE hzE0 hzE1 hzE2 rfl (by decide) (.slice A l.length cA) l.length (shE.fl l) (by rfl) hown.out (some ⟨_, 0, none⟩) 1 1 [.int .u64 tx, .int .u64 low, .slice A1 rs1.length c1, .slice none 0 0] (by rfl) rfl (stand_new _ _ _ _) (by intro u hu; simp only [List.mem_cons, List.not_mem_nil, or_false] at hu; rcases hu with rfl | rfl | rfl | rfl <;> rfl) hlt9.out.1 hlt9.out.2 (Nat.zero_le _) ?_; intro A9 c9 w9 ho9 hg9 hat9; obtain ⟨y0, y1, hfin⟩ := hend.out w9 A9 c9 ho9 hg9 hat9; replace hfin := Lib.hid hfin; clear ho9 hg9 hat9)
      all_goals
        clear hend hown hlt9 z0 z0' b0 b1 b2 b3 y0 y1
        go_wp2
        exact hfin.out
end
end Go.Proofs.Ytafocefbpkcoaaa.coDs
