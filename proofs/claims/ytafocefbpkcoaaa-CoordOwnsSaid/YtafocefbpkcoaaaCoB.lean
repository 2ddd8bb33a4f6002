/- The program's begin: a transaction of new memory. -/
import Derived.Test.YtafocefbpkcoaaaCoN
set_option linter.unusedVariables false
set_option linter.unusedSimpArgs false
set_option maxRecDepth 100000
namespace Go.Proofs.Ytafocefbpkcoaaa.coB
open Go.ChangeShapes Go.WideShapes Go.ChangeAt Go.RowKit Go.Deep
open opG opV chnM gen chnA chnR chnE ordA ordC coG coO coM coP coL coN

theorem infoD : (Try.prog.info? TD).map (fun i => (i.zero, i.size, i.bytes)) = some (some (.agg #[.int .i64 0, .slice none 0 0, .bool false, .bool false]), 4, 40) := by kernel_rfl
/-- what lies there between the rounds: j sides, i places -/
structure BS (w : World) (low : Int) (rs : List SR) (j i : Nat) (A : Option Addr) (gc : Nat) (rs' : List SR) (D : DM) (X : World) : Prop where
  row : X.rowIs (w.heap.size + 1) TX 6 (cX low (.slice A rs'.length gc) (.map (some w.heap.size)) 0 0 0)
  sd : Own sdS X w.heap.size A gc (sdl [] rs')
  mp : X.ownsMap Try.prog 3 hV w.heap.size (plN ((rs.take i).map (·.node))).length D
  cr : CR .i64 (plN ((rs.take i).map (·.node))) D
  gv : ∀ r ∈ rs', GV X w.heap.size r.A r.c r.vs
  es : rs'.map SR.s = (rs.take j).map SR.s
  bel : Below w.heap.size w X
section
variable {w X X1 w9 : World} {low : Int} {rs rs' : List SR} {j i : Nat} {A A9 : Option Addr} {gc c9 : Nat} {D D' : DM} {r r0 : SR}
theorem BS.below (h : BS w low rs j i A gc rs' D X) (hB : Below X.heap.size X X1) : BS w low rs j i A gc rs' D X1 where
  row := h.row.of_block (hB.block _ h.row.lt)
  sd := h.sd.below hB
  mp := map_block h.mp (hB.block _ h.mp.lt)
  cr := h.cr
  gv := fun r hr => (h.gv r hr).below hB
  es := h.es
  bel := trans0 h.bel hB
theorem BS.cells (h : BS w low rs j i A gc rs' D X) : X.cell? ⟨w.heap.size + 1, 1, none⟩ = some (.slice A rs'.length gc) ∧ X.cell? ⟨w.heap.size + 1, 2, none⟩ = some (.map (some w.heap.size)) ∧ X.frozen? ⟨w.heap.size + 1, 1, none⟩ = false :=
  ⟨h.row.cell (i := 1) (by omega), h.row.cell (i := 2) (by omega), h.row.frozen 1⟩
theorem sdl_snoc (rs : List SR) (r : SR) : sdl [] (rs ++ [r]) = sdl [] rs ++ [⟨r, false, false⟩] := by simp [sdl, hasV, endV, fnV]
theorem BS.grow (h : BS w low rs j i A gc rs' D X) (hB : Below X.heap.size X X1) (hr : rs[j]? = some r0) (G : GV X1 w.heap.size r.A r.c r.vs) (es : r.s = r0.s) (ho : w9.ownsRow w.heap.size TD 4 (.slice A9 (rs'.length + 1) c9) (rs'.length + 1) (sdS.fl (sdl [] rs') ++ cD ⟨r, false, false⟩)) (hg : X1.grownBy w9 (Value.slice A rs'.length gc).ownBlock) :
    w9.cell? ⟨w.heap.size + 1, 1, none⟩ = some (.slice A rs'.length gc) ∧ w9.frozen? ⟨w.heap.size + 1, 1, none⟩ = false ∧ BS w low rs (j + 1) i A9 c9 (rs' ++ [r]) D (w9.setCell ⟨w.heap.size + 1, 1, none⟩ (.slice A9 (rs'.length + 1) c9)) ∧ ∀ k t, Ty X1 k t → t ≠ TD → t ≠ TX → (w9.setCell ⟨w.heap.size + 1, 1, none⟩ (.slice A9 (rs'.length + 1) c9)).heap[k]? = X1.heap[k]? := by
  have h1 := h.below hB
  have tp := Ty.of_row h1.row
  have hA := fun k (e : (Value.slice A rs'.length gc).ownBlock = some k) => h1.sd.lt (k := k) (by rw [sdl_len]; exact e)
  have hp : w9.heap[w.heap.size + 1]? = X1.heap[w.heap.size + 1]? := hg.block _ h1.row.lt (fun e => tp.ne (hA _ e.symm).2.2 (by decide) rfl)
  have hr9 := h1.row.of_block hp
  have tp9 := Ty.of_row hr9
  have hO : Own sdS w9 w.heap.size A9 c9 (sdl [] (rs' ++ [r])) := by
    rw [sdl_snoc]
    exact Own.of_app (l' := [⟨r, false, false⟩]) (sdl_len _ _) rfl (Shape.fl_one _ _).symm ho
  have hm : w9.ownsMap Try.prog 3 hV w.heap.size (plN ((rs.take i).map (·.node))).length D := map_block h1.mp (hg.block _ h1.mp.lt (fun e => (hA _ e.symm).2.2.nmap h1.mp rfl))
  have hl : (rs' ++ [r]).length = rs'.length + 1 := by simp
  have hB9 : Below w.heap.size w w9 := ⟨hg.os.trans h1.bel.os, hg.tape.trans h1.bel.tape, hg.output.trans h1.bel.output, Nat.le_trans h1.bel.size hg.size, fun k hk => (hg.block k (by have := h1.bel.size; omega) (fun e => by have := (hA k e.symm).1; omega)).trans (h1.bel.block k hk)⟩
  refine ⟨(World.cell?_of_block (a := ⟨w.heap.size + 1, 1, none⟩) hp).trans h1.cells.1, (World.frozen?_of_block (a := ⟨w.heap.size + 1, 1, none⟩) hp).trans h1.cells.2.2, ?_, fun k t ht n1 n2 => ?_⟩
  case refine_2 =>
    rw [Below.heap_setCell _ _ _ _ (ht.ne tp n2)]
    exact hg.block k ht.lt (fun e2 => ht.ne (hA k e2.symm).2.2 n1 rfl)
  have hgv : ∀ y : SR, GV X1 w.heap.size y.A y.c y.vs → GV (w9.setCell ⟨w.heap.size + 1, 1, none⟩ (.slice A9 (rs'.length + 1) c9)) w.heap.size y.A y.c y.vs := fun y hy => hy.block fun k e => by
    have tv : Ty X1 k 64 := coL.Ty.of_gv hy e
    have h9 : w9.heap[k]? = X1.heap[k]? := hg.block k tv.lt (fun e2 => tv.ne (hA k e2.symm).2.2 (by decide) rfl)
    rw [Below.heap_setCell _ _ _ _ (tv.ne tp (by decide))]
    exact h9
  refine { row := ?_, sd := ?_, mp := ?_, cr := h.cr, gv := fun y hy => ?_, es := ?_, bel := ?_ }
  · rw [hl]
    exact (hr9.set 1 _).congr fun i hi => by rcases six6 hi with rfl | rfl | rfl | rfl | rfl | rfl <;> rfl
  · exact hO.block fun k e => Below.heap_setCell _ _ _ _ ((hO.lt e).2.2.ne tp9 (by decide))
  · exact map_block hm (Below.heap_setCell _ _ _ _ (tp9.nmap hm).symm)
  · rcases List.mem_append.1 hy with hy | hy
    · exact hgv y (h1.gv y hy)
    · rw [List.mem_singleton.1 hy]
      exact hgv r G
  · have hj := (List.getElem?_eq_some_iff.1 hr).1
    rw [List.map_append, h.es, List.take_succ_eq_append_getElem hj, List.map_append, (List.getElem?_eq_some_iff.1 hr).2]
    simp [es]
  · exact hB9.setCell (p := ⟨w.heap.size + 1, 1, none⟩) (by show w.heap.size ≤ w.heap.size + 1; omega) _
theorem BS.place (h : BS w low rs j i A gc rs' D X) (hr : rs[i]? = some r0) (hn : rs.length ≤ 1000) (n0 : -9223372036854775808 ≤ r0.node) (n1 : r0.node ≤ 9223372036854775807) :
    ∃ w2 D2, (Instr.mapUpdate TN (.map (some w.heap.size)) (.int .i64 r0.node) (.int .i64 (i : Int))).run Try.prog X = .ok () w2 ∧ BS w low rs j (i + 1) A gc rs' D2 w2 := by
  have hi := (List.getElem?_eq_some_iff.1 hr).1
  have hlen := (plN_len ((rs.take i).map (·.node))).1
  rw [List.length_map, List.length_take] at hlen
  obtain ⟨w2, D2, h1, h2, h3, h4⟩ := cr_store (tm := TN) h.cr h.mp Try.underlying3 Try.underlying77 (by unfold maxLen; omega) (wf_i n0 n1) (.int .i64 (i : Int))
  have e : pup (plN ((rs.take i).map (·.node))) r0.node (.int .i64 (i : Int)) = plN ((rs.take (i + 1)).map (·.node)) := by
    rw [List.take_succ_eq_append_getElem hi, (List.getElem?_eq_some_iff.1 hr).2, List.map_append]
    show _ = plN (_ ++ [r0.node])
    rw [plN_snoc, List.length_map, List.length_take, Nat.min_eq_left (Nat.le_of_lt hi)]
  rw [e] at h2 h3
  have hg := h4.grown
  refine ⟨w2, D2, h1, { row := h.row.of_block (hg.block _ h.row.lt (fun e => (Ty.of_row h.row).nmap h.mp (Option.some.inj e))), sd := ?_, mp := h2, cr := h3, gv := fun r hr => (h.gv r hr).block fun k e => hg.block k (coL.Ty.of_gv (h.gv r hr) e).lt (fun e2 => (coL.Ty.of_gv (h.gv r hr) e).nmap h.mp (Option.some.inj e2)), es := h.es, bel := ?_ }⟩
  · exact h.sd.block fun k e => hg.block k (h.sd.lt e).2.1 (fun e2 => (h.sd.lt e).2.2.nmap h.mp (Option.some.inj e2))
  · exact ⟨hg.os.trans h.bel.os, hg.tape.trans h.bel.tape, hg.output.trans h.bel.output, Nat.le_trans h.bel.size hg.size, fun k hk => (hg.block k (by have := h.bel.size; omega) (fun e2 => by have := Option.some.inj e2; omega)).trans (h.bel.block k hk)⟩
theorem BS.new (w : World) (low : Int) (rs : List SR) : BS w low rs 0 0 none 0 [] (.map []) ((w.alloc (.map #[] 0)).alloc (.cells #[.int .u64 low, .slice none 0 0, .map (some w.heap.size), .int .i64 0, .int .i64 0, .int .u64 0] TX)) := by
  have hsz : (w.alloc (.map #[] 0)).heap.size = w.heap.size + 1 := by simp
  have hB := trans0 (al0 w (.map #[] 0)) (al0 _ (.cells #[.int .u64 low, .slice none 0 0, .map (some w.heap.size), .int .i64 0, .int .i64 0, .int .u64 0] TX))
  have hm0 : (w.alloc (.map #[] 0)).ownsMap Try.prog 3 hV w.heap.size 0 (.map []) := World.ownsMap_made w _ _ _
  have hr := World.rowIs_alloc (w.alloc (.map #[] 0)) #[.int .u64 low, .slice none 0 0, .map (some w.heap.size), .int .i64 0, .int .i64 0, .int .u64 0] TX (cX low (.slice none 0 0) (.map (some w.heap.size)) 0 0 0) (fun i hi => by
    rcases six6 (i := i) (by simpa using hi) with rfl | rfl | rfl | rfl | rfl | rfl <;> simp [cX])
  rw [hsz] at hr
  exact { row := hr, sd := Own.nil_ _ _ _, mp := map_block hm0 ((al0 (w.alloc (.map #[] 0)) _).block _ (by rw [hsz]; omega)), cr := cr_nil _, gv := fun r hr => (by cases hr), es := rfl, bel := hB }
end
theorem fldR (v : Value) (w : World) : (Instr.field 98 (.agg #[.int .u64 0, .int .i64 0, .int .i64 0, v]) 3).run Try.prog w = .ok v w := by kernel_rfl
/-! ### A box of a share -/
abbrev P2 (b : Nat) (r : SR) (w : World) : Prop := w.rowIs b 61 2 (fun i => (cS r).getD i undef)
theorem two2 {i : Nat} (hi : i < 2) : i = 0 ∨ i = 1 := by omega
theorem P2.cells {b : Nat} {r : SR} {w : World} (h : P2 b r w) : w.cell? ⟨b, 0, none⟩ = some (.int .i64 r.node) ∧ w.cell? ⟨b, 1, none⟩ = some (.slice r.A r.vs.length r.c) ∧ ∀ o, w.frozen? ⟨b, o, none⟩ = false := ⟨h.cell (i := 0) (by omega), h.cell (i := 1) (by omega), fun o => h.frozen o⟩
theorem P2.new (w : World) (r : SR) : P2 w.heap.size r (w.alloc (.cells #[.int .i64 r.node, .slice r.A r.vs.length r.c] 61)) :=
  World.rowIs_alloc w #[.int .i64 r.node, .slice r.A r.vs.length r.c] 61 (fun i => (cS r).getD i undef) (fun i hi => by rcases two2 (i := i) (by simpa using hi) with rfl | rfl <;> rfl)
theorem P2.below {b : Nat} {r : SR} {w w1 : World} (h : P2 b r w) (hB : Below w.heap.size w w1) : P2 b r w1 := h.of_block (hB.block b h.lt)
theorem P2.put1 {b : Nat} {r : SR} {w : World} (h : P2 b r w) (A : Option Addr) (c : Nat) : P2 b { r with A := A, c := c } (w.setCell ⟨b, 1, none⟩ (.slice A r.vs.length c)) :=
  (h.set 1 _).congr fun i hi => by rcases two2 hi with rfl | rfl <;> rfl
set_option maxHeartbeats 4000000 in
theorem begin_any (w : World) (low : Int) (A : Option Addr) (c : Nat) (rs : List SR) (h : Rd shS w A c rs) (hn : rs.length ≤ 1000) (hk : ∀ r ∈ rs, kSh w r) :
    Calls Try.prog 30 #[.int .u64 low, .slice A rs.length c] w fun e w' => e = .returned (.pointer (some ⟨w.heap.size + 1, 0, none⟩)) ∧ ∃ A' gc rs' D, BS w low rs rs.length rs.length A' gc rs' D w' := by
  obtain ⟨iD, hiD, hzD0, hzD1, hzD2⟩ := info_parts infoD
  have hmm := @run_makeMap Try.prog
  have hC := Lib.hid (BS.new w low rs)
  have hsz : (w.alloc (.map #[] 0)).heap.size = w.heap.size + 1 := by simp
  replace h := Lib.hid h
  replace hk := Lib.hid hk
  go_enter Try.func30, Try.ntmps30
  go_wp2
  go_loopw [14] (fun i wr => ∃ j : Nat, j ≤ rs.length ∧ i = .int .i64 j ∧ Hid (∃ A' gc rs' D, BS w low rs j j A' gc rs' D wr)) (fun i _ => rs.length - (intOf i).toNat)
  case atStart => exact ⟨0, by omega, rfl, Lib.hid ⟨_, _, _, _, hC.out⟩⟩
  case round =>
    clear hC hmm hsz
    obtain ⟨j, hj, rfl, hX⟩ := hrel
    by_cases hlt : j < rs.length
    · have hjI : (j : Int) < (rs.length : Int) := by omega
      obtain ⟨A1, g1, rs1, D1, hS⟩ := hX.out
      obtain ⟨r, hr⟩ : ∃ r, rs[j]? = some r := ⟨_, List.getElem?_eq_getElem hlt⟩
      have hrd := h.out.step hS.bel (Nat.le_refl _)
      obtain ⟨pb, po, rfl, hpb, hc⟩ := hrd.at_ hr
      have c0 := hc 0 _ rfl
      have c1 := hc 1 _ rfl
      rw [Nat.add_zero] at c0
      clear hc hrd
      obtain ⟨⟨n0, n1⟩, hv, hs⟩ := hk.out r (List.mem_of_getElem? hr)
      have hl1 : rs1.length = j := by have := congrArg List.length hS.es; simp at this; omega
      -- the round's own share
      obtain ⟨W1, hW1⟩ : ∃ W1, wr.alloc (.cells #[.int .i64 r.node, .slice r.A r.vs.length r.c] 61) = W1 := ⟨_, rfl⟩
      obtain ⟨B1, hB1⟩ : ∃ b, wr.heap.size = b := ⟨_, rfl⟩
      have hal : Below wr.heap.size wr W1 := by rw [← hW1]; exact al0 _ _
      have hP1 : P2 B1 r W1 := by rw [← hW1, ← hB1]; exact P2.new wr r
      have hv1 := hv.step (trans0 hS.bel hal) (Nat.le_refl _)
      replace hS := Lib.hid hS
      have hcp := Lib.hid (show Calls Try.prog 42 #[.agg #[.int .u64 0, .int .i64 0, .int .i64 0, .slice r.A r.vs.length r.c]] W1 fun e w' => ∃ A c, e = .returned (.agg #[.int .u64 0, .int .i64 0, .int .i64 0, .slice A r.vs.length c]) ∧ GV w' W1.heap.size A c r.vs ∧ Below W1.heap.size W1 w' from copy_any ⟨0, 0, 0, r.vs, r.A, r.c⟩ W1 hv1 hs)
      obtain ⟨d0, d1, df⟩ := hP1.cells
      have hB1lt : B1 < W1.heap.size := World.block_lt_of_cell? _ _ d0
      replace hal := Lib.hid hal
      clear hX hv hv1 hs
      replace hW1 := Lib.hid hW1
      go_upto_region 5 with (fail)
      rw [hW1.out]
      clear hW1
      go_wp2_with (fail)
      with_reducible refine hcp.out.mono ?_
      rintro e w2 ⟨A2, c2, rfl, hG2, hB2⟩
      have hP2 := hP1.below hB2
      have hfr := fldR (.slice A2 r.vs.length c2) w2
      obtain ⟨k2, k3, kf'⟩ := hP2.cells
      have kf := kf' 1
      clear kf'
      -- its versions are the copy
      obtain ⟨W3, hW3⟩ : ∃ W3, w2.setCell ⟨B1, 1, none⟩ (.slice A2 r.vs.length c2) = W3 := ⟨_, rfl⟩
      have hB3 : Below wr.heap.size wr W3 := by
        rw [← hW3]
        exact (trans0 hal.out hB2).setCell (p := ⟨B1, 1, none⟩) (by show wr.heap.size ≤ B1; omega) _
      have hG3 : GV W3 W1.heap.size A2 c2 r.vs := by rw [← hW3]; exact hG2.other hB1lt _ _
      have hP3 := Lib.hid (show P2 B1 { r with A := A2, c := c2 } W3 by rw [← hW3]; exact hP2.put1 A2 c2)
      obtain ⟨b0, b1, -⟩ := hP3.out.cells
      simp only at b0 b1
      clear hcp d0 d1 df hB2 hG2 hal hP1 hP2
      have hin : w.heap.size ≤ wr.heap.size := hS.out.bel.size
      have hin1 : wr.heap.size ≤ W1.heap.size := by omega
      -- behind the region
      have hE1 := Lib.hid (fun o => (hB3.drew.alloc hB3.size o : Below wr.heap.size wr (W3.drew.alloc o)))
      obtain ⟨z0, z1, z2⟩ := (hS.out.below hB3).cells
      have z3 := keep_cell (al0 W3 (.cells #[.int .i64 r.node, .slice A2 r.vs.length c2, .bool false, .bool false] TD)) z0
      have b2 := keep_cell (al0 W3 (.cells #[.int .i64 r.node, .slice A2 r.vs.length c2, .bool false, .bool false] TD)) b0
      have b3 := keep_cell (al0 W3 (.cells #[.int .i64 r.node, .slice A2 r.vs.length c2, .bool false, .bool false] TD)) b1
      have hown := Lib.hid (show (W3.drew.alloc (.cells #[.int .i64 r.node, .slice A2 r.vs.length c2, .bool false, .bool false] TD)).ownsRow w.heap.size TD 4 (.slice A1 rs1.length g1) rs1.length (sdS.fl (sdl [] rs1)) by
        have h1 := (hS.out.below (hE1.out (.cells #[.int .i64 r.node, .slice A2 r.vs.length c2, .bool false, .bool false] TD))).sd
        unfold Own at h1
        rw [sdl_len] at h1
        exact h1)
      have hend := Lib.hid (fun w9 A9 c9 ho hg => (hS.out.grow (w9 := w9) (A9 := A9) (c9 := c9) (r := { r with A := A2, c := c2 }) (hE1.out (.cells #[.int .i64 r.node, .slice A2 r.vs.length c2, .bool false, .bool false] TD)) hr ((hG3.more (Nat.le_trans hin hin1)).below ((below_drew W3).alloc (Nat.le_refl _) (.cells #[.int .i64 r.node, .slice A2 r.vs.length c2, .bool false, .bool false] TD))) rfl ho hg))
      have hlt9 := Lib.hid (show rs1.length + 1 ≤ maxLen ∧ (rs1.length + 1) * 40 ≤ 140737488355328 ∧ w.heap.size ≤ (W3.drew.alloc (.cells #[.int .i64 r.node, .slice A2 r.vs.length c2, .bool false, .bool false] TD)).heap.size from ⟨by unfold maxLen; omega, by omega, Nat.le_trans hin (hE1.out _).size⟩)
      have hpl : Hid (∀ A9 c9 D9 X9, BS w low rs (j + 1) j A9 c9 (rs1 ++ [{ r with A := A2, c := c2 }]) D9 X9 → ∃ w2 D2, (Instr.mapUpdate TN (.map (some w.heap.size)) (.int .i64 r.node) (.int .i64 (j : Int))).run Try.prog X9 = .ok () w2 ∧ BS w low rs (j + 1) (j + 1) A9 c9 (rs1 ++ [{ r with A := A2, c := c2 }]) D2 w2) := Lib.hid (fun A9 c9 D9 X9 hX9 => hX9.place hr hn n0 n1)
      go_upto_region 6 with (fail)
      clear k2 k3 kf hW3 hB3 hG3 hin hin1 hE1 hl1 hfr hB1
      go_region_law (refine step_gen rfl (.tmp 29) (.tmp 32) 76 rfl w.heap.size TD iD _ 4 40 Try.underlying76 hiD hzD0 hzD1 hzD2 rfl (by decide) (.slice A1 rs1.length g1) rs1.length (sdS.fl (sdl [] rs1)) (by rfl) hown.out (some ⟨W3.heap.size, 0, none⟩) 1 1 (cD ⟨{ r with A := A2, c := c2 }, false, false⟩) (by rfl) rfl (stand_new _ _ _ _) (cD_one _) hlt9.out.1 hlt9.out.2.1 hlt9.out.2.2 ?_; intro A9 c9 w9 ho9 hg9 hat9; obtain ⟨y0, y1, hfin, hkp⟩ := hend.out w9 A9 c9 ho9 hg9; replace hfin := Lib.hid hfin; replace hkp := Lib.hid hkp; clear ho9 hg9 hat9)
      all_goals
        clear b0 b1 b2 b3 z0 z1 z2 z3 hown hend hlt9 y0 y1
        generalize w9.setCell ⟨w.heap.size + 1, 1, none⟩ (.slice A9 (rs1.length + 1) c9) = W9 at *
        have hS9 := hfin.out.below (below_drew W9)
        obtain ⟨w2, D2, hup, hS2⟩ := hpl.out _ _ _ _ hS9
        have hP4 := (hP3.out.below ((below_drew W3).alloc (Nat.le_refl _) (.cells #[.int .i64 r.node, .slice A2 r.vs.length c2, .bool false, .bool false] TD)))
        have hP9 := hP4.of_block (hkp.out B1 _ (Ty.of_row hP4) (by decide) (by decide))
        obtain ⟨b0, b1, -⟩ := P2.cells hP9
        obtain ⟨z0, z1, z2⟩ := hfin.out.cells
        replace hS2 := Lib.hid hS2
        clear hP4 hP9 hP3 hkp hS9 hpl hfin
        simp only at b0
        go_upto_region 7 with (fail)
        go_region
        all_goals
          go_wp2
          go_roundw
          case rel => exact ⟨j + 1, by omega, by go_num, Lib.hid ⟨_, _, _, _, hS2.out⟩⟩
          case measure => simp [intOf]; omega
    · obtain rfl : j = rs.length := by omega
      have hjI : ¬ (rs.length : Int) < (rs.length : Int) := by omega
      go_wp2
      go_ret
      exact ⟨rfl, hX.out⟩
end Go.Proofs.Ytafocefbpkcoaaa.coB
