/- The contract of the program's Put. -/
import Derived.Test.YtlojmojmijklmaaChnI
import Derived.Deep.RegionLaw
set_option linter.unusedVariables false
set_option maxRecDepth 100000
namespace Go.Proofs.Ytlojmojmijklmaa.chnJ
open Go.ChangeShapes Go.WideShapes Go.ChangeAt Go.RowKit Go.Deep
open opV chnM gen chnA chnB chnR chnC chnD chnE chnF chnG chnI

theorem slice_to (A : Option Addr) (n c i : Nat) (h : i ≤ c) (w : World) : (Instr.slice 30 (.slice A n c) none (some (.int .i64 (i : Int))) none).run Try.prog w = .ok (.slice A i c) w := by
  have ht : Try.prog.underlying 30 = some (.slice (Try.prog.elem 30)) := by kernel_rfl
  have hs : ∀ w, (sizeOf (Try.prog.elem 30)).run Try.prog w = .ok 6 w := fun _ => by kernel_rfl
  rw [run_slice_h w 30 A n c ht .i64 (i : Int) (by omega) (by omega), hs]
  cases A <;> simp [Result.andThen, sliced, Addr.add_zero']
def fromA (A : Option Addr) (c i : Nat) : Option Addr := if c = i then A else A.map (·.add (i * 6))
theorem slice_from (A : Option Addr) (n c i : Nat) (h : i ≤ n) (w : World) : (Instr.slice 30 (.slice A n c) (some (.int .i64 (i : Int))) none none).run Try.prog w = .ok (.slice (fromA A c i) (n - i) (c - i)) w := by
  have ht : Try.prog.underlying 30 = some (.slice (Try.prog.elem 30)) := by kernel_rfl
  have hs : ∀ w, (sizeOf (Try.prog.elem 30)).run Try.prog w = .ok 6 w := fun _ => by kernel_rfl
  rw [run_slice_l w 30 A n c ht .i64 (i : Int) (by omega) (by omega), hs]
  unfold fromA
  simp [Result.andThen, sliced]
section
variable {w : World} {A : Option Addr} {c i : Nat} {l : List Ver}
theorem nt_take (hi : i ≤ l.length) {k : Nat} (hk : k < i) : nt (l.take i) k = nt l k := by rw [nt_at (by simp; omega), nt_at (by omega), List.getElem_take]
theorem nt_drop {k : Nat} (hk : i + k < l.length) : nt (l.drop i) k = nt l (i + k) := by rw [nt_at (by simp; omega), nt_at (by omega), List.getElem_drop]
theorem hv_to (h : HV w A c l) (hi : i ≤ l.length) : HV w A c (l.take i) := by
  have hl : (l.take i).length = i := by simp; omega
  refine ⟨?_, h.nil_, by have := h.le; omega, h.top, by have := h.sm; omega⟩
  rcases h.row with h0 | ⟨b, off, e, hlt, hc⟩
  · exact .inl (by omega)
  · exact .inr ⟨b, off, e, hlt, fun k hk => by rw [nt_take hi (by omega)]; exact hc k (by omega)⟩
theorem hv_from (h : HV w A c l) (hi : i ≤ l.length) : HV w (fromA A c i) (c - i) (l.drop i) := by
  have hl : (l.drop i).length = l.length - i := by simp
  have hle := h.le
  refine ⟨?_, ?_, by omega, by have := h.top; omega, by have := h.sm; omega⟩
  · rcases h.row with h0 | ⟨b, off, e, hlt, hc⟩
    · exact .inl (by omega)
    · by_cases h0 : l.length - i = 0
      · exact .inl (by omega)
      · refine .inr ⟨b, off + i * 6, ?_, hlt, fun k hk => ?_⟩
        · unfold fromA
          rw [if_neg (by omega), e]
          simp [Addr.add]
        · rw [nt_drop (by omega), show off + i * 6 + k * 6 = off + (i + k) * 6 by omega]
          exact hc (i + k) (by omega)
  · intro e
    unfold fromA at e
    split at e
    · omega
    · have : A = none := by cases A <;> simp_all
      have := h.nil_ this
      omega
end
theorem PR.new3 {w : World} (p q r : Part) (t : TypeId) (hp : HV w p.A p.c p.l) (hq : HV w q.A q.c q.l) (hr : HV w r.A r.c r.l) :
    PR (w.alloc (.cells #[.slice p.A p.l.length p.c, .slice q.A q.l.length q.c, .slice r.A r.l.length r.c] t)) w.heap.size 0 [p, q, r] := by
  have h := fun (j : Nat) (u : Value) (hu : (#[.slice p.A p.l.length p.c, .slice q.A q.l.length q.c, .slice r.A r.l.length r.c] : Array Value)[j]? = some u) =>
    (cell_of_row _ _ j _ t (0, 0) (heap_alloc_new w (.cells #[.slice p.A p.l.length p.c, .slice q.A q.l.length q.c, .slice r.A r.l.length r.c] t))).trans hu
  refine ⟨fun i hi => ?_, fun i hi => ?_⟩
  · rw [Nat.zero_add]
    have : i = 0 ∨ i = 1 ∨ i = 2 := by simp at hi; omega
    rcases this with rfl | rfl | rfl
    · exact h 0 _ rfl
    · exact h 1 _ rfl
    · exact h 2 _ rfl
  · have : i = 0 ∨ i = 1 ∨ i = 2 := by simp at hi; omega
    rcases this with rfl | rfl | rfl
    · exact hp.below (al0 _ _)
    · exact hq.below (al0 _ _)
    · exact hr.below (al0 _ _)
theorem PR.new1 {w : World} (p : Part) (t : TypeId) (hp : HV w p.A p.c p.l) : PR (w.alloc (.cells #[.slice p.A p.l.length p.c] t)) w.heap.size 0 [p] := by
  refine ⟨fun i hi => ?_, fun i hi => ?_⟩
  · have : i = 0 := by simp at hi; omega
    subst this
    exact cell_of_row _ _ 0 #[.slice p.A p.l.length p.c] t (0, 0) (heap_alloc_new w _)
  · have : i = 0 := by simp at hi; omega
    subst this
    exact hp.below (al0 _ _)
set_option maxRecDepth 100000 in
set_option maxHeartbeats 1000000 in
theorem put_no (A : Option Addr) (c : Nat) (l : List Ver) (v : Ver) (w : World) (h : HV w A c l) (he : putE l v ≠ 0) :
    Calls Try.prog 32 #[.slice A l.length c, .agg #[.string v.key, .string v.val, .bool v.gone, .int .u64 v.ts, .int .i64 v.dc, .int .i64 v.tx]] w (TV (putE l v) [] w) := by
  have hB0 := al0 w (.cells #[.string v.key, .string v.val, .bool v.gone, .int .u64 v.ts, .int .i64 v.dc, .int .i64 v.tx] 35)
  have hv0 := V6.new w v 35
  have hpl := place_any A c l v _ (h.below hB0)
  obtain ⟨W, hW⟩ : ∃ W, w.alloc (.cells #[.string v.key, .string v.val, .bool v.gone, .int .u64 v.ts, .int .i64 v.dc, .int .i64 v.tx] 35) = W := ⟨_, rfl⟩
  rw [hW] at hB0 hpl
  have hne : ((putE l v : Int) != 0) = true := by rw [bne_iff_ne]; omega
  replace hpl := Lib.hid hpl
  replace hW := Lib.hid hW
  replace hB0 := Lib.hid hB0
  clear h he
  generalize putE l v = E at *
  generalize plI l v = i at *
  obtain ⟨a0, a1, a2, a3, a4, a5⟩ := hv0
  go_enter Try.func32, Try.ntmps32
  go_wp2_with (fail)
  rw [hW.out]
  refine hpl.out.mono ?_
  rintro e w1 ⟨rfl, hB1⟩
  have hfin := Lib.hid (trans0 hB0.out hB1)
  clear a0 a1 a2 a3 a4 a5 hB1
  go_wp2
  go_ret2
  exact ⟨none, 0, rfl, GV.nil_ _ _, hfin.out⟩
theorem put_cat (l : List Ver) (v : Ver) (A A1 A2 : Option Addr) (c c1 c2 : Nat) : cat [⟨A, c, l.take (putI l v)⟩, ⟨A1, c1, [v]⟩, ⟨A2, c2, l.drop (putI l v)⟩] = put l v := by
  unfold cat put insA; simp
set_option maxRecDepth 100000 in
set_option maxHeartbeats 2000000 in
theorem put_yes (A : Option Addr) (c : Nat) (l : List Ver) (v : Ver) (w : World) (h : HV w A c l) (he : putE l v = 0) (h9 : l.length ≤ 100000) :
    Calls Try.prog 32 #[.slice A l.length c, .agg #[.string v.key, .string v.val, .bool v.gone, .int .u64 v.ts, .int .i64 v.dc, .int .i64 v.tx]] w (TV 0 (put l v) w) := by
  have hB0 := al0 w (.cells #[.string v.key, .string v.val, .bool v.gone, .int .u64 v.ts, .int .i64 v.dc, .int .i64 v.tx] 35)
  have hv0 := V6.new w v 35
  have hpl := place_any A c l v _ (h.below hB0)
  have hil := putI_le l v
  rw [he, show plI l v = putI l v by unfold plI; rw [if_pos he]] at hpl
  obtain ⟨W, hW⟩ : ∃ W, w.alloc (.cells #[.string v.key, .string v.val, .bool v.gone, .int .u64 v.ts, .int .i64 v.dc, .int .i64 v.tx] 35) = W := ⟨_, rfl⟩
  rw [hW] at hB0 hpl
  have hv0f := Lib.hid (show V6 w.heap.size 0 v W by rw [← hW]; exact hv0)
  have hle := h.le
  have hs1 := slice_to A l.length c (putI l v) (by omega)
  have hs2 := slice_from A l.length c (putI l v) hil
  have hto := Lib.hid (fun X (hB : Below w.heap.size w X) => hv_to (h.below hB) hil)
  have hfr := Lib.hid (fun X (hB : Below w.heap.size w X) => hv_from (h.below hB) hil)
  have hct := Lib.hid (put_cat l v A)
  have hlt1 : (l.take (putI l v)).length = putI l v := by simp; omega
  have hld1 : (l.drop (putI l v)).length = l.length - putI l v := by simp
  have hpn := Lib.hid (put_len l v)
  obtain ⟨R, hR⟩ : ∃ R, put l v = R := ⟨_, rfl⟩
  rw [hR] at hct hpn ⊢
  replace hR := Lib.hid hR
  replace hlt1 := Lib.hid hlt1
  replace hld1 := Lib.hid hld1
  replace hpl := Lib.hid hpl
  replace hW := Lib.hid hW
  replace hB0 := Lib.hid hB0
  clear h he
  generalize putI l v = i at *
  generalize fromA A c i = A2 at *
  obtain ⟨a0, a1, a2, a3, a4, a5⟩ := hv0
  go_enter Try.func32, Try.ntmps32
  go_wp2_with (fail)
  rw [hW.out]
  refine hpl.out.mono ?_
  rintro e w1 ⟨rfl, hB1⟩
  clear a0 a1 a2 a3 a4 a5
  obtain ⟨a0, a1, a2, a3, a4, a5⟩ := hv0f.out.below hB1
  have hBw := Lib.hid (trans0 hB0.out hB1)
  have hcc : Hid (Calls Try.prog 52 #[.slice (some ⟨w1.heap.size + 1, 0, none⟩) 3 3]
      (((w1.alloc (.cells #[.string v.key, .string v.val, .bool v.gone, .int .u64 v.ts, .int .i64 v.dc, .int .i64 v.tx] 35)).alloc (.cells #[.slice A i c, .slice (some ⟨w1.heap.size, 0, none⟩) 1 1, .slice A2 (l.length - i) (c - i)] 30)).drew)
      fun e w' => ∃ A' c', e = .returned (.slice A' R.length c') ∧ GV w' w.heap.size A' c' R ∧ Below w.heap.size w w') := Lib.hid (by
    have hX1 := trans0 hBw.out (al0 w1 (.cells #[.string v.key, .string v.val, .bool v.gone, .int .u64 v.ts, .int .i64 v.dc, .int .i64 v.tx] 35))
    have hX2 := trans0 hX1 (al0 _ (.cells #[.slice A i c, .slice (some ⟨w1.heap.size, 0, none⟩) 1 1, .slice A2 (l.length - i) (c - i)] 30))
    have hp := PR.new3 (w := w1.alloc (.cells #[.string v.key, .string v.val, .bool v.gone, .int .u64 v.ts, .int .i64 v.dc, .int .i64 v.tx] 35)) ⟨A, c, l.take i⟩ ⟨some ⟨w1.heap.size, 0, none⟩, 1, [v]⟩ ⟨A2, c - i, l.drop i⟩ 30 (hto.out _ hX1) (HV.one w1 v 35) (hfr.out _ hX1)
    simp only [hlt1.out, hld1.out] at hp
    rw [World.size_alloc] at hp
    have hcn := concat_any (w1.heap.size + 1) 0 _ _ (hp.below (below_drew _)) (by simp) (by rw [hct.out, hpn.out]; omega)
    rw [hct.out] at hcn
    refine hcn.mono ?_
    rintro e w' ⟨A', c', rfl, hG, hB⟩
    exact ⟨A', c', rfl, hG.more hX2.drew.size, trans0 hX2.drew hB⟩)
  clear hB1 hpl
  go_wp2
  go_region_law ((go_simp; go_at_call 52; (with_reducible refine (hcc.out).mono ?_); rintro e w' ⟨A', c', rfl, hG, hB⟩))
  all_goals
    go_wp2
    go_ret2
    exact ⟨A', c', rfl, hG, hB⟩
theorem put_any (A : Option Addr) (c : Nat) (l : List Ver) (v : Ver) (w : World) (h : HV w A c l) (h9 : l.length ≤ 100000) :
    Calls Try.prog 32 #[.slice A l.length c, .agg #[.string v.key, .string v.val, .bool v.gone, .int .u64 v.ts, .int .i64 v.dc, .int .i64 v.tx]] w (TV (putE l v) (putL l v) w) := by
  unfold putL
  by_cases he : putE l v = 0
  · rw [if_pos he, he]
    exact put_yes A c l v w h he h9
  · rw [if_neg he]
    exact put_no A c l v w h he
end Go.Proofs.Ytlojmojmijklmaa.chnJ
