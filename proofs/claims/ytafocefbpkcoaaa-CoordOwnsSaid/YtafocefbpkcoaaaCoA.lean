/- The law's few and told. -/
import Derived.Test.YtafocefbpkcoaaaCoF
import Derived.Test.YtafocefbpkcoaaaCoT
import Derived.BigRegion
import Derived.Lib.SliceRun
set_option linter.unusedVariables false
set_option linter.unusedSimpArgs false
set_option maxRecDepth 100000
namespace Go.Proofs.Ytafocefbpkcoaaa.coA
open Go.ChangeShapes Go.WideShapes Go.ChangeAt Go.RowKit Go.Deep
open opG opV chnM gen chnA chnR chnE ordA ordC coG coO coM coP coL coN coB coK coV coE coF coW coT

abbrev TV : TypeId := 47
open Go.Lib in
theorem slice_v (A : Option Addr) (n c i : Nat) (h : i ≤ c) (w : World) : (Instr.slice TV (.slice A n c) none (some (.int .i64 (i : Int))) none).run Try.prog w = .ok (.slice A i c) w := by
  have ht : Try.prog.underlying TV = some (.slice (Try.prog.elem TV)) := by kernel_rfl
  have hs : ∀ w, (sizeOf (Try.prog.elem TV)).run Try.prog w = .ok 6 w := fun _ => by kernel_rfl
  rw [run_slice_h w TV A n c ht .i64 (i : Int) (by omega) (by omega), hs]
  cases A <;> simp [Result.andThen, sliced, Addr.add_zero']
/-- a share of at most eight versions; at most six of them -/
def fw1 (r : SR) : SR := { r with vs := r.vs.take 8 }
def fwR (rs : List SR) : List SR := (rs.take 6).map fw1
theorem hv_take {w : World} {A : Option Addr} {c : Nat} {l : List Ver} (h : HV w A c l) (n : Nat) : HV w A c (l.take n) := by
  have hl : (l.take n).length ≤ l.length := by simp; omega
  refine ⟨?_, h.nil_, Nat.le_trans hl h.le, h.top, by have := h.sm; omega⟩
  rcases h.row with h0 | ⟨b, off, e, h1, h2⟩
  · exact .inl (by omega)
  · refine .inr ⟨b, off, e, h1, fun i hi => ?_⟩
    have e9 : nt (l.take n) i = nt l i := by rw [nt_at hi, nt_at (by omega), List.getElem_take]
    rw [e9]
    exact h2 i (by omega)
theorem kSh_fw {w : World} {rs : List SR} (h : ∀ r ∈ rs, kSh w r) : ∀ r ∈ fwR rs, kSh w r ∧ r.vs.length ≤ 8 := by
  intro r hr
  obtain ⟨q, hq, rfl⟩ := List.mem_map.1 hr
  obtain ⟨h1, h2, h3⟩ := h q (List.mem_of_mem_take hq)
  exact ⟨⟨h1, hv_take h2 8, fun v hv => h3 v (List.mem_of_mem_take hv)⟩, by show (q.vs.take 8).length ≤ 8; simp; omega⟩
theorem fwR_len (rs : List SR) : (fwR rs).length ≤ 6 := by unfold fwR; simp; omega
theorem kSh.below {w w1 : World} {r : SR} (h : kSh w r) (hB : Below w.heap.size w w1) : kSh w1 r := ⟨h.1, h.2.1.below hB, h.2.2⟩
theorem infoS : (Try.prog.info? 61).map (fun i => (i.zero, i.size, i.bytes)) = some (some (.agg #[.int .i64 0, .slice none 0 0]), 2, 32) := by kernel_rfl
theorem infoD' : (Try.prog.info? 62).map (fun i => (i.zero, i.size, i.bytes)) = some (some (.agg #[.int .i64 0, .slice none 0 0]), 2, 32) := by kernel_rfl
abbrev shD : Shape SR := ⟨62, 2, cS, fun _ => rfl, by decide, cS_one⟩
set_option maxHeartbeats 4000000 in
theorem few_any (w : World) (A : Option Addr) (c : Nat) (rs : List SR) (h : Rd shS w A c rs) (hk : ∀ r ∈ rs, kSh w r) :
    Calls Try.prog 9 #[.slice A rs.length c] w fun e w' => ∃ A' c', e = .returned (.slice A' (fwR rs).length c') ∧ coG.Own shS w' w.heap.size A' c' (fwR rs) ∧ Below w.heap.size w w' := by
  obtain ⟨iV, hiV, hzV0, hzV1, hzV2⟩ := info_parts infoS
  have hcap := h.le
  have htop := h.top
  replace h := Lib.hid h
  replace hk := Lib.hid hk
  go_enter Try.func9, Try.ntmps9
  go_wp2
  go_loopw [4, 3] (fun i s wr => ∃ (j : Nat) (A1 : Option Addr) (c1 : Nat), j ≤ rs.length ∧ j ≤ 6 ∧ i = .int .i64 j ∧ s = .slice A1 j c1 ∧ Hid (coG.Own shS wr w.heap.size A1 c1 ((rs.take j).map fw1) ∧ Below w.heap.size w wr)) (fun i _ _ => rs.length - (intOf i).toNat)
  case atStart => exact ⟨0, none, 0, by omega, by omega, rfl, rfl, Lib.hid ⟨coG.Own.nil_ _ _ _, Below.refl _ _⟩⟩
  case round =>
    obtain ⟨j, A1, c1, hj, hj6, rfl, rfl, hX⟩ := hrel
    by_cases hlt : j < rs.length
    · have hjI : (j : Int) < (rs.length : Int) := by omega
      by_cases h6 : j < 6
      · have h6I : (j : Int) < 6 := by omega
        obtain ⟨r, hr⟩ : ∃ r, rs[j]? = some r := ⟨_, List.getElem?_eq_getElem hlt⟩
        obtain ⟨hG, hB⟩ := hX.out
        have hrd := h.out.step hB (Nat.le_refl _)
        obtain ⟨pb, po, rfl, hpb, hc⟩ := hrd.at_ hr
        have c0 : wr.cell? ⟨pb, po + j * 2, none⟩ = some (.int .i64 r.node) := hc 0 _ rfl
        have k1 : wr.cell? ⟨pb, po + j * 2 + 1, none⟩ = some (.slice r.A r.vs.length r.c) := hc 1 _ rfl
        have hvs := (hk.out r (List.mem_of_getElem? hr)).2.1
        have hl1 : ((rs.take j).map fw1).length = j := by simp; omega
        have hL1 : (rs.take (j + 1)).map fw1 = (rs.take j).map fw1 ++ [fw1 r] := by
          rw [List.take_succ_eq_append_getElem hlt, (List.getElem?_eq_some_iff.1 hr).2, List.map_append]; rfl
        obtain ⟨m, hm⟩ : ∃ m, (r.vs.take 8).length = m := ⟨_, rfl⟩
        have hmm : m = min r.vs.length 8 := by rw [← hm, List.length_take]; omega
        have hmI : (m : Int) = min (r.vs.length : Int) 8 := by omega
        have hsl := slice_v r.A r.vs.length r.c m (by have := hvs.le; omega)
        have hnc := hvs.le
        have hct := hvs.top
        have hal := fun o => (below_drew wr).alloc (Nat.le_refl _) o
        have hown := Lib.hid (show (wr.drew.alloc (.cells #[.int .i64 r.node, .slice r.A m r.c] 61)).ownsRow w.heap.size 61 2 (.slice A1 j c1) j (shS.fl ((rs.take j).map fw1)) from by
          have := hG.below (hal (.cells #[.int .i64 r.node, .slice r.A m r.c] 61))
          unfold coG.Own at this
          rw [hl1] at this
          exact this)
        have hend := Lib.hid (fun A9 c9 w9 (ho : w9.ownsRow w.heap.size 61 2 (.slice A9 (j + 1) c9) (j + 1) (shS.fl ((rs.take j).map fw1) ++ [.int .i64 r.node, .slice r.A m r.c])) (hg : (wr.drew.alloc (.cells #[.int .i64 r.node, .slice r.A m r.c] 61)).grownBy w9 (Value.slice A1 j c1).ownBlock) => (by
          rw [hL1]
          refine ⟨Own.of_app (l' := [fw1 r]) hl1 rfl ?_ ho, grown_below (trans0 hB (hal _)) hg (fun k e => (hG.lt (k := k) (by rw [hl1]; exact e)).1) (Nat.le_trans hB.size (hal _).size)⟩
          rw [Shape.fl_one]
          show _ = [Value.int .i64 r.node, .slice r.A (r.vs.take 8).length r.c]
          rw [hm] : coG.Own shS w9 w.heap.size A9 c9 ((rs.take (j + 1)).map fw1) ∧ Below w.heap.size w w9))
        have hlt9 := Lib.hid (show j + 1 ≤ maxLen ∧ (j + 1) * 32 ≤ 140737488355328 ∧ w.heap.size ≤ (wr.drew.alloc (.cells #[.int .i64 r.node, .slice r.A m r.c] 61)).heap.size from ⟨by unfold maxLen; omega, by omega, Nat.le_trans hB.size (hal _).size⟩)
        have d0 := keep_cell (al0 wr (.cells #[.int .i64 r.node, .slice r.A m r.c] 61)) c0
        have d1 := keep_cell (al0 wr (.cells #[.int .i64 r.node, .slice r.A m r.c] 61)) k1
        have hmx : min (r.vs.length : Int) 8 = (m : Int) := hmI.symm
        clear hX hG hB hrd hc hvs hL1 hl1 hm hmm hr hmI
        generalize r.vs.length = N at *
        go_upto_region 5 with (fail)
        go_region_law (refine step_gen rfl (.tmp 15) (.tmp 35) 30 rfl w.heap.size 61 iV _ 2 32 Try.underlying30 hiV hzV0 hzV1 hzV2 rfl (by decide) (.slice A1 j c1) j (shS.fl ((rs.take j).map fw1)) (by rfl) hown.out (some ⟨wr.heap.size, 0, none⟩) 1 1 [.int .i64 r.node, .slice r.A m r.c] (by rfl) rfl (stand_new _ _ _ _) (by intro u hu; simp only [List.mem_cons, List.not_mem_nil, or_false] at hu; rcases hu with rfl | rfl <;> rfl) hlt9.out.1 hlt9.out.2.1 hlt9.out.2.2 ?_; intro A9 c9 w9 ho9 hg9 hat9; have hF := Lib.hid (hend.out A9 c9 w9 ho9 hg9); clear ho9 hg9 hat9)
        all_goals
          clear hown hend hlt9 c0 k1 d0 d1 hsl hal
          go_wp2
          go_roundw
          case rel => exact ⟨j + 1, A9, c9, by omega, by omega, by go_num, rfl, hF⟩
          case measure => simp [intOf]; omega
      · have h6I : ¬ (j : Int) < 6 := by omega
        have hfw : (rs.take j).map fw1 = fwR rs := by rw [show j = 6 by omega]; rfl
        have hlen : (fwR rs).length = j := by rw [← hfw]; simp; omega
        have hG := hX.out
        rw [hfw] at hG
        replace hlen := Lib.hid hlen
        clear hX hfw
        go_wp2
        go_ret
        exact ⟨A1, c1, (by rw [hlen.out]; rfl), hG.1, hG.2⟩
    · have hjI : ¬ (j : Int) < (rs.length : Int) := by omega
      have hfw : (rs.take j).map fw1 = fwR rs := by unfold fwR; rw [List.take_of_length_le (by omega), List.take_of_length_le (by omega)]
      have hlen : (fwR rs).length = j := by rw [← hfw]; simp; omega
      have hG := hX.out
      rw [hfw] at hG
      replace hlen := Lib.hid hlen
      clear hX hfw
      go_wp2
      go_ret
      exact ⟨A1, c1, (by rw [hlen.out]; rfl), hG.1, hG.2⟩
end Go.Proofs.Ytafocefbpkcoaaa.coA
