/- Plain, the program's and the document's. -/
import Derived.Test.YtpijljbkdfjhcaaCfM
set_option linter.unusedVariables false
set_option linter.unusedSimpArgs false
set_option maxRecDepth 100000
namespace Go.Proofs.Ytpijljbkdfjhcaa.cfN
open Go.ChangeShapes Go.WideShapes Go.ChangeAt Go.RowKit Go.Deep
open spnM spnA spnB spnD spnI spnJ spnK spnS cfA cfB cfC cfD cfE cfF cfG cfH cfI cfJ cfK cfR cfL cfM

/-- a command without what its kind doesn't use -/
def plC (c : Cm) : Cm :=
  if c.kind = 3 then ⟨c.kind, c.dc, c.shard, 0, 0, c.key⟩ else if c.kind = 4 then ⟨c.kind, c.dc, c.shard, 0, 0, emp⟩ else if c.kind = 5 then ⟨c.kind, c.dc, c.shard, c.node, 0, emp⟩ else
  if c.kind = 6 then ⟨c.kind, c.dc, 0, c.node, c.mode, emp⟩ else ⟨c.kind, c.dc, 0, 0, 0, emp⟩
theorem below3 (w : World) (o1 o2 o3 : Obj) : Below w.heap.size w (((w.alloc o1).alloc o2).alloc o3) := trans0 (trans0 (al0 w o1) (al0 _ o2)) (al0 _ o3)
set_option maxHeartbeats 4000000 in
theorem plain_any (c : Cm) (w : World) : Calls Try.prog 19 #[vC c] w fun e w' => e = .returned (vC (plC c)) ∧ Below w.heap.size w w' := by
  obtain ⟨k, d, sh, nd, md, key⟩ := c
  have hb := Lib.hid (fun (v2 v3 : World) (h2 : Below w.heap.size w v2) => h2)
  unfold plC
  by_cases h3 : k = 3
  · rw [if_pos h3]
    have t3 : (k == 3) = true := by rw [beq_iff_eq]; omega
    have t4 : (k == 4) = false := by rw [beq_eq_false_iff_ne]; omega
    have t5 : (k == 5) = false := by rw [beq_eq_false_iff_ne]; omega
    have t6 : (k == 6) = false := by rw [beq_eq_false_iff_ne]; omega
    clear hb  h3
    go_enter Try.func19, Try.ntmps19
    go_wp2
    all_goals try (go_region)
    all_goals try go_wp2
    all_goals exact bodyPost_ret (v := vC ⟨k, d, sh, 0, 0, key⟩) (by simp [results, Try.results19, go_sem]) rfl ⟨rfl, by first | exact below3 _ _ _ _ | exact (below3 _ _ _ _).drew⟩
  · by_cases h4 : k = 4
    · rw [if_neg h3]
      rw [if_pos h4]
      have t3 : (k == 3) = false := by rw [beq_eq_false_iff_ne]; omega
      have t4 : (k == 4) = true := by rw [beq_iff_eq]; omega
      have t5 : (k == 5) = false := by rw [beq_eq_false_iff_ne]; omega
      have t6 : (k == 6) = false := by rw [beq_eq_false_iff_ne]; omega
      clear hb h3 h4
      go_enter Try.func19, Try.ntmps19
      go_wp2
      all_goals try (go_region)
      all_goals try go_wp2
      all_goals exact bodyPost_ret (v := vC ⟨k, d, sh, 0, 0, emp⟩) (by simp [results, Try.results19, go_sem]) rfl ⟨rfl, by first | exact below3 _ _ _ _ | exact (below3 _ _ _ _).drew⟩
    · by_cases h5 : k = 5
      · rw [if_neg h3]
        rw [if_neg h4]
        rw [if_pos h5]
        have t3 : (k == 3) = false := by rw [beq_eq_false_iff_ne]; omega
        have t4 : (k == 4) = false := by rw [beq_eq_false_iff_ne]; omega
        have t5 : (k == 5) = true := by rw [beq_iff_eq]; omega
        have t6 : (k == 6) = false := by rw [beq_eq_false_iff_ne]; omega
        clear hb h3 h4 h5
        go_enter Try.func19, Try.ntmps19
        go_wp2
        all_goals try (go_region)
        all_goals try go_wp2
        all_goals exact bodyPost_ret (v := vC ⟨k, d, sh, nd, 0, emp⟩) (by simp [results, Try.results19, go_sem]) rfl ⟨rfl, by first | exact below3 _ _ _ _ | exact (below3 _ _ _ _).drew⟩
      · by_cases h6 : k = 6
        · rw [if_neg h3]
          rw [if_neg h4]
          rw [if_neg h5]
          rw [if_pos h6]
          have t3 : (k == 3) = false := by rw [beq_eq_false_iff_ne]; omega
          have t4 : (k == 4) = false := by rw [beq_eq_false_iff_ne]; omega
          have t5 : (k == 5) = false := by rw [beq_eq_false_iff_ne]; omega
          have t6 : (k == 6) = true := by rw [beq_iff_eq]; omega
          clear hb h3 h4 h5 h6
          go_enter Try.func19, Try.ntmps19
          go_wp2
          all_goals try (go_region)
          all_goals try go_wp2
          all_goals exact bodyPost_ret (v := vC ⟨k, d, 0, nd, md, emp⟩) (by simp [results, Try.results19, go_sem]) rfl ⟨rfl, by first | exact below3 _ _ _ _ | exact (below3 _ _ _ _).drew⟩
        · rw [if_neg h3]
          rw [if_neg h4]
          rw [if_neg h5]
          rw [if_neg h6]
          have t3 : (k == 3) = false := by rw [beq_eq_false_iff_ne]; omega
          have t4 : (k == 4) = false := by rw [beq_eq_false_iff_ne]; omega
          have t5 : (k == 5) = false := by rw [beq_eq_false_iff_ne]; omega
          have t6 : (k == 6) = false := by rw [beq_eq_false_iff_ne]; omega
          clear hb h3 h4 h5 h6
          go_enter Try.func19, Try.ntmps19
          go_wp2
          all_goals try (go_region)
          all_goals try go_wp2
          all_goals exact bodyPost_ret (v := vC ⟨k, d, 0, 0, 0, emp⟩) (by simp [results, Try.results19, go_sem]) rfl ⟨rfl, by first | exact below3 _ _ _ _ | exact (below3 _ _ _ _).drew⟩
set_option maxHeartbeats 4000000 in
theorem rplain_any (c : Cm) (w : World) : Calls Try.prog 20 #[vC c] w fun e w' => e = .returned (vC (plC c)) ∧ Below w.heap.size w w' := by
  obtain ⟨k, d, sh, nd, md, key⟩ := c
  have hb := Lib.hid (fun (v2 v3 : World) (h2 : Below w.heap.size w v2) => h2)
  unfold plC
  by_cases h3 : k = 3
  · rw [if_pos h3]
    have t3 : (k == 3) = true := by rw [beq_iff_eq]; omega
    have t4 : (k == 4) = false := by rw [beq_eq_false_iff_ne]; omega
    have t5 : (k == 5) = false := by rw [beq_eq_false_iff_ne]; omega
    have t6 : (k == 6) = false := by rw [beq_eq_false_iff_ne]; omega
    clear hb  h3
    go_enter Try.func20, Try.ntmps20
    go_wp2
    all_goals try (go_region)
    all_goals try go_wp2
    all_goals exact bodyPost_ret (v := vC ⟨k, d, sh, 0, 0, key⟩) (by simp [results, Try.results20, go_sem]) rfl ⟨rfl, by first | exact below3 _ _ _ _ | exact (below3 _ _ _ _).drew⟩
  · by_cases h4 : k = 4
    · rw [if_neg h3]
      rw [if_pos h4]
      have t3 : (k == 3) = false := by rw [beq_eq_false_iff_ne]; omega
      have t4 : (k == 4) = true := by rw [beq_iff_eq]; omega
      have t5 : (k == 5) = false := by rw [beq_eq_false_iff_ne]; omega
      have t6 : (k == 6) = false := by rw [beq_eq_false_iff_ne]; omega
      clear hb h3 h4
      go_enter Try.func20, Try.ntmps20
      go_wp2
      all_goals try (go_region)
      all_goals try go_wp2
      all_goals exact bodyPost_ret (v := vC ⟨k, d, sh, 0, 0, emp⟩) (by simp [results, Try.results20, go_sem]) rfl ⟨rfl, by first | exact below3 _ _ _ _ | exact (below3 _ _ _ _).drew⟩
    · by_cases h5 : k = 5
      · rw [if_neg h3]
        rw [if_neg h4]
        rw [if_pos h5]
        have t3 : (k == 3) = false := by rw [beq_eq_false_iff_ne]; omega
        have t4 : (k == 4) = false := by rw [beq_eq_false_iff_ne]; omega
        have t5 : (k == 5) = true := by rw [beq_iff_eq]; omega
        have t6 : (k == 6) = false := by rw [beq_eq_false_iff_ne]; omega
        clear hb h3 h4 h5
        go_enter Try.func20, Try.ntmps20
        go_wp2
        all_goals try (go_region)
        all_goals try go_wp2
        all_goals exact bodyPost_ret (v := vC ⟨k, d, sh, nd, 0, emp⟩) (by simp [results, Try.results20, go_sem]) rfl ⟨rfl, by first | exact below3 _ _ _ _ | exact (below3 _ _ _ _).drew⟩
      · by_cases h6 : k = 6
        · rw [if_neg h3]
          rw [if_neg h4]
          rw [if_neg h5]
          rw [if_pos h6]
          have t3 : (k == 3) = false := by rw [beq_eq_false_iff_ne]; omega
          have t4 : (k == 4) = false := by rw [beq_eq_false_iff_ne]; omega
          have t5 : (k == 5) = false := by rw [beq_eq_false_iff_ne]; omega
          have t6 : (k == 6) = true := by rw [beq_iff_eq]; omega
          clear hb h3 h4 h5 h6
          go_enter Try.func20, Try.ntmps20
          go_wp2
          all_goals try (go_region)
          all_goals try go_wp2
          all_goals exact bodyPost_ret (v := vC ⟨k, d, 0, nd, md, emp⟩) (by simp [results, Try.results20, go_sem]) rfl ⟨rfl, by first | exact below3 _ _ _ _ | exact (below3 _ _ _ _).drew⟩
        · rw [if_neg h3]
          rw [if_neg h4]
          rw [if_neg h5]
          rw [if_neg h6]
          have t3 : (k == 3) = false := by rw [beq_eq_false_iff_ne]; omega
          have t4 : (k == 4) = false := by rw [beq_eq_false_iff_ne]; omega
          have t5 : (k == 5) = false := by rw [beq_eq_false_iff_ne]; omega
          have t6 : (k == 6) = false := by rw [beq_eq_false_iff_ne]; omega
          clear hb h3 h4 h5 h6
          go_enter Try.func20, Try.ntmps20
          go_wp2
          all_goals try (go_region)
          all_goals try go_wp2
          all_goals exact bodyPost_ret (v := vC ⟨k, d, 0, 0, 0, emp⟩) (by simp [results, Try.results20, go_sem]) rfl ⟨rfl, by first | exact below3 _ _ _ _ | exact (below3 _ _ _ _).drew⟩
theorem plC_kind (c : Cm) : (plC c).kind = c.kind ∧ (plC c).dc = c.dc := by
  unfold plC
  split
  · exact ⟨rfl, rfl⟩
  · split
    · exact ⟨rfl, rfl⟩
    · split
      · exact ⟨rfl, rfl⟩
      · split <;> exact ⟨rfl, rfl⟩
theorem kc_pl {c : Cm} (h : KC c) : KC (plC c) := by
  have z : Rg 0 := ⟨by omega, by omega⟩
  unfold plC
  split
  · exact ⟨h.kind, h.dc, h.shard, z, z⟩
  · split
    · exact ⟨h.kind, h.dc, h.shard, z, z⟩
    · split
      · exact ⟨h.kind, h.dc, h.shard, h.node, z⟩
      · split
        · exact ⟨h.kind, h.dc, z, h.node, h.mode⟩
        · exact ⟨h.kind, h.dc, z, z, z⟩
theorem rs_pl (m : M) (k : Int) (c : Cm) (h : 3 ≤ c.kind ∧ c.kind ≤ 5) : rsE m k (plC c) = rsE m k c ∧ rsM m k (plC c) = rsM m k c := by
  obtain ⟨kind, d, sh, nd, md, key⟩ := c
  simp only at h
  have : kind = 3 ∨ kind = 4 ∨ kind = 5 := by omega
  rcases this with rfl | rfl | rfl <;> exact ⟨rfl, rfl⟩
theorem sw_pl (s : Cf) (c : Cm) (h : c.kind = 6) : swE s (plC c) = swE s c ∧ swM s (plC c) = swM s c := by
  obtain ⟨kind, d, sh, nd, md, key⟩ := c
  simp only at h
  subst h
  exact ⟨rfl, rfl⟩
theorem ap_pl (s : Cf) (c : Cm) : apE s (plC c) = apE s c ∧ apM s (plC c) = apM s c := by
  obtain ⟨e1, e2⟩ := plC_kind c
  have ed : dcN (plC c) = dcN c := by unfold dcN; rw [e2]
  have hE : apE s (plC c) = apE s c := by
    unfold apE
    rw [e1, e2, ed]
    by_cases h6 : c.kind = 6
    · rw [(sw_pl s c h6).1, if_pos h6, if_pos h6]
    · by_cases h : 3 ≤ c.kind ∧ c.kind ≤ 5
      · rw [(rs_pl _ _ c h).1, if_neg h6, if_neg h6]
      · by_cases hk : 1 ≤ c.kind ∧ c.kind ≤ 6
        · have : c.kind = 1 ∨ c.kind = 2 := by omega
          rcases this with h1 | h2
          · simp only [h1, if_true]
          · simp only [h2, if_true]
        · rw [if_pos hk, if_pos hk]
  refine ⟨hE, ?_⟩
  unfold apM
  rw [hE]
  by_cases h0 : apE s c = 0
  · rw [if_pos h0, if_pos h0]
    unfold chM
    rw [e1, ed]
    by_cases h1 : c.kind = 1
    · rw [if_pos h1, if_pos h1]
    · by_cases h2 : c.kind = 2
      · rw [if_neg h1, if_neg h1, if_pos h2, if_pos h2]
      · rw [if_neg h1, if_neg h1, if_neg h2, if_neg h2]
        by_cases h6 : c.kind = 6
        · rw [if_pos h6, if_pos h6, (sw_pl s c h6).2]
        · rw [if_neg h6, if_neg h6]
          have h : 3 ≤ c.kind ∧ c.kind ≤ 5 := by
            by_cases hk : 1 ≤ c.kind ∧ c.kind ≤ 6
            · omega
            · unfold apE at h0; rw [if_pos hk] at h0; omega
          unfold shpM
          rw [(rs_pl _ _ c h).2]
  · rw [if_neg h0, if_neg h0]
end Go.Proofs.Ytpijljbkdfjhcaa.cfN
