/- The program's reader of messages by version 1. (geneld.py) -/
import Derived.Test.YtkbhmeajgmecoaaWirDh
import Derived.Deep.RegionLaw
namespace Go.Proofs.Ytkbhmeajgmecoaa.wirDi
open Go.ChangeShapes Go.WideShapes Go.ChangeAt Go.RowKit Go.Deep
open numM rowA byt numA numB numC numN numD numE wirM wirA wirL wirP wirQ wirR wirDa wirDb wirDc wirDd wirDe wirDf wirDg wirDh

theorem al0' (w : World) (o : Obj) : Below w.heap.size w (w.alloc o) := (Below.refl _ _).alloc (Nat.le_refl _) o
theorem own_apart {w : World} {b1 b2 n1 n2 s1 s2 : Nat} {t1 t2 : TypeId} {v1 v2 : Value} {x1 x2 : List Value} (h1 : w.ownsRow b1 t1 s1 v1 n1 x1) (h2 : w.ownsRow b2 t2 s2 v2 n2 x2) (hne : t1 ≠ t2) {k : Nat} (e1 : v1.ownBlock = some k) : v2.ownBlock ≠ some k := by
  intro e2
  rcases h1.2 with ⟨rfl, _⟩ | ⟨g, cap, cur, rfl, _, hg, _⟩
  · cases e1
  rcases h2.2 with ⟨rfl, _⟩ | ⟨g', cap', cur', rfl, _, hg', _⟩
  · cases e2
  have a1 : g = k := by simpa [Value.ownBlock] using e1
  have a2 : g' = k := by simpa [Value.ownBlock] using e2
  subst a1 a2
  rw [hg] at hg'
  simp at hg'
  exact hne hg'.2
theorem own_blk {w w' : World} {base n sz : Nat} {t : TypeId} {v : Value} {xs : List Value} (h : w.ownsRow base t sz v n xs) (e : ∀ k, v.ownBlock = some k → w'.heap[k]? = w.heap[k]?) : w'.ownsRow base t sz v n xs := by
  refine ⟨h.1, ?_⟩
  rcases h.2 with h | ⟨g, cap, cur, rfl, h1, h2, h3⟩
  · exact .inl h
  · exact .inr ⟨g, cap, cur, rfl, h1, (e g rfl).trans h2, h3⟩
theorem wide8_any {u : Nat} {l : List Nat} (w : World) (h : UAt w u l) : Calls Try.prog 63 #[.pointer (some ⟨u, 0, none⟩), .int .i64 8] w (Rd u vU w (rWide 8 l)) := wide_any 8 w h (by omega) (by omega)
section
variable {w wx wa w9 : World} {u rb mb : Nat} {m : Ms} {t : At} {l : List Nat}
theorem MI.below (h : MI w u rb mb wx m t l) (hu : u < mb) (hb : u < rb) (hB : Below wx.heap.size wx wa) : MI w u rb mb wa m t l := MI.read h hu hb (h.uu.below hB) (Gr.of_below hB)
/-- A version more. -/
theorem MI.addVer (h : MI w u rb mb wx m t l) (hu : u < mb) (hb : u < rb) (hr : rb < mb) (hw : w.heap.size ≤ mb) {A9 : Option Addr} {c9 : Nat} {x : Vr} (hB : Below wx.heap.size wx wa)
    (hr9 : w9.ownsRow (mb + 1) 51 6 (.slice A9 (m.vers.length + 1) c9) (m.vers.length + 1) ((m.vers.map fun x => (cv x).toList).flatten ++ (cv x).toList)) (hg9 : wa.grownBy w9 (Value.slice t.va m.vers.length t.vc).ownBlock) :
    w9.cell? ⟨mb, 6, none⟩ = some (.slice t.va m.vers.length t.vc) ∧ w9.frozen? ⟨mb, 6, none⟩ = false ∧ MI w u rb mb (w9.setCell ⟨mb, 6, none⟩ (.slice A9 (m.vers.length + 1) c9)) { m with vers := m.vers ++ [x] } { t with va := A9, vc := c9 } l := by
  have h2 := MI.below h hu hb hB
  have hlt := h2.mm.vers.lt
  have hrow := h2.mm.row.of_block (hg9.block mb h2.mm.row.lt (fun e => by have := (hlt mb e.symm).1; omega))
  have hvec := own_blk h2.mm.vec (fun k e => hg9.block k (h2.mm.vec.lt k e).2 (fun e2 => own_apart h2.mm.vec h2.mm.vers (by decide) e e2.symm))
  have hrr := h2.rr.of_block (hg9.block rb h2.rr.lt (fun e => by have := (hlt rb e.symm).1; omega))
  refine ⟨hrow.cell (i := 6) (by omega), hrow.frozen 6, ?_⟩
  have hs := row_set hrow rfl (show 6 < 14 by omega) (.slice A9 (m.vers.length + 1) c9)
  have hv9 : vRow (mb + 1) w9 (.slice A9 (m.vers ++ [x]).length c9) (m.vers ++ [x]) := by unfold vRow; rw [List.length_append, List.map_append, List.flatten_append]; simpa using hr9
  have hv10 := own_mb hv9 6 (.slice A9 (m.vers.length + 1) c9)
  exact ⟨⟨by simpa using hs, hv10, own_mb hvec 6 _⟩, row_put (p := ⟨mb, 6, none⟩) hrr (show rb ≠ mb by omega) _,
    (UAt.grown h2.uu hg9 (fun q e => by have := (hlt q e).1; omega)).put (p := ⟨mb, 6, none⟩) hu _, (Gr.grown h2.gg hg9 (fun q e => by have := (hlt q e).1; omega)).put (p := ⟨mb, 6, none⟩) hw _⟩
/-- A number more. -/
theorem MI.addNum (h : MI w u rb mb wx m t l) (hu : u < mb) (hb : u < rb) (hr : rb < mb) (hw : w.heap.size ≤ mb) {A9 : Option Addr} {c9 : Nat} {x : Nat} (hB : Below wx.heap.size wx wa)
    (hr9 : w9.ownsRow (mb + 1) 22 1 (.slice A9 (m.vec.length + 1) c9) (m.vec.length + 1) ((m.vec.map fun (n : Nat) => .int .u64 (n : Int)) ++ [.int .u64 x])) (hg9 : wa.grownBy w9 (Value.slice t.na m.vec.length t.nc).ownBlock) :
    w9.cell? ⟨mb, 7, none⟩ = some (.slice t.na m.vec.length t.nc) ∧ w9.frozen? ⟨mb, 7, none⟩ = false ∧ MI w u rb mb (w9.setCell ⟨mb, 7, none⟩ (.slice A9 (m.vec.length + 1) c9)) { m with vec := m.vec ++ [x] } { t with na := A9, nc := c9 } l := by
  have h2 := MI.below h hu hb hB
  have hlt := h2.mm.vec.lt
  have hrow := h2.mm.row.of_block (hg9.block mb h2.mm.row.lt (fun e => by have := (hlt mb e.symm).1; omega))
  have hvers := own_blk h2.mm.vers (fun k e => hg9.block k (h2.mm.vers.lt k e).2 (fun e2 => own_apart h2.mm.vers h2.mm.vec (by decide) e e2.symm))
  have hrr := h2.rr.of_block (hg9.block rb h2.rr.lt (fun e => by have := (hlt rb e.symm).1; omega))
  refine ⟨hrow.cell (i := 7) (by omega), hrow.frozen 7, ?_⟩
  have hs := row_set hrow rfl (show 7 < 14 by omega) (.slice A9 (m.vec.length + 1) c9)
  have hv9 : nRow (mb + 1) w9 (.slice A9 (m.vec ++ [x]).length c9) (m.vec ++ [x]) := by unfold nRow; rw [List.length_append, List.map_append]; exact hr9
  have hv10 := own_mb hv9 7 (.slice A9 (m.vec.length + 1) c9)
  exact ⟨⟨by simpa using hs, own_mb hvers 7 _, hv10⟩, row_put (p := ⟨mb, 7, none⟩) hrr (show rb ≠ mb by omega) _,
    (UAt.grown h2.uu hg9 (fun q e => by have := (hlt q e).1; omega)).put (p := ⟨mb, 7, none⟩) hu _, (Gr.grown h2.gg hg9 (fun q e => by have := (hlt q e).1; omega)).put (p := ⟨mb, 7, none⟩) hw _⟩
end

set_option maxRecDepth 100000 in
set_option maxHeartbeats 4000000 in
theorem relder_any {u : Nat} {l : List Nat} (w : World) (h : UAt w u l) : Calls Try.prog 37 #[.pointer (some ⟨u, 0, none⟩)] w (RdM u w (rElder l)) := by
  have hul := h.lt
  obtain ⟨ρ, hρ0⟩ : ∃ ρ, rElder l = ρ := ⟨_, rfl⟩
  rw [hρ0]
  have hρ := Lib.hid hρ0.symm
  clear hρ0
  unfold rElder at hρ
  obtain ⟨iv, hiv, vz0, vz1, vz2⟩ := info_parts infoV
  obtain ⟨i8, hi8, nz0, nz1, nz2⟩ := info_parts info8
  have hU0 := Lib.hid (h.alloc (.cells mz 28))
  have hG0 := Lib.hid ((Gr.refl u w).alloc (.cells mz 28))
  have hr0 := Lib.hid (row_new w mz 28)
  clear h
  go_enter Try.func37, Try.ntmps37
  go_wp2_with (fail)
  generalize hrb : w.heap.size = rb at *
  replace hrb := Lib.hid hrb
  generalize w.alloc (.cells mz 28) = W0 at *
  refine (kind_any W0 hU0.out).mono ?_
  rintro e w1 hh
  rcases hq : rKind l with k | ⟨kind, t1⟩
  · rw [hq] at hh
    obtain ⟨rfl, hg⟩ := hh
    exact ⟨rfl, rdm_err (hρ.out.trans (seq_err hq)) (hG0.out.trans hg)⟩
  rw [hq] at hh
  obtain ⟨rfl, hU1, hg1⟩ := hh
  replace hρ := Lib.hid (hρ.out.trans (seq_ok hq))
  have hr1 := row_gr hr0.out hg1 (show rb ≠ u by omega)
  have hrlt := hr1.lt
  unfold vI
  have hMI : Hid (MI w u rb w1.heap.size (w1.alloc (.cells #[.int .i64 kind, .int .u64 0, .int .u64 0, .int .u64 0, .string ⟨#[]⟩, .string ⟨#[]⟩, .slice none 0 0, .slice none 0 0, .int .i64 0, .int .i64 0, .int .i64 0, .int .i64 0, .int .i64 0, .string ⟨#[]⟩] 28)) ⟨kind, 0, 0, 0, wirR.mt, wirR.mt, [], [], Cm.nought⟩ T0 t1) := Lib.hid
    ⟨⟨row_new w1 (cm ⟨kind, 0, 0, 0, wirR.mt, wirR.mt, [], [], Cm.nought⟩ T0) 28, World.ownsRow_nil _ _ _ 6, World.ownsRow_nil _ _ _ 1⟩, hr1.of_block (Below.heap_alloc _ _ _ hrlt), hU1.alloc _, (hG0.out.trans hg1).alloc _⟩
  have hmw : Hid (w.heap.size ≤ w1.heap.size) := Lib.hid (hG0.out.trans hg1).size
  clear hq hU1 hg1 hU0 hG0 hr0 hr1
  go_wp2_with (fail)
  generalize w1.alloc (.cells #[.int .i64 kind, .int .u64 0, .int .u64 0, .int .u64 0, .string ⟨#[]⟩, .string ⟨#[]⟩, .slice none 0 0, .slice none 0 0, .int .i64 0, .int .i64 0, .int .i64 0, .int .i64 0, .int .i64 0, .string ⟨#[]⟩] 28) = W1 at *
  have hmb : u < w1.heap.size := by omega
  have hrm : rb < w1.heap.size := hrlt
  clear hrlt
  generalize hmbe : w1.heap.size = mb at *
  clear hmbe
  refine (wide_any 8 _ hMI.out.uu (by omega) (by omega)).mono ?_
  rintro e w2 hh
  rcases hq : (rWide 8) t1 with k | ⟨x0, t2⟩
  · rw [hq] at hh
    obtain ⟨rfl, hg⟩ := hh
    exact ⟨rfl, rdm_err (hρ.out.trans (seq_err hq)) (hMI.out.gg.trans hg)⟩
  rw [hq] at hh
  obtain ⟨rfl, hU, hg⟩ := hh
  replace hρ := Lib.hid (hρ.out.trans (seq_ok hq))
  have hM2 := hMI.out.read hmb hul hU hg
  have q : w2.cell? ⟨mb, 1, none⟩ = some (.int .u64 0) := hM2.cell 1 (by omega)
  have qf := hM2.froz 1
  replace hMI := Lib.hid (hM2.put hmb (show rb ≠ mb by omega) (by rw [hrb.out]; omega) (hM2.mm.set (m' := ⟨kind, x0, 0, 0, wirR.mt, wirR.mt, [], [], Cm.nought⟩) (j := 1) (by omega) (.int .u64 x0) rfl rfl rfl))
  clear hM2 hU hg hq
  unfold vU
  go_wp2_with (fail)
  clear q qf
  refine (wide_any 8 _ hMI.out.uu (by omega) (by omega)).mono ?_
  rintro e w3 hh
  rcases hq : (rWide 8) t2 with k | ⟨x1, t3⟩
  · rw [hq] at hh
    obtain ⟨rfl, hg⟩ := hh
    exact ⟨rfl, rdm_err (hρ.out.trans (seq_err hq)) (hMI.out.gg.trans hg)⟩
  rw [hq] at hh
  obtain ⟨rfl, hU, hg⟩ := hh
  replace hρ := Lib.hid (hρ.out.trans (seq_ok hq))
  have hM2 := hMI.out.read hmb hul hU hg
  have q : w3.cell? ⟨mb, 2, none⟩ = some (.int .u64 0) := hM2.cell 2 (by omega)
  have qf := hM2.froz 2
  replace hMI := Lib.hid (hM2.put hmb (show rb ≠ mb by omega) (by rw [hrb.out]; omega) (hM2.mm.set (m' := ⟨kind, x0, x1, 0, wirR.mt, wirR.mt, [], [], Cm.nought⟩) (j := 2) (by omega) (.int .u64 x1) rfl rfl rfl))
  clear hM2 hU hg hq
  unfold vU
  go_wp2_with (fail)
  clear q qf
  refine (wide_any 8 _ hMI.out.uu (by omega) (by omega)).mono ?_
  rintro e w4 hh
  rcases hq : (rWide 8) t3 with k | ⟨x2, t4⟩
  · rw [hq] at hh
    obtain ⟨rfl, hg⟩ := hh
    exact ⟨rfl, rdm_err (hρ.out.trans (seq_err hq)) (hMI.out.gg.trans hg)⟩
  rw [hq] at hh
  obtain ⟨rfl, hU, hg⟩ := hh
  replace hρ := Lib.hid (hρ.out.trans (seq_ok hq))
  have hM2 := hMI.out.read hmb hul hU hg
  have q : w4.cell? ⟨mb, 3, none⟩ = some (.int .u64 0) := hM2.cell 3 (by omega)
  have qf := hM2.froz 3
  replace hMI := Lib.hid (hM2.put hmb (show rb ≠ mb by omega) (by rw [hrb.out]; omega) (hM2.mm.set (m' := ⟨kind, x0, x1, x2, wirR.mt, wirR.mt, [], [], Cm.nought⟩) (j := 3) (by omega) (.int .u64 x2) rfl rfl rfl))
  clear hM2 hU hg hq
  unfold vU
  go_wp2_with (fail)
  clear q qf
  refine (etext_any 16 _ hMI.out.uu (by omega)).mono ?_
  rintro e w5 hh
  rcases hq : (rTx (rWide 1) 16) t4 with k | ⟨x3, t5⟩
  · rw [hq] at hh
    obtain ⟨rfl, hg⟩ := hh
    exact ⟨rfl, rdm_err (hρ.out.trans (seq_err hq)) (hMI.out.gg.trans hg)⟩
  rw [hq] at hh
  obtain ⟨rfl, hU, hg⟩ := hh
  replace hρ := Lib.hid (hρ.out.trans (seq_ok hq))
  have hM2 := hMI.out.read hmb hul hU hg
  have q : w5.cell? ⟨mb, 4, none⟩ = some (.string ⟨#[]⟩) := hM2.cell 4 (by omega)
  have qf := hM2.froz 4
  replace hMI := Lib.hid (hM2.put hmb (show rb ≠ mb by omega) (by rw [hrb.out]; omega) (hM2.mm.set (m' := ⟨kind, x0, x1, x2, x3, wirR.mt, [], [], Cm.nought⟩) (j := 4) (by omega) (.string x3) rfl rfl rfl))
  clear hM2 hU hg hq
  unfold vS
  go_wp2_with (fail)
  clear q qf
  refine (etext_any 16 _ hMI.out.uu (by omega)).mono ?_
  rintro e w6 hh
  rcases hq : (rTx (rWide 1) 16) t5 with k | ⟨x4, t6⟩
  · rw [hq] at hh
    obtain ⟨rfl, hg⟩ := hh
    exact ⟨rfl, rdm_err (hρ.out.trans (seq_err hq)) (hMI.out.gg.trans hg)⟩
  rw [hq] at hh
  obtain ⟨rfl, hU, hg⟩ := hh
  replace hρ := Lib.hid (hρ.out.trans (seq_ok hq))
  have hM2 := hMI.out.read hmb hul hU hg
  have q : w6.cell? ⟨mb, 5, none⟩ = some (.string ⟨#[]⟩) := hM2.cell 5 (by omega)
  have qf := hM2.froz 5
  replace hMI := Lib.hid (hM2.put hmb (show rb ≠ mb by omega) (by rw [hrb.out]; omega) (hM2.mm.set (m' := ⟨kind, x0, x1, x2, x3, x4, [], [], Cm.nought⟩) (j := 5) (by omega) (.string x4) rfl rfl rfl))
  clear hM2 hU hg hq
  unfold vS
  go_wp2_with (fail)
  clear q qf
  refine (wide_any 2 _ hMI.out.uu (by omega) (by omega)).mono ?_
  rintro e w7 hh
  rcases lim_cases (r := rWide 2) 4096 6 t6 with ⟨k, e1, e2⟩ | ⟨n, t7, e1, e3, e2⟩ | ⟨n, t7, e1, e3, e2⟩
  · rw [e1] at hh
    obtain ⟨rfl, hg⟩ := hh
    exact ⟨rfl, rdm_err (hρ.out.trans (seq2_err e2)) (hMI.out.gg.trans hg)⟩
  · rw [e1] at hh
    obtain ⟨rfl, hU, hg⟩ := hh
    have hE := Lib.hid (rdm_err (hρ.out.trans (seq2_err e2)) (hMI.out.gg.trans hg))
    clear hU hg hρ e1 e2 hMI
    unfold vU
    go_wp2_with (fail)
    refine (most_no n 4096 6 w7 e3 (by omega)).mono ?_
    rintro e w9 ⟨rfl, rfl⟩
    exact ⟨rfl, hE.out⟩
  rw [e1] at hh
  obtain ⟨rfl, hU, hg⟩ := hh
  replace hρ := Lib.hid (hρ.out.trans (seq2_ok e2))
  replace hMI := Lib.hid (hMI.out.read hmb hul hU hg)
  have hn : n ≤ 4096 := by omega
  unfold vU
  clear hU hg e1 e2
  go_wp2_with (fail)
  refine (most_ok n 4096 6 w7 e3 (by omega)).mono ?_
  rintro e w9 ⟨rfl, rfl⟩
  clear e3
  go_wp2
  go_loopw [25] (fun i wr => ∃ (k : Nat) (xs : List Vr) (t : List Nat) (A : Option Addr) (c : Nat), k ≤ n ∧ i = .int .i64 k ∧ xs.length = k ∧ Hid (rRow (fun _ => 0) (fun _ => rVer1) 0 n t7 = ((rRow (fun _ => 0) (fun _ => rVer1) 0 (n - k)).seq fun ys => R.ret (xs ++ ys)) t) ∧ Hid (MI w u rb mb wr ⟨kind, x0, x1, x2, x3, x4, xs, [], Cm.nought⟩ ⟨A, c, none, 0⟩ t)) (fun i _ => n - (intOf i).toNat)
  case atStart => exact ⟨0, [], t7, none, 0, by omega, rfl, rfl, Lib.hid row_start, hMI⟩
  case round =>
    clear hMI
    obtain ⟨k, xs, t, A, c, hk, rfl, hxl, hI, hMI⟩ := hrel
    have hxb : xs.length ≤ n := by omega
    replace hxl := Lib.hid hxl
    by_cases hlt : k < n
    · obtain ⟨m, hm⟩ : ∃ m, n - k = m + 1 := ⟨n - k - 1, by omega⟩
      rw [hm] at hI
      have hcase : Hid ((∃ kk, (rVer1) t = .error kk) ∨ ∃ x t', (rVer1) t = .ok (x, t')) := Lib.hid (by
        rcases hq : (rVer1) t with kk | ⟨x, t'⟩
        · exact .inl ⟨kk, rfl⟩
        · exact .inr ⟨x, t', rfl⟩)
      have hMd : Hid (MI w u rb mb wr.drew ⟨kind, x0, x1, x2, x3, x4, xs, [], Cm.nought⟩ ⟨A, c, none, 0⟩ t) := Lib.hid (MI.below hMI.out hmb hul ⟨rfl, rfl, rfl, Nat.le_refl _, fun _ _ => rfl⟩)
      have z6 : wr.cell? ⟨mb, 6, none⟩ = some (.slice A xs.length c) := hMI.out.cell 6 (by omega)
      have lmb : mb < wr.heap.size := hMI.out.mm.row.lt
      have hE := Lib.hid (fun kk (hq : (rVer1) t = .error kk) w2 (hg : Gr u wr.drew w2) => rdm_err (hρ.out.trans (seq_err (hI.out.trans (row_stop hq)))) (hMd.out.gg.trans hg))
      have hN := Lib.hid (fun x t' (hq : (rVer1) t = .ok (x, t')) => hI.out.trans (row_step hq))
      clear hI hMI
      go_wp2
      go_region_law (first
        | (go_simp; go_at_call 66; (with_reducible refine (ever_any _ hMd.out.uu).mono ?_); rintro e w2 hh; rcases hcase.out with ⟨kk, hq⟩ | ⟨x, t', hq⟩; exact (by rw [hq] at hh; obtain ⟨rfl, hg⟩ := hh; exact ⟨rfl, hE.out kk hq _ hg⟩); rw [hq] at hh; obtain ⟨rfl, hU2, hg2⟩ := hh; unfold vV; have hM2 := Lib.hid (hMd.out.read hmb hul hU2 hg2); have z62 : w2.cell? ⟨mb, 6, none⟩ = some (.slice A xs.length c) := hM2.out.cell 6 (by omega); have lmb2 : mb < w2.heap.size := hM2.out.mm.row.lt; have hO2 := Lib.hid (show vRow (mb + 1) w2 (.slice A xs.length c) xs from hM2.out.mm.vers); have hN2 := Lib.hid (hN.out x t' hq); clear hU2 hg2 hq)
        | (refine step_gen rfl (.tmp 28) (.tmp 31) 23 rfl (mb + 1) 51 iv _ 6 64 Try.underlying23 hiv vz0 vz1 vz2 rfl (by decide) (.slice A xs.length c) xs.length _ (by rfl) (hO2.out.alloc _) (some ⟨_, 0, none⟩) 1 1 (cv x).toList (by rfl) rfl (stand_new _ _ _ _) (cv_one x) (by unfold maxLen; omega) (by omega) (Nat.le_trans lmb2 (by simp)) ?_; intro A9 c9 w9 hr9 hg9 hat9; obtain ⟨q6, q7, hM9⟩ := MI.addVer hM2.out hmb hul hrm hmw.out (al0' _ _) hr9 hg9; replace hM9 := Lib.hid hM9; have lmb9 := hM9.out.mm.row.lt; clear hr9 hg9 hat9))
      all_goals
        clear hM2 hO2 hMd hE hN hcase
        go_wp2
        go_roundw
        case rel => exact ⟨k + 1, xs ++ [x], t', A9, c9, by omega, by go_num, by rw [List.length_append, hxl.out]; rfl, by rw [show n - (k + 1) = m by omega]; exact hN2, hM9⟩
        case measure => simp [intOf]; omega
    · obtain rfl : k = n := by omega
      rw [Nat.sub_self] at hI
      replace hρ := Lib.hid (hρ.out.trans (seq_ok (hI.out.trans row_done)))
      clear hI
      generalize xs = VV at *
      generalize A = AV at *
      generalize c = cV at *
      clear hxl hxb hlt hk
      go_wp2_with (fail)
      refine (wide_any 1 _ hMI.out.uu (by omega) (by omega)).mono ?_
      rintro e w8 hh
      rcases lim_cases (r := rWide 1) 32 6 t with ⟨k, e1, e2⟩ | ⟨n2, t8, e1, e3, e2⟩ | ⟨n2, t8, e1, e3, e2⟩
      · rw [e1] at hh
        obtain ⟨rfl, hg⟩ := hh
        exact ⟨rfl, rdm_err (hρ.out.trans (seq2_err e2)) (hMI.out.gg.trans hg)⟩
      · rw [e1] at hh
        obtain ⟨rfl, hU, hg⟩ := hh
        have hE := Lib.hid (rdm_err (hρ.out.trans (seq2_err e2)) (hMI.out.gg.trans hg))
        clear hU hg hρ e1 e2 hMI
        unfold vU
        go_wp2_with (fail)
        refine (most_no n2 32 6 w8 e3 (by omega)).mono ?_
        rintro e w9 ⟨rfl, rfl⟩
        exact ⟨rfl, hE.out⟩
      rw [e1] at hh
      obtain ⟨rfl, hU, hg⟩ := hh
      replace hρ := Lib.hid (hρ.out.trans (seq2_ok e2))
      replace hMI := Lib.hid (hMI.out.read hmb hul hU hg)
      have hn : n2 ≤ 32 := by omega
      unfold vU
      clear hU hg e1 e2
      go_wp2_with (fail)
      refine (most_ok n2 32 6 w8 e3 (by omega)).mono ?_
      rintro e w9 ⟨rfl, rfl⟩
      clear e3
      go_wp2
      go_loopw [38] (fun i wr => ∃ (k : Nat) (xs : List Nat) (t : List Nat) (A : Option Addr) (c : Nat), k ≤ n2 ∧ i = .int .i64 k ∧ xs.length = k ∧ Hid (rRow (fun _ => 0) (fun _ => rWide 8) 0 n2 t8 = ((rRow (fun _ => 0) (fun _ => rWide 8) 0 (n2 - k)).seq fun ys => R.ret (xs ++ ys)) t) ∧ Hid (MI w u rb mb wr ⟨kind, x0, x1, x2, x3, x4, VV, xs, Cm.nought⟩ ⟨AV, cV, A, c⟩ t)) (fun i _ => n2 - (intOf i).toNat)
      case atStart => exact ⟨0, [], t8, none, 0, by omega, rfl, rfl, Lib.hid row_start, hMI⟩
      case round =>
        clear hMI
        obtain ⟨k, xs, t, A, c, hk, rfl, hxl, hI, hMI⟩ := hrel
        have hxb : xs.length ≤ n2 := by omega
        replace hxl := Lib.hid hxl
        by_cases hlt : k < n2
        · obtain ⟨m, hm⟩ : ∃ m, n2 - k = m + 1 := ⟨n2 - k - 1, by omega⟩
          rw [hm] at hI
          have hcase : Hid ((∃ kk, (rWide 8) t = .error kk) ∨ ∃ x t', (rWide 8) t = .ok (x, t')) := Lib.hid (by
            rcases hq : (rWide 8) t with kk | ⟨x, t'⟩
            · exact .inl ⟨kk, rfl⟩
            · exact .inr ⟨x, t', rfl⟩)
          have hMd : Hid (MI w u rb mb wr.drew ⟨kind, x0, x1, x2, x3, x4, VV, xs, Cm.nought⟩ ⟨AV, cV, A, c⟩ t) := Lib.hid (MI.below hMI.out hmb hul ⟨rfl, rfl, rfl, Nat.le_refl _, fun _ _ => rfl⟩)
          have z6 : wr.cell? ⟨mb, 7, none⟩ = some (.slice A xs.length c) := hMI.out.cell 7 (by omega)
          have lmb : mb < wr.heap.size := hMI.out.mm.row.lt
          have hE := Lib.hid (fun kk (hq : (rWide 8) t = .error kk) w2 (hg : Gr u wr.drew w2) => rdm_err (hρ.out.trans (seq_err (hI.out.trans (row_stop hq)))) (hMd.out.gg.trans hg))
          have hN := Lib.hid (fun x t' (hq : (rWide 8) t = .ok (x, t')) => hI.out.trans (row_step hq))
          clear hI hMI
          go_wp2
          go_region_law (first
            | (go_simp; go_at_call 63; (with_reducible refine (wide8_any _ hMd.out.uu).mono ?_); rintro e w2 hh; rcases hcase.out with ⟨kk, hq⟩ | ⟨x, t', hq⟩; exact (by rw [hq] at hh; obtain ⟨rfl, hg⟩ := hh; exact ⟨rfl, hE.out kk hq _ hg⟩); rw [hq] at hh; obtain ⟨rfl, hU2, hg2⟩ := hh; unfold vU; have hM2 := Lib.hid (hMd.out.read hmb hul hU2 hg2); have z62 : w2.cell? ⟨mb, 7, none⟩ = some (.slice A xs.length c) := hM2.out.cell 7 (by omega); have lmb2 : mb < w2.heap.size := hM2.out.mm.row.lt; have hO2 := Lib.hid (show nRow (mb + 1) w2 (.slice A xs.length c) xs from hM2.out.mm.vec); have hN2 := Lib.hid (hN.out x t' hq); clear hU2 hg2 hq)
            | (refine step_gen rfl (.tmp 41) (.tmp 44) 24 rfl (mb + 1) 22 i8 _ 1 8 Try.underlying24 hi8 nz0 nz1 nz2 rfl (by decide) (.slice A xs.length c) xs.length _ (by rfl) (hO2.out.alloc _) (some ⟨_, 0, none⟩) 1 1 [.int .u64 x] (by rfl) rfl (stand_new _ _ _ _) (by intro u hu; rw [List.mem_singleton.1 hu]; rfl) (by unfold maxLen; omega) (by omega) (Nat.le_trans lmb2 (by simp)) ?_; intro A9 c9 w9 hr9 hg9 hat9; obtain ⟨q6, q7, hM9⟩ := MI.addNum hM2.out hmb hul hrm hmw.out (al0' _ _) hr9 hg9; replace hM9 := Lib.hid hM9; have lmb9 := hM9.out.mm.row.lt; clear hr9 hg9 hat9))
          all_goals
            clear hM2 hO2 hMd hE hN hcase
            go_wp2
            go_roundw
            case rel => exact ⟨k + 1, xs ++ [x], t', A9, c9, by omega, by go_num, by rw [List.length_append, hxl.out]; rfl, by rw [show n2 - (k + 1) = m by omega]; exact hN2, hM9⟩
            case measure => simp [intOf]; omega
        · obtain rfl : k = n2 := by omega
          rw [Nat.sub_self] at hI
          replace hρ := Lib.hid (hρ.out.trans (seq_ok (hI.out.trans row_done)))
          clear hI
          go_wp2_with (fail)
          refine (ecmd_any _ hMI.out.uu).mono ?_
          rintro e w10 hh
          rcases hq : (rCmd rNum1 (rTx (rWide 1) 16)) t with k | ⟨x7, t9⟩
          · rw [hq] at hh
            obtain ⟨rfl, hg⟩ := hh
            exact ⟨rfl, rdm_err (hρ.out.trans (seq_err hq)) (hMI.out.gg.trans hg)⟩
          rw [hq] at hh
          obtain ⟨rfl, hU, hg⟩ := hh
          replace hρ := Lib.hid (hρ.out.trans (seq_ok hq))
          have hM2 := hMI.out.read hmb hul hU hg
          have q0 : w10.cell? ⟨mb, 8, none⟩ = some (.int .i64 0) := hM2.cell 8 (by omega)
          have qf0 := hM2.froz 8
          have q1 : w10.cell? ⟨mb, 9, none⟩ = some (.int .i64 0) := hM2.cell 9 (by omega)
          have qf1 := hM2.froz 9
          have q2 : w10.cell? ⟨mb, 10, none⟩ = some (.int .i64 0) := hM2.cell 10 (by omega)
          have qf2 := hM2.froz 10
          have q3 : w10.cell? ⟨mb, 11, none⟩ = some (.int .i64 0) := hM2.cell 11 (by omega)
          have qf3 := hM2.froz 11
          have q4 : w10.cell? ⟨mb, 12, none⟩ = some (.int .i64 0) := hM2.cell 12 (by omega)
          have qf4 := hM2.froz 12
          have q5 : w10.cell? ⟨mb, 13, none⟩ = some (.string ⟨#[]⟩) := hM2.cell 13 (by omega)
          have qf5 := hM2.froz 13
          have z0 : w10.cell? ⟨mb, 0, none⟩ = some (.int .i64 kind) := hM2.cell 0 (by omega)
          have z1 : w10.cell? ⟨mb, 1, none⟩ = some (.int .u64 x0) := hM2.cell 1 (by omega)
          have z2 : w10.cell? ⟨mb, 2, none⟩ = some (.int .u64 x1) := hM2.cell 2 (by omega)
          have z3 : w10.cell? ⟨mb, 3, none⟩ = some (.int .u64 x2) := hM2.cell 3 (by omega)
          have z4 : w10.cell? ⟨mb, 4, none⟩ = some (.string x3) := hM2.cell 4 (by omega)
          have z5 : w10.cell? ⟨mb, 5, none⟩ = some (.string x4) := hM2.cell 5 (by omega)
          have z6 : w10.cell? ⟨mb, 6, none⟩ = some (.slice AV VV.length cV) := hM2.cell 6 (by omega)
          have z7 : w10.cell? ⟨mb, 7, none⟩ = some (.slice A xs.length c) := hM2.cell 7 (by omega)
          have y0 : w10.cell? ⟨rb, 0, none⟩ = some (.int .i64 0) := hM2.rcell 0 (by omega)
          have yf0 := hM2.rfroz 0
          have y1 : w10.cell? ⟨rb, 1, none⟩ = some (.int .u64 0) := hM2.rcell 1 (by omega)
          have yf1 := hM2.rfroz 1
          have y2 : w10.cell? ⟨rb, 2, none⟩ = some (.int .u64 0) := hM2.rcell 2 (by omega)
          have yf2 := hM2.rfroz 2
          have y3 : w10.cell? ⟨rb, 3, none⟩ = some (.int .u64 0) := hM2.rcell 3 (by omega)
          have yf3 := hM2.rfroz 3
          have y4 : w10.cell? ⟨rb, 4, none⟩ = some (.string ⟨#[]⟩) := hM2.rcell 4 (by omega)
          have yf4 := hM2.rfroz 4
          have y5 : w10.cell? ⟨rb, 5, none⟩ = some (.string ⟨#[]⟩) := hM2.rcell 5 (by omega)
          have yf5 := hM2.rfroz 5
          have y6 : w10.cell? ⟨rb, 6, none⟩ = some (.slice none 0 0) := hM2.rcell 6 (by omega)
          have yf6 := hM2.rfroz 6
          have y7 : w10.cell? ⟨rb, 7, none⟩ = some (.slice none 0 0) := hM2.rcell 7 (by omega)
          have yf7 := hM2.rfroz 7
          have y8 : w10.cell? ⟨rb, 8, none⟩ = some (.int .i64 0) := hM2.rcell 8 (by omega)
          have yf8 := hM2.rfroz 8
          have y9 : w10.cell? ⟨rb, 9, none⟩ = some (.int .i64 0) := hM2.rcell 9 (by omega)
          have yf9 := hM2.rfroz 9
          have y10 : w10.cell? ⟨rb, 10, none⟩ = some (.int .i64 0) := hM2.rcell 10 (by omega)
          have yf10 := hM2.rfroz 10
          have y11 : w10.cell? ⟨rb, 11, none⟩ = some (.int .i64 0) := hM2.rcell 11 (by omega)
          have yf11 := hM2.rfroz 11
          have y12 : w10.cell? ⟨rb, 12, none⟩ = some (.int .i64 0) := hM2.rcell 12 (by omega)
          have yf12 := hM2.rfroz 12
          have y13 : w10.cell? ⟨rb, 13, none⟩ = some (.string ⟨#[]⟩) := hM2.rcell 13 (by omega)
          have yf13 := hM2.rfroz 13
          have hM3 := hM2.cmd hmb (show rb ≠ mb by omega) hmw.out x7
          have hD := Lib.hid (hM3.done hul hrm (by rw [hrb.out]; omega) (cm ⟨kind, x0, x1, x2, x3, x4, VV, xs, x7⟩ ⟨AV, cV, A, c⟩) 14)
          clear hM2 hM3 hU hg hq hMI
          unfold vC
          go_wp2
          refine bodyPost_ret (v := .agg (cm ⟨kind, x0, x1, x2, x3, x4, VV, xs, x7⟩ ⟨AV, cV, A, c⟩)) ?_ rfl (rdm_ok hρ.out hD.out.1 hD.out.2.1 hD.out.2.2.1 hD.out.2.2.2.1)
          simp [results, Try.results37, go_sem, y0, y1, y2, y3, y4, y5, y6, y7, y8, y9, y10, y11, y12, y13]
end Go.Proofs.Ytkbhmeajgmecoaa.wirDi
