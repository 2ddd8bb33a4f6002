/- How a message that comes in is opened. -/
import Derived.Test.YtkbhmeajgmecoaaWirA
import Derived.ChangeArms
import Derived.Deep.Fields
import Derived.Deep.Slices
import Derived.SizedLaws
import Derived.Lib.SmallJoins
namespace Go.Proofs.Ytkbhmeajgmecoaa.wirU
open Go.ChangeShapes Go.WideShapes Go.ChangeAt Go.RowKit Go.Deep Go.Joins
open numM numN rowA byt numA numB numC numD numE wirM wirA

theorem ver_one : oneCellFields Try.prog (match Try.prog.underlying 51 with | some (.struct fs) => fs | _ => #[]) = true := by kernel_rfl
theorem ver_cells : Try.prog.cellsOf 51 = 6 := by kernel_rfl
theorem cmd_one : oneCellFields Try.prog (match Try.prog.underlying 26 with | some (.struct fs) => fs | _ => #[]) = true := by kernel_rfl
theorem cmd_cells : Try.prog.cellsOf 26 = 6 := by kernel_rfl
theorem msg_cells : Try.prog.cellsOf 28 = 14 := by kernel_rfl

theorem one_int : Try.prog.cellsOf 3 = 1 := by kernel_rfl
theorem one_uint64 : Try.prog.cellsOf 22 = 1 := by kernel_rfl
theorem one_string : Try.prog.cellsOf 9 = 1 := by kernel_rfl
theorem one_vers : Try.prog.cellsOf 23 = 1 := by kernel_rfl
theorem one_nums : Try.prog.cellsOf 24 = 1 := by kernel_rfl
/-- all weights keep to what can be held -/
def Kept (l : List Nat) : Prop := ∀ z ∈ l, z ≤ 140737488351232

theorem str_of {H : Type} {s : ByteArray} {T : TypeId} (h : Kept ((DataW.lit (.string s.data.toList) : DataW H).weights Try.prog T)) : s.size ≤ 140737488351232 := by
  have := h s.data.toList.length (by simp [DataW.weights])
  simpa using this

theorem nat_of {x : Int} (h : (Lit.int .u64 x).wf = true) : ∃ n : Nat, x = n ∧ n < 18446744073709551616 := by
  have := bounds_u64 h
  exact ⟨x.toNat, by omega, by omega⟩

set_option maxRecDepth 100000 in
/-- Six cells that read as a version. -/
theorem elem_ver {H : Type} {enc : TypeId × Value → H} {W : World} {base n : Nat} {cs : List Value} {x : DataW H × List MemPlace} (h : DataW.trod enc Try.prog W base (fun _ => true) true n 51 cs = some x) :
    ∃ v : Vr, cs = (cv v).toList ∧ (Kept (x.1.weights Try.prog 51) → v.fits) := by
  obtain ⟨xs, m, _, hx, hcl, hlen, hg⟩ := DataW.trod_struct Try.underlying51 h
  have hone := hone_of ver_one
  simp only [Try.underlying51] at hone
  rw [ver_cells] at hcl
  match cs, hcl with
  | [c0, c1, c2, c3, c4, c5], _ =>
    match xs, hlen with
    | [y0, y1, y2, y3, y4, y5], _ =>
      obtain ⟨o0, k0⟩ := hone 0 _ rfl
      obtain ⟨o1, k1⟩ := hone 1 _ rfl
      obtain ⟨o2, k2⟩ := hone 2 _ rfl
      obtain ⟨o3, k3⟩ := hone 3 _ rfl
      obtain ⟨o4, k4⟩ := hone 4 _ rfl
      obtain ⟨o5, k5⟩ := hone 5 _ rfl
      have g0 := hg 0 _ rfl
      have g1 := hg 1 _ rfl
      have g2 := hg 2 _ rfl
      have g3 := hg 3 _ rfl
      have g4 := hg 4 _ rfl
      have g5 := hg 5 _ rfl
      rw [o0, k0] at g0
      rw [o1, k1] at g1
      rw [o2, k2] at g2
      rw [o3, k3] at g3
      rw [o4, k4] at g4
      rw [o5, k5] at g5
      change DataW.trod enc Try.prog W base _ _ m 9 [c0] = some y0 at g0
      change DataW.trod enc Try.prog W base _ _ m 9 [c1] = some y1 at g1
      change DataW.trod enc Try.prog W base _ _ m 4 [c2] = some y2 at g2
      change DataW.trod enc Try.prog W base _ _ m 22 [c3] = some y3 at g3
      change DataW.trod enc Try.prog W base _ _ m 3 [c4] = some y4 at g4
      change DataW.trod enc Try.prog W base _ _ m 3 [c5] = some y5 at g5
      obtain ⟨s0, e0, u0, _⟩ := DataW.trod_string Try.underlying9 g0
      obtain ⟨s1, e1, u1, _⟩ := DataW.trod_string Try.underlying9 g1
      obtain ⟨b2, e2, _⟩ := DataW.trod_bool Try.underlying4 g2
      obtain ⟨x3, e3, _, w3⟩ := DataW.trod_int Try.underlying22 g3
      obtain ⟨x4, e4, _, w4⟩ := DataW.trod_int Try.underlying3 g4
      obtain ⟨x5, e5, _, w5⟩ := DataW.trod_int Try.underlying3 g5
      simp only [List.cons.injEq, and_true] at e0 e1 e2 e3 e4 e5
      obtain ⟨n3, rfl, hn3⟩ := nat_of w3
      subst e0 e1 e2 e3 e4 e5 u0 u1
      refine ⟨⟨s0, s1, b2, n3, x4, x5⟩, rfl, fun hq => ?_⟩
      rw [hx] at hq
      have hq' : ∀ (j : Nat) (t : TypeId) (d : DataW H), [9, 9, 4, 22, 3, 3][j]? = some t → [DataW.lit (.string s0.data.toList), DataW.lit (.string s1.data.toList), y2.1, y3.1, y4.1, y5.1][j]? = some d → Kept (d.weights Try.prog t) := by
        intro j t d h1 h2 z hz
        refine hq z ?_
        simp only [DataW.weights, Try.underlying51]
        exact DataW.weights_mem_each h1 h2 z hz
      exact ⟨str_of (hq' 0 _ _ rfl rfl), str_of (hq' 1 _ _ rfl rfl), hn3, bounds_i64 w4, bounds_i64 w5⟩

set_option maxRecDepth 100000 in
/-- Six cells that read as a command. -/
theorem elem_cmd {H : Type} {enc : TypeId × Value → H} {W : World} {base n : Nat} {cs : List Value} {x : DataW H × List MemPlace} (h : DataW.trod enc Try.prog W base (fun _ => true) true n 26 cs = some x) :
    ∃ v : Cm, cs = (cc v).toList ∧ (Kept (x.1.weights Try.prog 26) → v.fits) := by
  obtain ⟨xs, m, _, hx, hcl, hlen, hg⟩ := DataW.trod_struct Try.underlying26 h
  have hone := hone_of cmd_one
  simp only [Try.underlying26] at hone
  rw [cmd_cells] at hcl
  match cs, hcl with
  | [c0, c1, c2, c3, c4, c5], _ =>
    match xs, hlen with
    | [y0, y1, y2, y3, y4, y5], _ =>
      obtain ⟨o0, k0⟩ := hone 0 _ rfl
      obtain ⟨o1, k1⟩ := hone 1 _ rfl
      obtain ⟨o2, k2⟩ := hone 2 _ rfl
      obtain ⟨o3, k3⟩ := hone 3 _ rfl
      obtain ⟨o4, k4⟩ := hone 4 _ rfl
      obtain ⟨o5, k5⟩ := hone 5 _ rfl
      have g0 := hg 0 _ rfl
      have g1 := hg 1 _ rfl
      have g2 := hg 2 _ rfl
      have g3 := hg 3 _ rfl
      have g4 := hg 4 _ rfl
      have g5 := hg 5 _ rfl
      rw [o0, k0] at g0
      rw [o1, k1] at g1
      rw [o2, k2] at g2
      rw [o3, k3] at g3
      rw [o4, k4] at g4
      rw [o5, k5] at g5
      change DataW.trod enc Try.prog W base _ _ m 3 [c0] = some y0 at g0
      change DataW.trod enc Try.prog W base _ _ m 3 [c1] = some y1 at g1
      change DataW.trod enc Try.prog W base _ _ m 3 [c2] = some y2 at g2
      change DataW.trod enc Try.prog W base _ _ m 3 [c3] = some y3 at g3
      change DataW.trod enc Try.prog W base _ _ m 3 [c4] = some y4 at g4
      change DataW.trod enc Try.prog W base _ _ m 9 [c5] = some y5 at g5
      obtain ⟨x0, e0, _, w0⟩ := DataW.trod_int Try.underlying3 g0
      obtain ⟨x1, e1, _, w1⟩ := DataW.trod_int Try.underlying3 g1
      obtain ⟨x2, e2, _, w2⟩ := DataW.trod_int Try.underlying3 g2
      obtain ⟨x3, e3, _, w3⟩ := DataW.trod_int Try.underlying3 g3
      obtain ⟨x4, e4, _, w4⟩ := DataW.trod_int Try.underlying3 g4
      obtain ⟨s5, e5, u5, _⟩ := DataW.trod_string Try.underlying9 g5
      simp only [List.cons.injEq, and_true] at e0 e1 e2 e3 e4 e5
      subst e0 e1 e2 e3 e4 e5 u5
      refine ⟨⟨x0, x1, x2, x3, x4, s5⟩, rfl, fun hq => ?_⟩
      rw [hx] at hq
      refine ⟨bounds_i64 w0, bounds_i64 w1, bounds_i64 w2, bounds_i64 w3, bounds_i64 w4, str_of (H := H) (T := 9) fun z hz => hq z ?_⟩
      simp only [DataW.weights, Try.underlying26]
      exact DataW.weights_mem_each (j := 5) (t := 9) (d := .lit (.string s5.data.toList)) rfl rfl z hz

/-- A field that is a list of numbers. -/
theorem fld_nums {H : Type} {enc : TypeId × Value → H} {W : World} {base n : Nat} {c : Value} {y : DataW H × List MemPlace} (h : DataW.trod enc Try.prog W base (fun _ => true) true n 24 [c] = some y) :
    ∃ a l cap, c = .slice a (List.length l) cap ∧ NL W a l.length l := by
  rcases open_ints Try.underlying24 Try.underlying22 (by kernel_rfl) h with ⟨hcs, _⟩ | ⟨x, len, cap, zs, hcs, _, hl, hm, hz, hx, hcell, hwz⟩
  · simp only [List.cons.injEq, and_true] at hcs
    exact ⟨none, [], 0, hcs, NL.nil_ W none⟩
  · simp only [List.cons.injEq, and_true] at hcs
    simp only [if_true] at hz
    unfold maxLen at hm
    have hlen : ((zs.take len).map Int.toNat).length = len := by rw [List.length_map, List.length_take]; omega
    refine ⟨some x, (zs.take len).map Int.toNat, cap, by rw [hlen]; exact hcs, rfl, by omega, ?_, ?_⟩
    · intro c hc
      obtain ⟨n, hn, rfl⟩ := List.mem_map.1 hc
      have := bounds_u64 (hwz n (List.mem_of_mem_take hn))
      omega
    · rw [hlen]
      by_cases h0 : len = 0
      · exact .inl h0
      · obtain ⟨b, off, rfl, hc⟩ := ints_at hcell (by omega)
        have hc0 := hc 0 (by omega)
        refine .inr ⟨b, off, rfl, World.block_lt_of_cell? _ _ hc0, fun i hi => ?_⟩
        have hp : i < zs.length := by omega
        rw [hc i hp]
        have hb := bounds_u64 (hwz (zs.getD i 0) (by simp [List.getD, hp]))
        congr 2
        unfold nth
        rw [List.getD_eq_getElem?_getD, List.getD_eq_getElem?_getD, List.getElem?_map, List.getElem?_take_of_lt hi]
        rw [List.getD_eq_getElem?_getD] at hb
        rw [List.getElem?_eq_getElem hp] at hb ⊢
        simp at hb ⊢
        omega

theorem weightsAll_mem {H : Type} {P : Program} {e : TypeId} {d : DataW H} {z : Nat} : ∀ {ds : List (DataW H)}, d ∈ ds → z ∈ d.weights P e → z ∈ DataW.weightsAll P e ds
  | d0 :: ds, hd, hz => by
    simp only [DataW.weightsAll, List.mem_append]
    rcases List.mem_cons.1 hd with rfl | hd
    · exact .inl hz
    · exact .inr (weightsAll_mem hd hz)
  | [], hd, _ => by simp at hd

/-- A field that is a list of versions. -/
theorem fld_vers {H : Type} {enc : TypeId × Value → H} {W : World} {base n : Nat} {c : Value} {y : DataW H × List MemPlace} (h : DataW.trod enc Try.prog W base (fun _ => true) true n 23 [c] = some y) :
    ∃ a l cap, c = .slice a (List.length l) cap ∧ (Kept (y.1.weights Try.prog 23) → VL W a l.length l) := by
  rcases open_slice Try.underlying23 h with ⟨hcs, _⟩ | ⟨x, len, cap, m, n, D, Pl, hcs, _, hl, hm, hmm, hx, hi⟩
  · simp only [List.cons.injEq, and_true] at hcs
    exact ⟨none, [], 0, hcs, fun _ => VL.nil_ W none⟩
  · simp only [List.cons.injEq, and_true] at hcs
    unfold maxLen at hm
    rw [ver_cells] at hi
    have hlm : len ≤ m := by rw [hmm]; split <;> omega
    have hsp : 0 < len → x.spot = none := by
      intro hil
      obtain ⟨cs, hc, ht⟩ := hi 0 (by omega)
      obtain ⟨_, hcl, hat⟩ := World.cells?_some hc
      obtain ⟨v, rfl, hf⟩ := elem_ver ht
      have h0 := hat 0 (by omega)
      obtain ⟨b, off, spot⟩ := x
      simpa [Addr.add] using World.cell?_spot h0
    have each : ∀ i, i < len → ∃ v : Vr, VC W x.block (x.off + i * 6) v ∧ x.spot = none ∧ (Kept ((D i).weights Try.prog 51) → v.fits) := by
      intro i hil
      obtain ⟨cs, hc, ht⟩ := hi i (by omega)
      obtain ⟨_, hcl, hat⟩ := World.cells?_some hc
      obtain ⟨v, rfl, hf⟩ := elem_ver ht
      have hs := hsp (by omega)
      obtain ⟨b, off, spot⟩ := x
      simp only at hs
      subst hs
      have h0 := hat 0 (by omega)
      have h1 := hat 1 (by omega)
      have h2 := hat 2 (by omega)
      have h3 := hat 3 (by omega)
      have h4 := hat 4 (by omega)
      have h5 := hat 5 (by omega)
      rw [Go.Deep.add_add] at h0 h1 h2 h3 h4 h5
      rw [Go.WideShapes.add_plain] at h0 h1 h2 h3 h4 h5
      exact ⟨v, ⟨by simpa using h0, by simpa [Nat.add_assoc] using h1, by simpa [Nat.add_assoc] using h2, by simpa [Nat.add_assoc] using h3, by simpa [Nat.add_assoc] using h4, by simpa [Nat.add_assoc] using h5⟩, rfl, hf⟩
    have each' : ∀ i : Nat, ∃ v : Vr, i < len → VC W x.block (x.off + i * 6) v ∧ x.spot = none ∧ (Kept ((D i).weights Try.prog 51) → v.fits) := by
      intro i
      by_cases hil : i < len
      · obtain ⟨v, hv⟩ := each i hil
        exact ⟨v, fun _ => hv⟩
      · exact ⟨V0, fun h => absurd h hil⟩
    have hlen : ((List.range len).map fun i => (each' i).choose).length = len := by simp
    refine ⟨some x, (List.range len).map fun i => (each' i).choose, cap, by rw [hlen]; exact hcs, fun hq => ⟨rfl, by rw [hlen]; omega, ?_, ?_⟩⟩
    · intro v hv
      obtain ⟨i, hir, rfl⟩ := List.mem_map.1 hv
      have hil := List.mem_range.1 hir
      refine ((each' i).choose_spec hil).2.2 fun z hz => hq z ?_
      rw [hx]
      simp only [DataW.weights, Try.underlying23, List.mem_cons, List.mem_append]
      right; left
      exact weightsAll_mem (List.mem_map.2 ⟨i, hir, rfl⟩) hz
    · rw [hlen]
      by_cases h0 : len = 0
      · exact .inl h0
      · have hs := ((each' 0).choose_spec (by omega)).2.1
        have hc0 := ((each' 0).choose_spec (by omega)).1.1
        obtain ⟨b, off, spot⟩ := x
        simp only at hs
        subst hs
        refine .inr ⟨b, off, rfl, World.block_lt_of_cell? _ _ hc0, fun i hi => ?_⟩
        have := ((each' i).choose_spec hi).1
        have e : vth ((List.range len).map fun i => (each' i).choose) i = (each' i).choose := by
          unfold vth
          rw [List.getD_eq_getElem?_getD, List.getElem?_map, List.getElem?_range hi]
          rfl
        rw [e]
        exact this

set_option maxRecDepth 100000 in
/-- Fourteen cells that read as a message. -/
theorem elem_msg {H : Type} {enc : TypeId × Value → H} {W : World} {base n : Nat} {cs : List Value} {x : DataW H × List MemPlace} (h : DataW.trod enc Try.prog W base (fun _ => true) true n 28 cs = some x) :
    ∃ (m : Ms) (t : At), cs = (cm m t).toList ∧ (Kept (x.1.weights Try.prog 28) → HM W m t) := by
  obtain ⟨xs, m, _, hx, hcl, hlen, hg⟩ := DataW.trod_struct Try.underlying28 h
  rw [msg_cells] at hcl
  match cs, hcl with
  | [c0, c1, c2, c3, c4, c5, c6, c7, c8, c9, c10, c11, c12, c13], _ =>
    match xs, hlen with
    | [y0, y1, y2, y3, y4, y5, y6, y7, y8], _ =>
      have g0 := hg 0 _ rfl
      have g1 := hg 1 _ rfl
      have g2 := hg 2 _ rfl
      have g3 := hg 3 _ rfl
      have g4 := hg 4 _ rfl
      have g5 := hg 5 _ rfl
      have g6 := hg 6 _ rfl
      have g7 := hg 7 _ rfl
      have g8 := hg 8 _ rfl
      change DataW.trod enc Try.prog W base _ _ m 3 (([c0, c1, c2, c3, c4, c5, c6, c7, c8, c9, c10, c11, c12, c13].drop 0).take (Try.prog.cellsOf 3)) = some y0 at g0
      rw [one_int] at g0
      change DataW.trod enc Try.prog W base _ _ m 3 [c0] = some y0 at g0
      change DataW.trod enc Try.prog W base _ _ m 22 (([c0, c1, c2, c3, c4, c5, c6, c7, c8, c9, c10, c11, c12, c13].drop 1).take (Try.prog.cellsOf 22)) = some y1 at g1
      rw [one_uint64] at g1
      change DataW.trod enc Try.prog W base _ _ m 22 [c1] = some y1 at g1
      change DataW.trod enc Try.prog W base _ _ m 22 (([c0, c1, c2, c3, c4, c5, c6, c7, c8, c9, c10, c11, c12, c13].drop 2).take (Try.prog.cellsOf 22)) = some y2 at g2
      rw [one_uint64] at g2
      change DataW.trod enc Try.prog W base _ _ m 22 [c2] = some y2 at g2
      change DataW.trod enc Try.prog W base _ _ m 22 (([c0, c1, c2, c3, c4, c5, c6, c7, c8, c9, c10, c11, c12, c13].drop 3).take (Try.prog.cellsOf 22)) = some y3 at g3
      rw [one_uint64] at g3
      change DataW.trod enc Try.prog W base _ _ m 22 [c3] = some y3 at g3
      change DataW.trod enc Try.prog W base _ _ m 9 (([c0, c1, c2, c3, c4, c5, c6, c7, c8, c9, c10, c11, c12, c13].drop 4).take (Try.prog.cellsOf 9)) = some y4 at g4
      rw [one_string] at g4
      change DataW.trod enc Try.prog W base _ _ m 9 [c4] = some y4 at g4
      change DataW.trod enc Try.prog W base _ _ m 9 (([c0, c1, c2, c3, c4, c5, c6, c7, c8, c9, c10, c11, c12, c13].drop 5).take (Try.prog.cellsOf 9)) = some y5 at g5
      rw [one_string] at g5
      change DataW.trod enc Try.prog W base _ _ m 9 [c5] = some y5 at g5
      change DataW.trod enc Try.prog W base _ _ m 23 (([c0, c1, c2, c3, c4, c5, c6, c7, c8, c9, c10, c11, c12, c13].drop 6).take (Try.prog.cellsOf 23)) = some y6 at g6
      rw [one_vers] at g6
      change DataW.trod enc Try.prog W base _ _ m 23 [c6] = some y6 at g6
      change DataW.trod enc Try.prog W base _ _ m 24 (([c0, c1, c2, c3, c4, c5, c6, c7, c8, c9, c10, c11, c12, c13].drop 7).take (Try.prog.cellsOf 24)) = some y7 at g7
      rw [one_nums] at g7
      change DataW.trod enc Try.prog W base _ _ m 24 [c7] = some y7 at g7
      change DataW.trod enc Try.prog W base _ _ m 26 (([c0, c1, c2, c3, c4, c5, c6, c7, c8, c9, c10, c11, c12, c13].drop 8).take (Try.prog.cellsOf 26)) = some y8 at g8
      rw [cmd_cells] at g8
      change DataW.trod enc Try.prog W base _ _ m 26 [c8, c9, c10, c11, c12, c13] = some y8 at g8
      obtain ⟨x0, e0, _, w0⟩ := DataW.trod_int Try.underlying3 g0
      obtain ⟨x1, e1, _, w1⟩ := DataW.trod_int Try.underlying22 g1
      obtain ⟨x2, e2, _, w2⟩ := DataW.trod_int Try.underlying22 g2
      obtain ⟨x3, e3, _, w3⟩ := DataW.trod_int Try.underlying22 g3
      obtain ⟨s4, e4, u4, _⟩ := DataW.trod_string Try.underlying9 g4
      obtain ⟨s5, e5, u5, _⟩ := DataW.trod_string Try.underlying9 g5
      obtain ⟨a6, l6, k6, e6, v6⟩ := fld_vers g6
      obtain ⟨a7, l7, k7, e7, v7⟩ := fld_nums g7
      obtain ⟨v8, e8, f8⟩ := elem_cmd g8
      simp only [List.cons.injEq, and_true] at e0 e1 e2 e3 e4 e5
      obtain ⟨n1, rfl, hn1⟩ := nat_of w1
      obtain ⟨n2, rfl, hn2⟩ := nat_of w2
      obtain ⟨n3, rfl, hn3⟩ := nat_of w3
      subst e0 e1 e2 e3 e4 e5 e6 e7 u4 u5
      refine ⟨⟨x0, n1, n2, n3, s4, s5, l6, l7, v8⟩, ⟨a6, k6, a7, k7⟩, by rw [e8], fun hq => ?_⟩
      rw [hx] at hq
      have hq' : ∀ (j : Nat) (t : TypeId) (d : DataW H), [3, 22, 22, 22, 9, 9, 23, 24, 26][j]? = some t → [y0.1, y1.1, y2.1, y3.1, DataW.lit (.string s4.data.toList), DataW.lit (.string s5.data.toList), y6.1, y7.1, y8.1][j]? = some d → Kept (d.weights Try.prog t) := by
        intro j t d h1 h2 z hz
        refine hq z ?_
        simp only [DataW.weights, Try.underlying28]
        exact DataW.weights_mem_each h1 h2 z hz
      have hv := v6 (hq' 6 _ _ rfl rfl)
      exact ⟨⟨bounds_i64 w0, hn1, hn2, hn3, str_of (hq' 4 _ _ rfl rfl), str_of (hq' 5 _ _ rfl rfl), hv.2.2.1, v7.2.2.1, f8 (hq' 8 _ _ rfl rfl)⟩, hv, v7⟩

set_option maxRecDepth 100000 in
/-- A message that came in. -/
theorem open_msg {H : Type} {enc : TypeId × Value → H} {W : World} {r : Reach} {base b0 : Nat} {v : Value} {d : DataW H} {p : List MemPlace} {ts : List TypeId} {ds : List (DataW H)} (j : Nat)
    (hv : Value.okWide Try.prog W r b0 28 v) (h : DataW.Trod enc Try.prog W base (fun _ => true) true 28 v d p)
    (hsz : (DataW.weightsEach Try.prog ts ds).all (· ≤ reachBytes) = true) (hj : ts[j]? = some 28) (hd : ds[j]? = some d) :
    ∃ (m : Ms) (t : At), v = .agg (cm m t) ∧ HM W m t := by
  obtain ⟨cs, rfl, hs⟩ := okWide_struct Try.underlying28 hv
  obtain ⟨fuel, hf⟩ := h
  obtain ⟨m, t, hc, hw⟩ := elem_msg hf
  refine ⟨m, t, ?_, hw ?_⟩
  · have hc' : cs.toList = (cm m t).toList := by simpa [Value.cells] using hc
    exact congrArg Value.agg (Array.toList_inj.1 hc')
  · rw [List.all_eq_true] at hsz
    intro z hz
    have := hsz z (DataW.weights_mem_each hj hd z hz)
    have h2 : z ≤ reachBytes := of_decide_eq_true this
    simp only [reachBytes] at h2
    exact h2
end Go.Proofs.Ytkbhmeajgmecoaa.wirU
