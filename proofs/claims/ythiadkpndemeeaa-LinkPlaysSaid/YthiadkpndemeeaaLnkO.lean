/- How a frame that comes in is opened. -/
import Derived.Test.YthiadkpndemeeaaLnkA
import Derived.ChangeArms
import Derived.Deep.Fields
import Derived.Lib.SmallJoins
namespace Go.Proofs.Ythiadkpndemeeaa.lnkO
open Go.ChangeShapes Go.WideShapes Go.ChangeAt Go.RowKit Go.Deep Go.Joins
open numM rowA byt numA numB numC lnkA

/-- A field that is a slice of bytes. -/
theorem fld_row {H : Type} {enc : TypeId × Value → H} {W : World} {base n : Nat} {c : Value} {y : DataW H × List MemPlace} (h : DataW.trod enc Try.prog W base (fun _ => true) true n 29 [c] = some y) :
    ∃ a len cap zs, c = .slice a len cap ∧ IsRow .u8 W a len cap zs ∧ ((y.1.weights Try.prog 29).all (· ≤ reachBytes) = true → cap ≤ 140737488351232) := by
  rcases open_ints Try.underlying29 Try.underlying5 (by kernel_rfl) h with ⟨hcs, _⟩ | ⟨x, len, cap, zs, hcs, _, hl, hm, hz, hx, hcell, hwz⟩
  · simp only [List.cons.injEq, and_true] at hcs
    exact ⟨none, 0, 0, [], hcs, .inl ⟨rfl, rfl, rfl, rfl⟩, fun _ => by omega⟩
  · simp only [List.cons.injEq, and_true] at hcs
    simp only [if_true] at hz
    refine ⟨some x, len, cap, zs, hcs, .inr ⟨x, rfl, hl, hm, hz, hcell, hwz⟩, fun hw => ?_⟩
    rw [hx] at hw
    simp only [DataW.weights, Try.underlying29, List.all_cons, Bool.and_eq_true, decide_eq_true_eq] at hw
    have := hw.1
    rw [show Try.prog.bytesOf 5 = 1 from by kernel_rfl] at this
    simp only [lits, List.length_map, List.length_take, List.length_drop, reachBytes] at this
    omega

theorem frame_one : oneCellFields Try.prog (match Try.prog.underlying 31 with | some (.struct fs) => fs | _ => #[]) = true := by kernel_rfl
theorem frame_cells : Try.prog.cellsOf 31 = 5 := by kernel_rfl

/-- Five cells that read as a frame. -/
theorem frame_elem {H : Type} {enc : TypeId × Value → H} {W : World} {base n : Nat} {cs : List Value} {x : DataW H × List MemPlace} (h : DataW.trod enc Try.prog W base (fun _ => true) true n 31 cs = some x) :
    ∃ f A c, cs = (cf f A c).toList ∧ BL W A f.body.length f.body ∧ f.body.length ≤ c ∧ c ≤ 9223372036854775807 ∧ ((x.1.weights Try.prog 31).all (· ≤ reachBytes) = true → c ≤ 140737488351232) := by
  obtain ⟨xs, m, _, hx, hcl, hlen, hg⟩ := DataW.trod_struct Try.underlying31 h
  have hone := hone_of frame_one
  simp only [Try.underlying31] at hone
  rw [frame_cells] at hcl
  match cs, hcl with
  | [c0, c1, c2, c3, c4], _ =>
    match xs, hlen with
    | [y0, y1, y2, y3, y4], _ =>
      obtain ⟨o0, k0⟩ := hone 0 _ rfl
      obtain ⟨o1, k1⟩ := hone 1 _ rfl
      obtain ⟨o2, k2⟩ := hone 2 _ rfl
      obtain ⟨o3, k3⟩ := hone 3 _ rfl
      obtain ⟨o4, k4⟩ := hone 4 _ rfl
      have g0 := hg 0 _ rfl
      have g1 := hg 1 _ rfl
      have g2 := hg 2 _ rfl
      have g3 := hg 3 _ rfl
      have g4 := hg 4 _ rfl
      rw [o0, k0] at g0
      rw [o1, k1] at g1
      rw [o2, k2] at g2
      rw [o3, k3] at g3
      rw [o4, k4] at g4
      change DataW.trod enc Try.prog W base _ _ m 3 [c0] = some y0 at g0
      change DataW.trod enc Try.prog W base _ _ m 3 [c1] = some y1 at g1
      change DataW.trod enc Try.prog W base _ _ m 3 [c2] = some y2 at g2
      change DataW.trod enc Try.prog W base _ _ m 3 [c3] = some y3 at g3
      change DataW.trod enc Try.prog W base _ _ m 29 [c4] = some y4 at g4
      obtain ⟨x0, e0, _, _⟩ := DataW.trod_int Try.underlying3 g0
      obtain ⟨x1, e1, _, _⟩ := DataW.trod_int Try.underlying3 g1
      obtain ⟨x2, e2, _, _⟩ := DataW.trod_int Try.underlying3 g2
      obtain ⟨x3, e3, _, _⟩ := DataW.trod_int Try.underlying3 g3
      obtain ⟨a, len, cap, zs, e4, hr, hw⟩ := fld_row g4
      simp only [List.cons.injEq, and_true] at e0 e1 e2 e3
      have hb := row_bl hr
      have hl := row_len hr
      subst e0 e1 e2 e3 e4
      have hn := hb.1
      refine ⟨⟨x0, x1, x2, x3, (zs.take len).map Int.toNat⟩, a, cap, by show _ = [Value.int .i64 x0, .int .i64 x1, .int .i64 x2, .int .i64 x3, .slice a ((zs.take len).map Int.toNat).length cap]; rw [hn], by show BL W a ((zs.take len).map Int.toNat).length _; rw [hn]; exact hb, by show ((zs.take len).map Int.toNat).length ≤ _; rw [hn]; exact hl.1, hl.2, fun hq => hw ?_⟩
      rw [hx] at hq
      rw [List.all_eq_true] at hq ⊢
      intro z hz
      refine hq z ?_
      simp only [DataW.weights, Try.underlying31]
      exact DataW.weights_mem_each (j := 4) (t := 29) (d := y4.1) rfl rfl z hz

/-- A frame that came in. -/
theorem open_frame {H : Type} {enc : TypeId × Value → H} {W : World} {r : Reach} {base b0 : Nat} {v : Value} {d : DataW H} {p : List MemPlace} {ts : List TypeId} {ds : List (DataW H)} (j : Nat)
    (hv : Value.okWide Try.prog W r b0 31 v) (h : DataW.Trod enc Try.prog W base (fun _ => true) true 31 v d p)
    (hsz : (DataW.weightsEach Try.prog ts ds).all (· ≤ reachBytes) = true) (hj : ts[j]? = some 31) (hd : ds[j]? = some d) :
    ∃ f A c, v = .agg (cf f A c) ∧ BL W A f.body.length f.body ∧ f.body.length ≤ c ∧ c ≤ 140737488351232 := by
  obtain ⟨cs, rfl, hs⟩ := okWide_struct Try.underlying31 hv
  obtain ⟨fuel, hf⟩ := h
  obtain ⟨f, A, c, hc, hb, hl, _, hw⟩ := frame_elem hf
  refine ⟨f, A, c, ?_, hb, hl, hw ?_⟩
  · have hc' : cs.toList = (cf f A c).toList := by simpa [Value.cells] using hc
    exact congrArg Value.agg (Array.toList_inj.1 hc')
  · rw [List.all_eq_true] at hsz ⊢
    exact fun z hz => hsz z (DataW.weights_mem_each hj hd z hz)
end Go.Proofs.Ythiadkpndemeeaa.lnkO
