/- The contracts of Look, Take, Lose, Twice, Back and Spoil. -/
import Derived.Test.YtggoaglcffdcnaaNetD
namespace Go.Proofs.Ytggoaglcffdcnaa.netE
open Go.ChangeShapes Go.WideShapes Go.ChangeAt Go.RowKit Go.Deep
open numM rowA byt numA numB numC netA netB netC netD

/-! ### Where they refuse -/
set_option maxRecDepth 100000 in
theorem lose_err {v : Value} {f t i : Int} {E : Nat} (w : World) (h : WErr v f t i E w) (hE : E ≠ 0) : Calls Try.prog 25 #[v, .int .i64 f, .int .i64 t, .int .i64 i] w fun e w' => e = .returned (.int .i64 E) ∧ w = w' := by
  have hq := Lib.hid (h w (Below.refl _ _))
  have h0 : ((E : Int) != 0) = true := by rw [bne_iff_ne]; omega
  go_enter Try.func25, Try.ntmps25
  go_wp2_with (go_at_call 35; ((with_reducible refine (hq.out).mono ?_); rintro e w' ⟨rfl, rfl⟩))
  go_ret
  exact ⟨rfl, rfl⟩
set_option maxRecDepth 100000 in
theorem twice_err {v : Value} {f t i : Int} {E : Nat} (w : World) (h : WErr v f t i E w) (hE : E ≠ 0) : Calls Try.prog 21 #[v, .int .i64 f, .int .i64 t, .int .i64 i] w fun e w' => e = .returned (.int .i64 E) ∧ w = w' := by
  have hq := Lib.hid (h w (Below.refl _ _))
  have h0 : ((E : Int) != 0) = true := by rw [bne_iff_ne]; omega
  go_enter Try.func21, Try.ntmps21
  go_wp2_with (go_at_call 35; ((with_reducible refine (hq.out).mono ?_); rintro e w' ⟨rfl, rfl⟩))
  go_ret
  exact ⟨rfl, rfl⟩
set_option maxRecDepth 100000 in
theorem back_err {v : Value} {f t i : Int} {E : Nat} (w : World) (h : WErr v f t i E w) (hE : E ≠ 0) : Calls Try.prog 22 #[v, .int .i64 f, .int .i64 t, .int .i64 i] w fun e w' => e = .returned (.int .i64 E) ∧ w = w' := by
  have hq := Lib.hid (h w (Below.refl _ _))
  have h0 : ((E : Int) != 0) = true := by rw [bne_iff_ne]; omega
  go_enter Try.func22, Try.ntmps22
  go_wp2_with (go_at_call 35; ((with_reducible refine (hq.out).mono ?_); rintro e w' ⟨rfl, rfl⟩))
  go_ret
  exact ⟨rfl, rfl⟩
set_option maxRecDepth 100000 in
theorem spoil_err {v : Value} {f t i : Int} {E : Nat} (x y : Value) (w : World) (h : WErr v f t i E w) (hE : E ≠ 0) : Calls Try.prog 23 #[v, .int .i64 f, .int .i64 t, .int .i64 i, x, y] w fun e w' => e = .returned (.int .i64 E) ∧ w = w' := by
  have hq := Lib.hid (h w (Below.refl _ _))
  have h0 : ((E : Int) != 0) = true := by rw [bne_iff_ne]; omega
  go_enter Try.func23, Try.ntmps23
  go_wp2_with (go_at_call 35; ((with_reducible refine (hq.out).mono ?_); rintro e w' ⟨rfl, rfl⟩))
  go_ret
  exact ⟨rfl, rfl⟩
set_option maxRecDepth 100000 in
theorem look_err {v : Value} {f t i : Int} {E : Nat} (w : World) (h : WErr v f t i E w) (hE : E ≠ 0) : Calls Try.prog 17 #[v, .int .i64 f, .int .i64 t, .int .i64 i] w fun e w' => e = .returned (.tuple #[.agg #[.slice none 0 0, .bool false], .int .i64 E]) ∧ Below w.heap.size w w' := by
  have hB := al0 w (.cells #[.slice none 0 0, .bool false] 45)
  have hq := Lib.hid (h _ hB)
  have hB2 := Lib.hid hB
  have h0 : ((E : Int) != 0) = true := by rw [bne_iff_ne]; omega
  obtain ⟨z0, z1, z2, z3⟩ := (Z2.new w).cells
  clear hB h
  go_enter Try.func17, Try.ntmps17
  go_wp2_with (go_at_call 35; ((with_reducible refine (hq.out).mono ?_); rintro e w' ⟨rfl, rfl⟩))
  refine bodyPost_ret (v := .tuple #[.agg #[.slice none 0 0, .bool false], .int .i64 E]) ?_ rfl ⟨rfl, ?_⟩
  · simp [results, Try.results17, go_sem, z0, z1]
  · exact hB2.out
set_option maxRecDepth 100000 in
theorem take_err {v : Value} {f t i : Int} {E : Nat} (w : World) (h : WErr v f t i E w) (hE : E ≠ 0) : Calls Try.prog 24 #[v, .int .i64 f, .int .i64 t, .int .i64 i] w fun e w' => e = .returned (.tuple #[.agg #[.slice none 0 0, .bool false], .int .i64 E]) ∧ Below w.heap.size w w' := by
  have hB := al0 w (.cells #[.slice none 0 0, .bool false] 45)
  have hq := Lib.hid (h _ hB)
  have hB2 := Lib.hid hB
  have h0 : ((E : Int) != 0) = true := by rw [bne_iff_ne]; omega
  obtain ⟨z0, z1, z2, z3⟩ := (Z2.new w).cells
  clear hB h
  go_enter Try.func24, Try.ntmps24
  go_wp2_with (go_at_call 35; ((with_reducible refine (hq.out).mono ?_); rintro e w' ⟨rfl, rfl⟩))
  refine bodyPost_ret (v := .tuple #[.agg #[.slice none 0 0, .bool false], .int .i64 E]) ?_ rfl ⟨rfl, ?_⟩
  · simp [results, Try.results24, go_sem, z0, z1]
  · exact hB2.out

/-! ### Where they do it -/
section
variable {col : Nat → Nat} {c : Nat} {w w2 : World} {p : Nat} {vs : Nat → Value} {ms : Nat → List MP} {lost : Nat} {s : Ns} {f t : Int}
def pkt (s : Ns) (k i : Nat) : List Nat × Bool := (s.row k).getD i ([], false)
def delS (s : Ns) (k i : Nat) : Ns := ⟨upd s.row k ((s.row k).eraseIdx i), s.lost⟩
theorem at_open (h : NetAt col c w p s) {k i : Nat} (hk : k < 441) (hi : i < (s.row k).length) : ∃ vs ms m, NetIs col c w p vs ms s.lost ∧ (∀ j, j < 441 → (ms j).map MP.pk = s.row j) ∧ (ms k)[i]? = some m ∧ pkt s k i = (m.b, m.sp) ∧ (s.row k).length = (ms k).length := by
  obtain ⟨vs, ms, h, e⟩ := h
  have hl : (s.row k).length = (ms k).length := by rw [← e k hk, List.length_map]
  have hi' : i < (ms k).length := by omega
  refine ⟨vs, ms, (ms k)[i], h, e, List.getElem?_eq_getElem hi', ?_, hl⟩
  unfold pkt
  rw [← e k hk, List.getD_eq_getElem?_getD, List.getElem?_map, List.getElem?_eq_getElem hi']
  rfl
theorem map_del (he : ∀ j, j < 441 → (ms j).map MP.pk = s.row j) {k : Nat} (hk : k < 441) (i : Nat) : ∀ j, j < 441 → (upd ms k ((ms k).eraseIdx i) j).map MP.pk = (delS s k i).row j := by
  intro j hj
  rw [map_upd he k _ j hj]
  have e : ((ms k).eraseIdx i).map MP.pk = (s.row k).eraseIdx i := by rw [← he k hk, List.eraseIdx_eq_take_drop_succ, List.eraseIdx_eq_take_drop_succ, List.map_append, List.map_take, List.map_drop]
  rw [e]; rfl
theorem own_nil {w : World} {n cp : Nat} {l : List Nat} {A : Option Addr} (h : Own w 0 (.slice A n cp) n l) : A = none → n = 0 := by
  intro e
  obtain ⟨A', c', e1, h1, _, h2, _⟩ := h.form
  cases e1
  have := h2 e
  omega
/-- What Look answers. -/
def Looked (w : World) (x : List Nat × Bool) (e : Ending) (w' : World) : Prop :=
  ∃ A cp, e = .returned (.tuple #[.agg #[.slice A x.1.length cp, .bool x.2], .int .i64 0]) ∧ Own w' w.heap.size (.slice A x.1.length cp) x.1.length x.1 ∧ Below w.heap.size w w'
set_option maxRecDepth 100000 in
set_option maxHeartbeats 400000 in
theorem look_ok (i : Nat) (w : World) (h : NetAt col c w p s) (hw : IsWay f t) (hi : i < (s.row (wn f t)).length) :
    Calls Try.prog 17 #[.pointer (some ⟨p, 0, none⟩), .int .i64 f, .int .i64 t, .int .i64 i] w (Looked w (pkt s (wn f t) i)) := by
  have hal := al0 w (.cells #[.slice none 0 0, .bool false] 45)
  have hz := Lib.hid (Z2.new w)
  have h1 := h.below hal
  have hwi := Lib.hid (with_ok i _ h1 hw hi)
  have hk := wn_lt hw
  generalize wn f t = k at *
  obtain ⟨vs, ms, m, hI, -, hm, hpk, hln⟩ := at_open h1 hk hi
  rw [hpk]
  obtain ⟨g, cp, hv, hglt, hnc, hc9, c0, c1, -, hgp, hgo⟩ := NetIs_at hI hk hm
  obtain ⟨k1, k2, -⟩ := hI.cell hk
  rw [hv] at k1
  have hmem := List.mem_of_getElem? hm
  have hown := hI.byt k hk m hmem
  have hbl := hI.bl k hk m hmem
  have hli := Lib.hid (like_any m.A m.c m.b m.sp _ (own_bl hown) (own_nil hown) (by omega))
  have hmn : (i : Int) < ((ms k).length : Int) := by omega
  have hm0 : (0 : Int) ≤ (i : Int) := by omega
  have hB := Lib.hid hal
  clear hI h1 h hv hal hown hm hpk hln hi
  generalize (ms k).length = n at *
  go_enter Try.func17, Try.ntmps17
  go_wp2_with (first
    | (go_at_call 35; ((with_reducible refine (hwi.out).mono ?_); rintro e w' ⟨rfl, rfl⟩))
    | (go_at_call 36; ((with_reducible refine (hli.out).mono ?_); rintro e w' ⟨A2, c2, rfl, ho, hB2⟩; obtain ⟨z0, z1, z2, z3⟩ := (Z2.below hz.out hB2).cells; have ho' := Lib.hid ho; have hB2' := Lib.hid hB2; clear ho hB2)))
  refine bodyPost_ret (v := .tuple #[.agg #[.slice A2 m.b.length c2, .bool m.sp], .int .i64 0]) ?_ rfl ⟨A2, c2, rfl, (own2 ho'.out (by simp) _ _).more hB.out.size, below2 (trans0 hB.out hB2'.out) (Nat.le_refl _) _ _⟩
  simp [results, Try.results17, go_sem, z0, z1]
/-- What Take answers. -/
def Took (col : Nat → Nat) (c p : Nat) (s' : Ns) (x : List Nat × Bool) (w : World) (e : Ending) (w' : World) : Prop :=
  ∃ A cp, e = .returned (.tuple #[.agg #[.slice A x.1.length cp, .bool x.2], .int .i64 0]) ∧ BL w' A x.1.length x.1 ∧ Cg (fun b => col b = c) w w' ∧ NetAt (recol col w c) c w' p s'
set_option maxRecDepth 100000 in
set_option maxHeartbeats 400000 in
theorem take_ok (i : Nat) (w : World) (h : NetAt col c w p s) (hw : IsWay f t) (hi : i < (s.row (wn f t)).length) :
    Calls Try.prog 24 #[.pointer (some ⟨p, 0, none⟩), .int .i64 f, .int .i64 t, .int .i64 i] w (Took col c p (delS s (wn f t) i) (pkt s (wn f t) i) w) := by
  have hal := al0 w (.cells #[.slice none 0 0, .bool false] 45)
  have hz := Z2.new w
  have h1 := h.below hal
  have hwi := Lib.hid (with_ok i _ h1 hw hi)
  have hk := wn_lt hw
  have hplt := h.lt
  generalize wn f t = k at *
  obtain ⟨vs, ms, m, hI, he, hm, hpk, hln⟩ := at_open h hk hi
  rw [hpk]
  have hto := Lib.hid (takeOut_is (hI.mid hal) hk hm)
  have hplt := h.lt
  have hmem := List.mem_of_getElem? hm
  have hblt : ∀ b, m.v.ownBlock = some b → b < w.heap.size := fun b e => hI.blt hk hmem e
  have hS : Hid (∀ w3, Taken (mid col w c) c p vs ms s.lost k i m (w.alloc (.cells #[.slice none 0 0, .bool false] 45)) (.returned (.agg #[.slice m.A m.b.length m.c, .bool m.sp])) w3 →
      Took col c p (delS s k i) (m.b, m.sp) w (.returned (.tuple #[.agg #[.slice m.A m.b.length m.c, .bool m.sp], .int .i64 0])) ((w3.setCell ⟨w.heap.size, 0, none⟩ (.slice m.A m.b.length m.c)).setCell ⟨w.heap.size, 1, none⟩ (.bool m.sp)) ∧ Z2 w.heap.size w3) := Lib.hid fun w3 ⟨_, q1, ⟨v', q2⟩, q3⟩ => by
    have hM : Cg (fun b => b = w.heap.size) w3 ((w3.setCell ⟨w.heap.size, 0, none⟩ (.slice m.A m.b.length m.c)).setCell ⟨w.heap.size, 1, none⟩ (.bool m.sp)) :=
      Cg.setCell (M := fun b => b = w.heap.size) (Cg.setCell (M := fun b => b = w.heap.size) (Cg.refl _ _) (p := ⟨w.heap.size, 0, none⟩) rfl _) (p := ⟨w.heap.size, 1, none⟩) rfl _
    have hsz : w.heap.size < (w.alloc (.cells #[.slice none 0 0, .bool false] 45)).heap.size := by simp
    refine ⟨⟨m.A, m.c, rfl, own_bl (own_blk q3 fun b e => hM.block b (own_ge q3 e).2 (by have := hblt b e; omega)), (mid_cg hal q1).trans hM (fun b hb e => by omega), upd vs k v', upd ms k ((ms k).eraseIdx i), mid_back hal.size (q2.other hM (fun b hb hc e => ?_) (Ext.refl _ _)), map_del he hk i⟩, ?_⟩
    · subst e
      rw [rec_ext _ _ _ _ hsz] at hc
      exact mid_ne (Nat.le_refl _) hc
    · exact hz.of_block (q1.block _ hsz (mid_ne (Nat.le_refl _)))
  clear hI h1 h hal hm hpk hln hi he hz
  go_enter Try.func24, Try.ntmps24
  go_wp2_with (first
    | (go_at_call 35; ((with_reducible refine (hwi.out).mono ?_); rintro e w' ⟨rfl, rfl⟩))
    | (go_at_call 39; ((with_reducible refine (hto.out).mono ?_); rintro e w3 hT; obtain rfl := hT.1; have hQ := hS.out _ hT; obtain ⟨z0, z1, z2, z3⟩ := hQ.2.cells; have hQ' := Lib.hid hQ.1; clear hT hQ)))
  refine bodyPost_ret (v := .tuple #[.agg #[.slice m.A m.b.length m.c, .bool m.sp], .int .i64 0]) ?_ rfl hQ'.out
  simp [results, Try.results24, go_sem, z0, z1]
end
end Go.Proofs.Ytggoaglcffdcnaa.netE
