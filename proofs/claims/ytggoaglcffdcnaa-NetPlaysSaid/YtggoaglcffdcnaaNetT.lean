/- The contract of Spoil. -/
import Derived.Test.YtggoaglcffdcnaaNetS
namespace Go.Proofs.Ytggoaglcffdcnaa.netT
open Go.ChangeShapes Go.WideShapes Go.ChangeAt Go.RowKit Go.Deep
open numM rowA byt numA numB numC netA netB netC netD netE netG netS

section
variable {col : Nat → Nat} {c : Nat} {p : Nat} {s : Ns} {f t : Int}
theorem spoil_stay {w : World} (h : NetAt col c w p s) {k i : Nat} {a : Int} {y : Nat} {E : Nat} (hE : spE (pkt s k i) a y = E) (h0 : E ≠ 0) : Did col c p (spE (pkt s k i) a y) (spS s k i a y) w (.returned (.int .i64 E)) w := by
  refine ⟨by rw [hE], Cg.refl _ _, ?_⟩
  unfold spS
  rw [hE, if_neg h0]
  exact h.ext (rec_ext col w c)
set_option maxRecDepth 100000 in
set_option maxHeartbeats 2000000 in
theorem spoil_ok (i : Nat) (a : Int) (y : Nat) (w : World) (h : NetAt col c w p s) (hw : IsWay f t) (hi : i < (s.row (wn f t)).length) (hy : y < 256) :
    Calls Try.prog 23 #[.pointer (some ⟨p, 0, none⟩), .int .i64 f, .int .i64 t, .int .i64 i, .int .i64 a, .int .u8 y] w (Did col c p (spE (pkt s (wn f t) i) a y) (spS s (wn f t) i a y) w) := by
  have hwi := Lib.hid (with_ok i _ h hw hi)
  have hk := wn_lt hw
  clear hw
  generalize wn f t = k at *
  obtain ⟨vs, ms, m, hI, he, hm, hpk, hln⟩ := at_open h hk hi
  obtain ⟨g, cp, hv, hglt, hnc, hc9, c0, c1, cf, hgp, hgo⟩ := NetIs_at hI hk hm
  obtain ⟨k1, k2, -⟩ := hI.cell hk
  rw [hv] at k1
  have hmem := List.mem_of_getElem? hm
  have hown := hI.byt k hk m hmem
  have hbl := hI.bl k hk m hmem
  have hmn : (i : Int) < ((ms k).length : Int) := by omega
  have hm0 : (0 : Int) ≤ (i : Int) := by omega
  have hst := Lib.hid (fun (E : Nat) hE h0 => spoil_stay h (k := k) (i := i) (a := a) (y := y) (E := E) hE h0)
  rw [hpk] at hst ⊢
  by_cases a1 : a < 0
  · have hS := Lib.hid (hst.out 1 (if_pos (.inl a1)) (by decide))
    clear hI he hm hpk hln h hown hbl hst hi hv c1 cf
    generalize (ms k).length = n at *
    go_enter Try.func23, Try.ntmps23
    go_wp2_with (go_at_call 35; ((with_reducible refine (hwi.out).mono ?_); rintro e w' ⟨rfl, rfl⟩))
    go_ret
    exact hS.out
  by_cases a2 : (m.b.length : Int) ≤ a
  · have hS := Lib.hid (hst.out 1 (if_pos (.inr (.inl a2))) (by decide))
    clear hI he hm hpk hln h hown hst hi hv c1 cf
    generalize (ms k).length = n at *
    generalize m.b.length = L at *
    go_enter Try.func23, Try.ntmps23
    go_wp2_with (go_at_call 35; ((with_reducible refine (hwi.out).mono ?_); rintro e w' ⟨rfl, rfl⟩))
    go_ret
    exact hS.out
  by_cases a3 : (y : Int) = 0
  · have hS := Lib.hid (hst.out 1 (if_pos (.inr (.inr a3))) (by decide))
    have a3' : ((y : Int) == 0) = true := by rw [beq_iff_eq]; exact a3
    clear hI he hm hpk hln h hown hst hi hv c1 cf a3
    generalize (ms k).length = n at *
    generalize m.b.length = L at *
    go_enter Try.func23, Try.ntmps23
    go_wp2_with (go_at_call 35; ((with_reducible refine (hwi.out).mono ?_); rintro e w' ⟨rfl, rfl⟩))
    go_ret
    exact hS.out
  have hno : ¬ (a < 0 ∨ (m.b.length : Int) ≤ a ∨ (y : Int) = 0) := by omega
  have a3' : ((y : Int) == 0) = false := by rw [beq_eq_false_iff_ne]; exact a3
  by_cases a4 : m.sp = true
  · have hS := Lib.hid (hst.out 8 (by unfold spE; rw [if_neg hno, if_pos a4]) (by decide))
    rw [a4] at c1
    clear hI he hm hpk hln h hown hst hi hv cf a3 hno a4
    generalize (ms k).length = n at *
    generalize m.b.length = L at *
    go_enter Try.func23, Try.ntmps23
    go_wp2_with (go_at_call 35; ((with_reducible refine (hwi.out).mono ?_); rintro e w' ⟨rfl, rfl⟩))
    go_ret
    exact hS.out
  · have a4' : m.sp = false := by cases e : m.sp <;> simp_all
    rw [a4'] at c1
    obtain ⟨q, rfl⟩ : ∃ q : Nat, a = q := ⟨a.toNat, by omega⟩
    have hql : q < m.b.length := by omega
    obtain ⟨A', cB, eA, hcb, hcb9, _, hA, hb⟩ := hown.form
    have eA' : m.A = A' := by cases eA; rfl
    obtain ⟨gb, off, e1, hcell⟩ := hb.at hql
    obtain ⟨g2, e2⟩ := hA _ e1
    obtain rfl : off = 0 := by cases e2; rfl
    clear e2
    rw [e1] at eA'
    have hgb : m.v.ownBlock = some gb := by show (Value.slice m.A _ _).ownBlock = _; rw [eA']; rfl
    have hgg : g ≠ gb := fun e => own_apart (hI.own k hk) hown.2.2.2 (by decide) hgo (by rw [hgb, e])
    have hfz : w.frozen? ⟨gb, q, none⟩ = false := by
      have o5 : w.ownsRow 0 5 1 (.slice (some ⟨gb, 0, none⟩) m.b.length m.c) m.b.length (ub m.b) := by rw [← eA']; exact hown.2.2.2
      exact o5.frozenAt q
    have hn256 : nth m.b q < 256 := hb.2.2.1 _ (nth_mem hql)
    have hx : bits .xor .u8 (nth m.b q : Int) (y : Int) = ((nth m.b q ^^^ y : Nat) : Int) := u8_xor_nat _ _ hn256 hy
    have hx256 : nth m.b q ^^^ y < 256 := Nat.xor_lt_two_pow (n := 8) hn256 hy
    obtain ⟨r1, r2⟩ := net_spoil hI hk hm hv eA' q (nth m.b q ^^^ y) hx256
    have hE0 : spE (m.b, m.sp) q y = 0 := by unfold spE; rw [if_neg hno, if_neg a4]
    have hS : Hid (Did col c p (spE (m.b, m.sp) q y) (spS s k i q y) w (.returned (.int .i64 0)) ((w.setCell ⟨gb, q, none⟩ (.int .u8 (nth m.b q ^^^ y : Nat))).setCell ⟨g, i * 2 + 1, none⟩ (.bool true))) := by
      have hsp : spS s k i q y = setS s k i (turned m.b q y, true) := by
        unfold spS
        rw [hpk, hE0, if_pos rfl]; rfl
      refine ⟨by rw [hE0]; rfl, r1, ?_⟩
      rw [hsp]
      refine ⟨vs, upd ms k ((ms k).set i ⟨m.b.set q (nth m.b q ^^^ y), true, m.A, m.c⟩), ?_, fun j hj => ?_⟩
      · exact (r2.ext fun b hb => rec_ext col w c b (by rwa [World.size_setCell, World.size_setCell] at hb))
      · rw [map_upd he k _ j hj, List.map_set, he k hk]
        rfl
    have d0 : (w.setCell ⟨gb, q, none⟩ (.int .u8 (nth m.b q ^^^ y : Nat))).cell? ⟨g, i * 2, none⟩ = some (.slice m.A m.b.length m.c) := (World.cell?_of_block (Below.heap_setCell _ _ _ _ hgg)).trans c0
    have d1 : (w.setCell ⟨gb, q, none⟩ (.int .u8 (nth m.b q ^^^ y : Nat))).cell? ⟨g, i * 2 + 1, none⟩ = some (.bool false) := (World.cell?_of_block (Below.heap_setCell _ _ _ _ hgg)).trans c1
    have d2 : (w.setCell ⟨gb, q, none⟩ (.int .u8 (nth m.b q ^^^ y : Nat))).frozen? ⟨g, i * 2 + 1, none⟩ = false := (World.frozen?_of_block (Below.heap_setCell _ _ _ _ hgg)).trans (cf _)
    rw [eA'] at c0 d0
    have hb2 : (q : Int) < (m.b.length : Int) := by omega
    have hb0 : (0 : Int) ≤ (q : Int) := by omega
    rw [Nat.zero_add] at hcell
    have hx2 : (0 : Int) ≤ ((nth m.b q ^^^ y : Nat) : Int) := by omega
    clear hI he hm hpk hln h hown hst hi hv cf a3 hno a4 r1 r2 hE0 eA e1 hA hb hgb hgo a4' eA' hn256
    clear hcb hcb9
    generalize (ms k).length = n at *
    generalize hX : nth m.b q ^^^ y = X at *
    replace hX := Lib.hid hX
    generalize nth m.b q = Z at *
    generalize m.b.length = L at *
    go_enter Try.func23, Try.ntmps23
    go_wp2_with (go_at_call 35; ((with_reducible refine (hwi.out).mono ?_); rintro e w' ⟨rfl, rfl⟩))
    go_ret
    exact hS.out
end
end Go.Proofs.Ytggoaglcffdcnaa.netT
