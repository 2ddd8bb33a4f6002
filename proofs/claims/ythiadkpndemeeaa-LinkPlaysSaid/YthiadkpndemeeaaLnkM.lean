/- LinkAlien. -/
import Derived.Test.YthiadkpndemeeaaLnkL
namespace Go.Proofs.Ythiadkpndemeeaa.lnkM
open Go.ChangeShapes Go.WideShapes Go.ChangeAt Go.RowKit Go.Deep
open numM rowA byt numA numB numC lnkA lnkB lnkC lnkD lnkE lnkF lnkG lnkH lnkI lnkJ lnkP lnkL

set_option maxRecDepth 100000 in
theorem kind_any {col : Nat → Nat} {c p : Nat} {s : St} (f : Fm) (A : Option Addr) (cap : Nat) (w : World) (h : EndAt col c w p s) (h1 : f.e ≠ s.ep) :
    Calls Try.prog 14 #[.pointer (some ⟨p, 0, none⟩), .agg (cf f A cap)] w fun e w' => e = .returned (.tuple #[.slice none 0 0, .int .i64 5]) ∧ Below w.heap.size w w' := by
  have hBf := Lib.hid (trans0 (al0 w (.cells (cf f A cap) 31)) (below_drew _))
  have hE := h.below (al0 w (.cells (cf f A cap) 31))
  obtain ⟨v, m, xs, n, D, hI⟩ := hE
  obtain ⟨c0, -⟩ := hI.cells
  obtain ⟨-, k1, -⟩ := FB.cells (cfrow w f A cap)
  have hne : (f.e != s.ep) = true := by rw [bne_iff_ne]; exact h1
  clear hI h h1
  go_enter Try.func14, Try.ntmps14
  go_wp2
  generalize w.alloc (.cells (cf f A cap) 31) = W at *
  go_region
  go_wp2
  go_ret2
  exact ⟨rfl, hBf.out⟩
set_option maxRecDepth 100000 in
theorem short_any (A : Option Addr) (n c : Nat) (w : World) (hn : n ≤ c) (hc : c ≤ 9223372036854775807) :
    Calls Try.prog 11 #[.slice A n c] w fun e w' => e = .returned (.slice A (min n 300) c) ∧ w = w' := by
  by_cases h : n ≤ 300
  · have e : min n 300 = n := by omega
    rw [e]
    clear e
    go_enter Try.func11, Try.ntmps11
    go_wp2
    all_goals
      go_ret
      exact ⟨rfl, rfl⟩
  · have e : min n 300 = 300 := by omega
    rw [e]
    clear e
    go_enter Try.func11, Try.ntmps11
    go_wp2
    all_goals
      go_ret
      exact ⟨rfl, rfl⟩
/-- an end that was sent the first k bodies, cut short -/
def sA (ep : Int) (ls : List (List Nat)) (k : Nat) : St := ⟨ep, 0, (ls.take k).map (fun l => l.take 300), 0, fun _ => none, k⟩
theorem sA_0 (ep : Int) (ls : List (List Nat)) : sA ep ls 0 = St.new ep := rfl
theorem sA_len (ep : Int) (ls : List (List Nat)) (k : Nat) (h : k ≤ ls.length) : (sA ep ls k).wait.length = k := by simp [sA]; omega
theorem sA_send {ep : Int} {ls : List (List Nat)} {k : Nat} (hk : k < ls.length) (h40 : k < 40) : sendE (sA ep ls k) ((lth ls k).take 300) = 0 ∧ sendS (sA ep ls k) ((lth ls k).take 300) = sA ep ls (k + 1) := by
  have hl : ((lth ls k).take 300).length ≤ 300 := by rw [List.length_take]; omega
  have hw := sA_len ep ls k (by omega)
  unfold sendE sendS
  rw [if_neg (by omega), if_neg (by omega), if_neg (by omega), if_neg (by omega)]
  refine ⟨rfl, ?_⟩
  unfold stPut sA
  rw [List.take_succ_eq_append_getElem hk, List.map_append, lth_eq hk]
  rfl
theorem lth_getD (ls : List (List Nat)) (i : Nat) : ls.getD i default = lth ls i := rfl
theorem mine_at {w wr : World} {p : Nat} {s : St} (h : Mine w p s wr) : ∃ col, EndAt col 1 wr p s := by obtain ⟨col, h1, -⟩ := h; exact ⟨col, h1⟩
set_option maxRecDepth 100000 in
set_option maxHeartbeats 2000000 in
theorem alien (ep : Int) (A : Option Addr) (n c : Nat) (ls : List (List Nat)) (B : Option Addr) (m d : Nat) (fs : List Fm) (w : World) (h1 : Rs w QB 1 A n ls) (h2 : Rs w QF 5 B m fs) :
    Calls Try.prog 6 #[.int .i64 ep, .slice A n c, .slice B m d] w fun e w' => e = .returned (.bool true) ∧ Below w.heap.size w w' := by
  have hn9 := h1.2.1
  have hm9 := h2.2.1
  have hln := Lib.hid h1.1
  replace h1 := Lib.hid h1
  replace h2 := Lib.hid h2
  go_enter Try.func6, Try.ntmps6
  go_wp2_with (fail)
  refine (new_any ep w).mono ?_
  rintro e w1 ⟨p, rfl, hB1, -, -, hcol⟩
  have hM := Lib.hid (Mine.new hcol hB1)
  clear hB1 hcol
  go_wp2_with (fail)
  go_loopw [8] (fun i wr => ∃ k : Nat, k ≤ n ∧ k ≤ 40 ∧ i = .int .i64 k ∧ Hid (Mine w p (sA ep ls k) wr)) (fun i _ => n - (intOf i).toNat)
  case atStart => exact ⟨0, by omega, by omega, rfl, hM⟩
  case round =>
    clear hM
    obtain ⟨k, hk, hk40, rfl, hM⟩ := hrel
    by_cases hlt : k < n ∧ k < 40
    · obtain ⟨hlt, h40⟩ := hlt
      have hBw : Below w.heap.size w wr := by obtain ⟨col, _, _, h3, _⟩ := hM.out; exact h3
      obtain ⟨b, off, rfl, hbl, hq⟩ : ∃ b off, A = some ⟨b, off, none⟩ ∧ b < w.heap.size ∧ QB w b (off + k) (lth ls k) := by
        rcases h1.out.2.2 with h0 | ⟨b, off, e, h3, h4⟩
        · omega
        · have := h4 k hlt
          rw [Nat.mul_one] at this
          exact ⟨b, off, e, h3, this⟩
      obtain ⟨A1, c1, hc1, hbl1, hc2, hc3⟩ := hq
      have hcell := (hBw.cell (p := ⟨b, off + k, none⟩) hbl).trans hc1
      have hbt := (hbl1.below hBw).take (min (lth ls k).length 300) (by omega)
      have hte : (lth ls k).take (min (lth ls k).length 300) = (lth ls k).take 300 := by
        by_cases e : (lth ls k).length ≤ 300
        · rw [show min (lth ls k).length 300 = (lth ls k).length by omega, List.take_length, List.take_of_length_le e]
        · rw [show min (lth ls k).length 300 = 300 by omega]
      rw [hte] at hbt
      have htl : ((lth ls k).take 300).length = min (lth ls k).length 300 := hbt.1
      rw [← htl] at hbt
      have hsd := Lib.hid (sA_send (ep := ep) (ls := ls) (k := k) (by rw [hln.out]; exact hlt) h40)
      have hcn := Lib.hid (show (sA ep ls k).cnt < 1000000 from by show k < 1000000; omega)
      replace hbt := Lib.hid hbt
      replace htl := Lib.hid htl
      clear hc1 hbl1 hte hBw
      generalize (lth ls k).take 300 = T at *
      have hL9 : (lth ls k).length ≤ 9223372036854775807 := by omega
      generalize (lth ls k).length = L1 at *
      go_wp2_with (go_at_call 11; ((with_reducible refine (short_any A1 L1 c1 _ hc2 (by omega)).mono ?_); rintro e w' ⟨rfl, rfl⟩; rw [← htl.out]))
      refine (mine_send A1 c1 T hM.out hbt.out hcn.out).mono ?_
      rintro e w3 ⟨rfl, hM3⟩
      rw [hsd.out.1]
      rw [hsd.out.2] at hM3
      replace hM3 := Lib.hid hM3
      clear hM hbt hcn hsd htl hcell
      go_wp2
      go_roundw
      case rel => exact ⟨k + 1, by omega, by omega, by go_num, hM3⟩
      case measure => simp [intOf]; omega
    · have hK : Hid (k = min n 40) := Lib.hid (by omega)
      have hsl := Lib.hid (sA_len ep ls k (by rw [hln.out]; exact hk))
      have hg0 : Hid ((sA ep ls k).got = 0) := Lib.hid rfl
      have hep : Hid ((sA ep ls k).ep = ep) := Lib.hid rfl
      have hou := Lib.hid (mine_out hM.out)
      clear hM
      have hN16 : outN (sA ep ls k) ≤ 9223372036854775807 := by unfold outN; omega
      generalize sA ep ls k = S at *
      generalize hNe : outN S = N at *
      replace hNe := Lib.hid hNe
      have hqq : (k = n ∧ min n 40 = n ∧ n ≤ 40) ∨ (k = 40 ∧ 40 < n) := by omega
      have hBel : Hid (∀ wr, Mine w p S wr → Below w.heap.size w wr) := Lib.hid fun wr h => by obtain ⟨col, _, _, h3, _⟩ := h; exact h3
      rcases hqq with ⟨hq1, hq2, hq3⟩ | ⟨hq1, hq2⟩
      all_goals
        subst hq1
        clear hlt
        go_wp2_with (fail)
        refine hou.out.mono ?_
        rintro e w2 ⟨v2, rfl, hR2, hM2, -⟩
        obtain ⟨A2, rfl, hF2⟩ := FQ.of hR2 hN16
        replace hM2 := Lib.hid hM2
        replace hF2 := Lib.hid hF2
        clear hou hR2
        go_wp2
        go_loopw [10] (fun i wr => ∃ i9 : Nat, i9 ≤ m ∧ i9 ≤ 40 ∧ i = .int .i64 i9 ∧ Hid (Mine w p S wr) ∧ Hid (FQ wr A2 N (outF S))) (fun i _ => m - (intOf i).toNat)
        case atStart => exact ⟨0, by omega, by omega, rfl, hM2, hF2⟩
        case round =>
          clear hM2 hF2
          obtain ⟨i, hi, hi40, rfl, hM, hF⟩ := hrel
          by_cases hlt : i < m ∧ i < 40
          · obtain ⟨hlt, h40⟩ := hlt
            have hBw := hBel.out _ hM.out
            obtain ⟨b, off, rfl, hbl, A3, c3, ⟨g0, g1, g2, g3, g4⟩, -⟩ : ∃ b off, B = some ⟨b, off, none⟩ ∧ b < w.heap.size ∧ QF w b (off + i * 5) (fs.getD i default) := by
              rcases h2.out.2.2 with h0 | ⟨b, off, e, h3, h4⟩
              · omega
              · exact ⟨b, off, e, h3, h4 i hlt⟩
            generalize fs.getD i default = F at *
            have ge : ∀ o, wr.cell? ⟨b, o, none⟩ = w.cell? ⟨b, o, none⟩ := fun o => hBw.cell (p := ⟨b, o, none⟩) hbl
            rw [← ge] at g0 g1 g2 g3 g4
            clear ge hBw
            by_cases hep' : F.e = ep
            · have heq : (F.e == ep) = true := by rw [beq_iff_eq]; exact hep'
              rw [hep'] at g1
              clear heq hep'
              go_wp2
              go_roundw
              case rel => exact ⟨i + 1, by omega, by omega, by go_num, hM, hF⟩
              case measure => simp [intOf]; omega
            · have heq : (F.e == ep) = false := by rw [beq_eq_false_iff_ne]; exact hep'
              have hne := Lib.hid (show F.e ≠ S.ep from by rw [hep.out]; exact hep')
              clear hep'
              obtain ⟨colx, hEx⟩ := mine_at hM.out
              replace hEx := Lib.hid hEx
              go_wp2_with (fail)
              refine (kind_any F A3 c3 wr hEx.out hne.out).mono ?_
              rintro e w3 ⟨rfl, hB3⟩
              have hM3 := Lib.hid (hM.out.below hB3)
              have hF3 := Lib.hid (hF.out.below hB3)
              clear hEx hM hF hB3 g0 g1 g2 g3 g4
              go_wp2
              go_roundw
              case rel => exact ⟨i + 1, by omega, by omega, by go_num, hM3, hF3⟩
              case measure => simp [intOf]; omega
          · have hi2 : (i = m) ∨ (i = 40 ∧ 40 < m) := by omega
            clear hlt
            rcases hi2 with hi2 | ⟨hi2, hi3⟩
            all_goals
              subst hi2
              go_wp2_with (fail)
              refine (awake_any wr).mono ?_
              rintro e w4 ⟨rfl, hB4⟩
              have hM4 := Lib.hid (hM.out.below hB4)
              have hF4 := Lib.hid (hF.out.below hB4)
              clear hM hF hB4
              go_wp2_with (fail)
              refine (mine_out hM4.out).mono ?_
              rintro e w5 ⟨v5, rfl, hR5, hM5, hB5⟩
              rw [hNe.out] at hR5
              obtain ⟨A5, rfl, hF5⟩ := FQ.of hR5 hN16
              have hF4' := Lib.hid (hF4.out.below hB5)
              replace hM5 := Lib.hid hM5
              replace hF5 := Lib.hid hF5
              clear hR5 hB5 hF4 hM4
              go_wp2_with (fail)
              refine (alike_any A5 N N A2 N (outF S) w5 hF5.out hF4'.out).mono ?_
              rintro e w6 ⟨rfl, hB6⟩
              have hM6 := Lib.hid (hM5.out.below hB6)
              have hBf := Lib.hid (hBel.out _ hM6.out)
              clear hM5 hF4' hF5 hB6
              go_wp2_with (first
                | (go_at_call 23; ((with_reducible refine (mine_got hM6.out).mono ?_); rintro e w' ⟨rfl, rfl⟩; rw [hg0.out]))
                | (go_at_call 22; ((with_reducible refine (mine_waiting hM6.out).mono ?_); rintro e w' ⟨rfl, rfl⟩; rw [hsl.out])))
              go_ret
              exact ⟨rfl, hBf.out⟩
end Go.Proofs.Ythiadkpndemeeaa.lnkM
