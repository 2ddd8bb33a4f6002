/- The document's settle, Complete, Heard. -/
import Derived.Test.YtbfepdibblialaaInU
set_option linter.unusedVariables false
set_option linter.unusedSimpArgs false
set_option maxRecDepth 100000
namespace Go.Proofs.Ytbfepdibblialaa.inV
open Go.ChangeShapes Go.WideShapes Go.ChangeAt Go.RowKit Go.Deep
open opG opV opR chnM gen chnA chnR chnE ordA ordB ordC ordCr ordE2 inM inW inL inN inP inPt inG inD inA inK inQ inR inU

def gj (hs : List (Int × Int)) (ap g : Int) (j : Nat) : Int := (hs.take j).foldl (stp ap) g
theorem gj_0 (hs : List (Int × Int)) (ap g : Int) : gj hs ap g 0 = g := rfl
theorem gj_next {hs : List (Int × Int)} {ap g : Int} {j : Nat} {x : Int × Int} (h : hs[j]? = some x) : gj hs ap g (j + 1) = stp ap (gj hs ap g j) x := by
  unfold gj
  have h1 := (List.getElem?_eq_some_iff.1 h).1
  rw [List.take_succ_eq_append_getElem h1, List.foldl_append, (List.getElem?_eq_some_iff.1 h).2]
  rfl
theorem gj_end (hs : List (Int × Int)) (ap g : Int) : gj hs ap g hs.length = hs.foldl (stp ap) g := by unfold gj; rw [List.take_length]
theorem quiet2 {P : Program} {f : FuncId} {args : Array Value} {w : World} {n : Nat} {v : Value} (h : Calls P f args (w.drewN n) fun e w' => e = .returned v ∧ w.drewN n = w') :
    Calls P f args (w.drewN n) fun e w'' => e = .returned v ∧ ∃ m, w'' = w.drewN m := h.mono fun _ _ ⟨he, hm⟩ => ⟨he, n, hm.symm⟩
/-- what settle reads -/
abbrev SH (q bh oh j : Nat) (Ah : Option Addr) (n ch : Nat) (x : Int × Int) (g : Int) (w : World) : Prop := (w.cell? ⟨q, 4, none⟩ = some (.slice Ah n ch) ∧ w.cell? ⟨q, 5, none⟩ = some (.int .u64 g)) ∧ w.cell? ⟨bh, oh + j * 2, none⟩ = some (.int .u64 x.1) ∧ w.cell? ⟨bh, oh + j * 2 + 1, none⟩ = some (.int .i64 x.2)
section
variable {col : Nat → Nat} {c q : Nat} {S : Bx} {f hd g : Int} {Ac Ad Ah : Option Addr} {cc cd ch : Nat} {xd : List Bool} {ms : List MR} {hs : List (Int × Int)} {w : World}
set_option maxHeartbeats 4000000 in
theorem settle_any (w : World) (h : DocM col c w q f Ac cc ms hd Ad cd xd Ah ch hs g) (hc : c ≠ 0) (h0 : 0 ≤ f) (h9 : f ≤ 1152921504606847976) (hl : xd.length ≤ 150) (hhl : hs.length ≤ 200) :
    Calls Try.prog 32 #[.pointer (some ⟨q, 0, none⟩)] w fun e w' => e = .returned (.tuple #[]) ∧ Chg col c w w' ∧ DocM col c w' q f Ac cc ms hd Ad cd xd Ah ch hs (hs.foldl (stp (f + lead xd)) g) := by
  have hD0 : Hid (Chg col c w w ∧ DocM col c w q f Ac cc ms hd Ad cd xd Ah ch hs (gj hs (f + lead xd) g 0)) := Lib.hid ⟨Chg.refl _ _ _, h⟩
  obtain ⟨ap, hap⟩ : ∃ ap : Int, f + (lead xd : Nat) = ap := ⟨_, rfl⟩
  have hend := gj_end hs ap g
  have hapc := Lib.hid (fun w' gg (h : DocM col c w' q f Ac cc ms hd Ad cd xd Ah ch hs gg) => dapplied_any w' h h0 h9 hl)
  rw [hap] at hD0 hapc ⊢
  rw [← hend]
  clear h hap hend
  go_enter Try.func32, Try.ntmps32
  go_wp2
  go_loopw [2] (fun i wr => ∃ j : Nat, i = .int .i64 j ∧ j ≤ hs.length ∧ Hid (Chg col c w wr ∧ DocM col c wr q f Ac cc ms hd Ad cd xd Ah ch hs (gj hs ap g j))) (fun i _ => hs.length - (intOf i).toNat)
  case atStart => exact ⟨0, rfl, by omega, hD0⟩
  case round =>
    clear hD0
    obtain ⟨j, rfl, hj, hD⟩ := hrel
    obtain ⟨k0, k1, k2, k3, k4, k5⟩ := hD.out.2.cells
    by_cases hlt : j < hs.length
    · have hjI : (j : Int) < (hs.length : Int) := by omega
      obtain ⟨x, hx⟩ : ∃ x, hs[j]? = some x := ⟨_, List.getElem?_eq_getElem hlt⟩
      obtain ⟨bh, oh, rfl, hbh, x0, x1⟩ := docM_heart hD.out.2 hx
      have hgn := gj_next (ap := ap) (g := g) hx
      have hDn := Lib.hid (fun nn => And.intro (hD.out.1.then (bdrN nn (Below.refl wr.heap.size wr))) (hD.out.2.below (bdrN nn (Below.refl wr.heap.size wr))))
      have hcl := Lib.hid (fun nn => hapc.out _ _ (hDn.out nn).2)
      have hset := Lib.hid (fun nn => (hDn.out nn).2.setG hc x.1)
      have hkd := Lib.hid (fun nn => (show SH q bh oh j (some ⟨bh, oh, none⟩) hs.length ch x (gj hs ap g j) (wr.drewN nn) ∧ (wr.drewN nn).frozen? ⟨q, 5, none⟩ = false from ⟨⟨⟨k4, k5⟩, x0, x1⟩, hD.out.2.fz 5⟩))
      obtain ⟨G', hG'⟩ : ∃ G', gj hs ap g (j + 1) = G' := ⟨_, rfl⟩
      rw [hG'] at hgn
      replace hG' := Lib.hid hG'
      generalize gj hs ap g j = G at *
      by_cases ha : x.2 ≤ ap
      · have hgd : Hid ((G < x.1 ∧ G' = x.1) ∨ (¬ G < x.1 ∧ G' = G)) := Lib.hid (by
          rw [hgn]
          unfold stp
          by_cases hgx : G < x.1
          · exact .inl ⟨hgx, if_pos ⟨ha, hgx⟩⟩
          · exact .inr ⟨hgx, if_neg (fun h => hgx h.2)⟩)
        have hle : decide (x.2 ≤ ap) = true := decide_eq_true ha
        clear hgn k0 k1 k2 k3 hD ha
        go_upto_region 3 with (fail)
        go_quiet ((go_at_call 23; exact quiet2 (hcl.out _)))
        obtain ⟨⟨⟨k4', k5'⟩, x0', x1'⟩, f5⟩ := hkd.out nq
        obtain ⟨s1, s2⟩ := hset.out nq
        have hc6 := Lib.hid ((hDn.out nq).1.tran s1)
        have hDq := Lib.hid (hDn.out nq)
        clear k4 k5 x0 x1 hkd hset hDn hcl
        generalize wr.drewN nq = W2 at *
        replace s2 := Lib.hid s2
        clear s1
        rcases hgd.out with ⟨y1, rfl⟩ | ⟨y1, rfl⟩
        · go_wp2
          go_roundw
          case rel => exact ⟨j + 1, by go_num, by omega, Lib.hid ⟨hc6.out, by rw [hG'.out]; exact s2.out⟩⟩
          case measure => simp [intOf]; omega
        · go_wp2
          go_roundw
          case rel => exact ⟨j + 1, by go_num, by omega, Lib.hid ⟨hDq.out.1, by rw [hG'.out]; exact hDq.out.2⟩⟩
          case measure => simp [intOf]; omega
      · have hgd : G' = G := by rw [hgn]; exact if_neg (fun h => ha h.1)
        have hle : decide (x.2 ≤ ap) = false := decide_eq_false ha
        clear hgn k0 k1 k2 k3 hD ha hset hkd
        go_upto_region 3 with (fail)
        go_quiet ((go_at_call 23; exact quiet2 (hcl.out _)))
        have hDq := Lib.hid (hDn.out nq)
        clear k4 k5 x0 x1 hDn hcl
        generalize wr.drewN nq = W2 at *
        go_wp2
        go_roundw
        case rel => exact ⟨j + 1, by go_num, by omega, Lib.hid ⟨hDq.out.1, by rw [hG'.out, hgd]; exact hDq.out.2⟩⟩
        case measure => simp [intOf]; omega
    · obtain rfl : j = hs.length := by omega
      clear hapc
      go_wp2
      go_end0
      exact ⟨rfl, hD.out⟩
end
end Go.Proofs.Ytbfepdibblialaa.inV
