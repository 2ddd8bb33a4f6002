/- Of each key and mark the first version. -/
import Derived.Test.YtlojmojmijklmaaStoO
import Derived.Test.YtlojmojmijklmaaStoL
import Derived.Test.YtlojmojmijklmaaStoB
import Derived.Test.YtlojmojmijklmaaChnG
import Derived.WalkMore
import Derived.Deep.LoopGhost
set_option linter.unusedVariables false
set_option maxRecDepth 100000
namespace Go.Proofs.Ytlojmojmijklmaa.stoOn
open Go.ChangeShapes Go.WideShapes Go.ChangeAt Go.RowKit Go.Shelf
open opV chnM gen chnA chnB chnR chnE chnG chnT stoM stoA stoL stoB stoO
attribute [local go_sem high] bin_slt bin_sle bin_sge bin_sgt bin_seq bin_sne
attribute [local go_sem] Oper.semAt_some

def sm (x v : Ver) : Bool := decide (x.key = v.key) && (decide (x.ts = v.ts) && (decide (x.dc = v.dc) && decide (x.tx = v.tx)))
theorem sm_iff (x v : Ver) : sm x v = true ↔ x.key = v.key ∧ mk3 x = mk3 v := by
  unfold sm
  rw [mk_iff]
  simp
def onL (l : List Ver) : Nat → List Ver
  | 0 => []
  | j + 1 => if (onL l j).any (fun x => sm x (nt l j)) = true then onL l j else onL l j ++ [nt l j]
theorem onL_len (l : List Ver) : ∀ j, (onL l j).length ≤ j
  | 0 => Nat.le_refl _
  | j + 1 => by
    have := onL_len l j
    unfold onL
    split
    · omega
    · rw [List.length_append, List.length_singleton]; omega
theorem onL_dis (l : List Ver) : ∀ j, (onL l j).Pairwise Dis
  | 0 => List.Pairwise.nil
  | j + 1 => by
    have := onL_dis l j
    unfold onL
    split
    · exact this
    · rename_i h
      rw [List.pairwise_append]
      refine ⟨this, List.pairwise_singleton _ _, fun a ha b hb => ?_⟩
      obtain rfl := List.mem_singleton.1 hb
      intro hk hm
      exact h (List.any_eq_true.2 ⟨a, ha, (sm_iff _ _).2 ⟨hk, hm⟩⟩)
theorem onL_step {l : List Ver} {j : Nat} (h : ∀ i, i < (onL l j).length → sm (nt (onL l j) i) (nt l j) = false) : onL l (j + 1) = onL l j ++ [nt l j] := by
  show (if _ then _ else _) = _
  rw [if_neg]
  intro e
  obtain ⟨x, hx, hs⟩ := List.any_eq_true.1 e
  obtain ⟨i, hi, rfl⟩ := mem_nt hx
  rw [h i hi] at hs; cases hs
theorem onL_stay {l : List Ver} {j i : Nat} (hi : i < (onL l j).length) (h : sm (nt (onL l j) i) (nt l j) = true) : onL l (j + 1) = onL l j := by
  show (if _ then _ else _) = _
  rw [if_pos (List.any_eq_true.2 ⟨_, nt_mem hi, h⟩)]
set_option maxHeartbeats 4000000 in
theorem once_any (A : Option Addr) (c : Nat) (l : List Ver) (w : World) (h : HV w A c l) (hl : l.length ≤ 60000) :
    Calls Try.prog 29 #[.slice A l.length c] w (RV (onL l l.length) w) := by
  obtain ⟨iV, hiV, hzV0, hzV1, hzV2⟩ := info_parts infoV
  replace h := Lib.hid h
  go_enter Try.func29, Try.ntmps29
  go_wp2
  go_step3
  go_wp2
  go_step3
  go_wp2
  go_loopg [3, 10] l.length (fun k s i wr => ∃ (j : Nat) (r : List Ver) (A' : Option Addr) (c' : Nat), j + k = l.length ∧ s = .slice A' r.length c' ∧ i = .int .i64 j ∧ Hid (r = onL l j) ∧ Hid (GV wr w.heap.size A' c' r) ∧ Hid (Below w.heap.size w wr))
  case atStart => exact ⟨0, [], none, 0, by omega, rfl, rfl, Lib.hid rfl, Lib.hid (GV.nil_ _ _), Lib.hid (Below.refl _ _)⟩
  case round =>
    obtain ⟨j, r, A', c', hj, rfl, rfl, hr, hG, hB⟩ := hrel
    have hj0 : j ≤ l.length := by omega
    by_cases hlt : j < l.length
    · obtain ⟨pb, po, rfl, hpb, hc⟩ := (h.out.below hB.out).at hlt
      have hjI : (j : Int) < (l.length : Int) := by omega
      have hrj : r.length ≤ j := by rw [hr.out]; exact onL_len l j
      have hstep := Lib.hid (fun h => onL_step (l := l) (j := j) h)
      have hstay := Lib.hid (fun (i : Nat) (hi : i < (onL l j).length) (hs : sm (nt (onL l j) i) (nt l j) = true) => onL_stay hi hs)
      rw [← hr.out] at hstep hstay
      generalize nt l j = v at *
      obtain ⟨c0, c1, c2, c3, c4, c5⟩ := hc
      obtain ⟨W1, hW1⟩ : ∃ W1, wr.alloc (.cells #[.string v.key, .string v.val, .bool v.gone, .int .u64 v.ts, .int .i64 v.dc, .int .i64 v.tx] 35) = W1 := ⟨_, rfl⟩
      have hal : Below wr.heap.size wr W1 := by rw [← hW1]; exact al0 _ _
      have hvb : V6 wr.heap.size 0 v W1 := by rw [← hW1]; exact V6.new wr v _
      have hB1 := Lib.hid (trans0 hB.out hal)
      have hG1 := Lib.hid (hG.out.below hal)
      replace hvb := Lib.hid hvb
      replace hW1 := Lib.hid hW1
      clear hB hG hal
      go_wp2
      rw [hW1.out]
      clear c0 c1 c2 c3 c4 c5 hW1
      go_loopg [16] r.length (fun k i wr => ∃ q : Nat, q + k = r.length ∧ i = .int .i64 q ∧ Hid (∀ t, t < q → sm (nt r t) v = false) ∧ Hid (Below W1.heap.size W1 wr))
      case atStart => exact ⟨0, by omega, rfl, Lib.hid (fun t ht => by omega), Lib.hid (Below.refl _ _)⟩
      case round =>
        obtain ⟨q, hq, rfl, hno, hB2⟩ := hrel
        have hq0 : q ≤ r.length := by omega
        have hv2 := (hvb.out).below hB2.out
        have hG2 := hG1.out.below hB2.out
        by_cases hql : q < r.length
        · have hqI : (q : Int) < (r.length : Int) := by omega
          obtain ⟨rb, ro, rfl, hrb, hd⟩ := (hG2.hv (by omega)).at hql
          have hst2 := Lib.hid (fun hs => hstay.out q hql hs)
          have hno2 := Lib.hid (fun (hs : sm (nt r q) v = false) t (ht : t < q + 1) => (show sm (nt r t) v = false from if e : t = q then e ▸ hs else hno.out t (by omega)))
          generalize nt r q = x at *
          obtain ⟨e0, e1, e2, e3, e4, e5⟩ := hv2
          obtain ⟨W2, hW2⟩ : ∃ W2, wr.alloc (.cells #[.string x.key, .string x.val, .bool x.gone, .int .u64 x.ts, .int .i64 x.dc, .int .i64 x.tx] 35) = W2 := ⟨_, rfl⟩
          have hal2 : Below wr.heap.size wr W2 := by rw [← hW2]; exact al0 _ _
          have hxb : V6 wr.heap.size 0 x W2 := by rw [← hW2]; exact V6.new wr x _
          obtain ⟨y0, y1, y2, y3, y4, y5⟩ := hxb
          have f0 := keep_cell hal2 e0
          have f3 := keep_cell hal2 e3
          have f4 := keep_cell hal2 e4
          have f5 := keep_cell hal2 e5
          rw [← hW2] at f0 f3 f4 f5 y0 y3 y4 y5
          obtain ⟨d0, d1, d2, d3, d4, d5⟩ := hd
          have hBn := Lib.hid (trans0 hB2.out hal2)
          have hGn := Lib.hid (hG2.below hal2)
          replace hW2 := Lib.hid hW2
          clear e1 e2 hal2 hG2 y1 y2 hG1 hB2
          have hsm : Hid (sm x v = (decide (x.key = v.key) && (decide (x.ts = v.ts) && (decide (x.dc = v.dc) && decide (x.tx = v.tx))))) := Lib.hid rfl
          by_cases k0 : x.key = v.key
          · have q0 : seq x.key v.key = true := (seq_iff _ _).2 k0
            by_cases k1 : x.ts = v.ts
            · by_cases k2 : x.dc = v.dc
              · by_cases k3 : x.tx = v.tx
                · have hs := Lib.hid (hst2.out (by rw [hsm.out]; simp [k0, k1, k2, k3]))
                  have q1 : (x.ts == v.ts) = true := beq_iff_eq.2 k1
                  have q2 : (x.dc == v.dc) = true := beq_iff_eq.2 k2
                  have q3 : (x.tx == v.tx) = true := beq_iff_eq.2 k3
                  have hB9 := Lib.hid (trans0 hB1.out hBn.out)
                  clear hst2 hno2 hsm hstep hstay hno k0 k1 k2 k3
                  go_wp2
                  rw [hW2.out]
                  go_roundg (l.length - (j + 1))
                  case rel => exact ⟨j + 1, r, _, c', by omega, rfl, by go_num, Lib.hid hs.out.symm, hGn, hB9⟩
                  case measure => omega
                · have q1 : (x.ts == v.ts) = true := beq_iff_eq.2 k1
                  have q2 : (x.dc == v.dc) = true := beq_iff_eq.2 k2
                  have q3 : (x.tx == v.tx) = false := beq_eq_false_iff_ne.2 k3
                  have hs := Lib.hid (hno2.out (by rw [hsm.out]; simp [k0, k1, k2, k3]))
                  clear hst2 hno2 hsm hstep hstay hno k0 k1 k2 k3
                  go_wp2
                  rw [hW2.out]
                  go_roundg (r.length - (q + 1))
                  case rel => exact ⟨q + 1, by omega, by go_num, hs, hBn⟩
                  case measure => omega
              · have q1 : (x.ts == v.ts) = true := beq_iff_eq.2 k1
                have q2 : (x.dc == v.dc) = false := beq_eq_false_iff_ne.2 k2
                have hs := Lib.hid (hno2.out (by rw [hsm.out]; simp [k0, k1, k2]))
                clear hst2 hno2 hsm hstep hstay hno k0 k1 k2
                go_wp2
                rw [hW2.out]
                go_roundg (r.length - (q + 1))
                case rel => exact ⟨q + 1, by omega, by go_num, hs, hBn⟩
                case measure => omega
            · have q1 : (x.ts == v.ts) = false := beq_eq_false_iff_ne.2 k1
              have hs := Lib.hid (hno2.out (by rw [hsm.out]; simp [k0, k1]))
              clear hst2 hno2 hsm hstep hstay hno k0 k1
              go_wp2
              rw [hW2.out]
              go_roundg (r.length - (q + 1))
              case rel => exact ⟨q + 1, by omega, by go_num, hs, hBn⟩
              case measure => omega
          · have q0 : seq x.key v.key = false := seq_ne k0
            have hs := Lib.hid (hno2.out (by rw [hsm.out]; simp [k0]))
            clear hst2 hno2 hsm hstep hstay hno
            go_wp2
            rw [hW2.out]
            go_roundg (r.length - (q + 1))
            case rel => exact ⟨q + 1, by omega, by go_num, hs, hBn⟩
            case measure => omega
        · obtain rfl : q = r.length := by omega
          have hk2 := Lib.hid (hstep.out hno.out)
          have hG3 := Lib.hid (hG1.out.below hB2.out)
          have hB3 := Lib.hid (trans0 hB1.out hB2.out)
          obtain ⟨e0, e1, e2, e3, e4, e5⟩ := hv2
          have hls : Hid (r.length + 1 ≤ maxLen ∧ (r.length + 1) * 64 ≤ 140737488355328 ∧ w.heap.size ≤ (wr.alloc (.cells #[.string v.key, .string v.val, .bool v.gone, .int .u64 v.ts, .int .i64 v.dc, .int .i64 v.tx] 35)).heap.size) := Lib.hid ⟨by unfold maxLen; omega, by omega, (bal hB3.out _).size⟩
          clear hstep hstay hno hG2 hB2 hG1
          go_wp2_with (at_builtin; go_must (refine wpList_gen rfl (.tmp 47) (.tmp 49) 30 rfl w.heap.size 35 iV _ 6 64 Try.underlying30 hiV hzV0 hzV1 hzV2 rfl (by decide) _ r.length (fl r) (by rfl) (World.ownsRow.alloc hG3.out _) (some ⟨_, 0, none⟩) 1 1 [_, _, _, _, _, _] (by rfl) rfl (stand_at (by simp)) (six_one rfl rfl rfl rfl rfl rfl) hls.out.1 hls.out.2.1 hls.out.2.2 ?_); intro A9 c9 w9 hr9 hg9 hat9; obtain ⟨hG9, hB9⟩ := grow_on hB3.out hG3.out (Nat.le_refl _) (al0 _ _) hr9 hg9; have hG9' := Lib.hid hG9; have hB9' := Lib.hid hB9; clear hr9 hg9 hat9 hG9 hB9)
          go_roundg (l.length - (j + 1))
          case rel => exact ⟨j + 1, r ++ [v], A9, c9, by omega, by rw [len_on], by go_num, Lib.hid hk2.out.symm, hG9', hB9'⟩
          case measure => omega
    · obtain rfl : j = l.length := by omega
      have hfin := Lib.hid (show RV (onL l l.length) w (.returned (.slice A' r.length c')) wr from ⟨A', c', by rw [← hr.out], by rw [← hr.out]; exact hG.out, hB.out⟩)
      clear hr hG hB
      go_wp2
      rw [Exit.noGoto_ret]
      go_ret
      exact hfin.out
end Go.Proofs.Ytlojmojmijklmaa.stoOn
