/- The document's Ways. -/
import Derived.Test.YtggoaglcffdcnaaNetSc
import Derived.Test.YtggoaglcffdcnaaNetW
namespace Go.Proofs.Ytggoaglcffdcnaa.netSg
open Go.ChangeShapes Go.WideShapes Go.ChangeAt Go.RowKit Go.Deep
open numM rowA byt numA numB numC netA netB netC netW netP netQ netR

def c2 (x : Nat × Nat) : List Value := [.int .i64 (x.1 : Int), .int .i64 (x.2 : Int)]
theorem c2_len (x : Nat × Nat) : (c2 x).length = 2 := rfl
theorem infoW : (Try.prog.info? 41).map (fun i => (i.zero, i.size, i.bytes)) = some (some (.agg #[.int .i64 0, .int .i64 0]), 2, 16) := by kernel_rfl
theorem wsF_len (len : Nat → Nat) : ∀ m n, (wsF len m n).length ≤ m
  | 0, _ => Nat.le_refl _
  | m + 1, n => by
    show (if len n = 0 then wsF len m (n + 1) else (n / 21, n % 21) :: wsF len m (n + 1)).length ≤ _
    have h := wsF_len len m (n + 1)
    split
    · omega
    · rw [List.length_cons]; omega
def lnD (d : Dn) (k : Nat) : Nat := cnt ((k / 21 : Nat) : Int) ((k % 21 : Nat) : Int) d.row
theorem lnD_at (d : Dn) {f t : Nat} (ht : t < 21) : lnD d (f * 21 + t) = cnt (f : Int) (t : Int) d.row := by
  unfold lnD
  rw [show (f * 21 + t) / 21 = f by omega, show (f * 21 + t) % 21 = t by omega]
set_option maxRecDepth 100000 in
set_option maxHeartbeats 4000000 in
theorem dways_any {col : Nat → Nat} {c q : Nat} {d : Dn} (w : World) (h : DocAt col c w q d) : Calls Try.prog 14 #[.pointer (some ⟨q, 0, none⟩)] w fun e w' =>
    ∃ v, e = .returned v ∧ w'.ownsRow w.heap.size 41 2 v (wsn (lnD d) 0).length (fl c2 (wsn (lnD d) 0)) ∧ Below w.heap.size w w' := by
  have hle := Lib.hid (fun (w' : World) (hB : Below w.heap.size w w') (f t : Int) => dlen_any f t w' (h.below hB))
  have hnx0 := fun f t (hf : f < 21) (ht : t < 21) => lnD_at d (f := f) ht
  have h441 : (wsn (lnD d) 0).length ≤ 441 := wsF_len _ _ _
  obtain ⟨i0, hi0, hz0, hz1, hz2⟩ := info_parts infoW
  clear h
  have hln := Lib.hid hnx0
  clear hnx0
  generalize lnD d = len at *
  go_enter Try.func14, Try.ntmps14
  go_wp2
  go_loopw [3, 4] (fun v i wr => ∃ (f : Nat) (pre : List (Nat × Nat)), f ≤ 21 ∧ i = .int .i64 f ∧ Hid (wsn len 0 = pre ++ wsn len (f * 21)) ∧ Hid (wr.ownsRow w.heap.size 41 2 v pre.length (fl c2 pre)) ∧ Hid (Below w.heap.size w wr)) (fun _ i _ => 21 - (intOf i).toNat)
  case atStart => exact ⟨0, [], by omega, rfl, Lib.hid rfl, Lib.hid (World.ownsRow_nil _ _ _ 2), Lib.hid (Below.refl _ _)⟩
  case round =>
    obtain ⟨f, pre, hf, rfl, hpre, hO, hB⟩ := hrel
    by_cases hlt : f < 21
    · have hf1 : (f : Int) ≤ 20 := by omega
      go_wp2
      go_loopw [3, 5] (fun v i wr => ∃ (t : Nat) (pre : List (Nat × Nat)), t ≤ 21 ∧ i = .int .i64 t ∧ Hid (wsn len 0 = pre ++ wsn len (f * 21 + t)) ∧ Hid (wr.ownsRow w.heap.size 41 2 v pre.length (fl c2 pre)) ∧ Hid (Below w.heap.size w wr)) (fun _ i _ => 21 - (intOf i).toNat)
      case atStart => exact ⟨0, pre, by omega, rfl, hpre, hO, hB⟩
      case round =>
        clear hpre hO hB
        obtain ⟨t, pre, ht, rfl, hpre, hO, hB⟩ := hrel
        by_cases hlq : t < 21
        · have ht1 : (t : Int) ≤ 20 := by omega
          have hL := Lib.hid (hle.out _ hB.out f t)
          rw [← hln.out f t hlt hlq] at hL
          have hlen : pre.length ≤ 441 := by rw [hpre.out, List.length_append] at h441; omega
          by_cases he : len (f * 21 + t) = 0
          · have hnx := Lib.hid (hpre.out.trans (by rw [wsn_no (len := len) (n := f * 21 + t) (by omega) he]; rfl : _ = pre ++ wsn len (f * 21 + (t + 1))))
            rw [he] at hL
            clear he hpre
            go_wp2_with (go_at_call 13; ((with_reducible refine (hL.out).mono ?_); rintro e w' ⟨rfl, rfl⟩))
            go_roundw
            case rel => exact ⟨t + 1, pre, by omega, by go_num, hnx, hO, hB⟩
            case measure => simp [intOf]; omega
          · have hnx := Lib.hid (hpre.out.trans (by rw [wsn_yes (len := len) hlt hlq he, List.append_assoc]; rfl : _ = (pre ++ [(f, t)]) ++ wsn len (f * 21 + (t + 1))))
            have hpos : (0 : Int) < (len (f * 21 + t) : Int) := by omega
            have hls := Lib.hid (show pre.length + 1 ≤ maxLen by unfold maxLen; omega)
            have hsz := hB.out.size
            clear he hpre
            generalize len (f * 21 + t) = L at *
            go_wp2_with (first
              | (go_at_call 13; ((with_reducible refine (hL.out).mono ?_); rintro e w' ⟨rfl, rfl⟩))
              | (at_builtin; refine wpList_gen rfl (.tmp 19) (.tmp 23) 36 rfl w.heap.size 41 i0 _ 2 16 Try.underlying36 hi0 hz0 hz1 hz2 rfl (by decide) _ pre.length (fl c2 pre) (by rfl) (World.ownsRow.alloc hO.out _) (some ⟨_, 0, none⟩) 1 1 [_, _] (by rfl) rfl (stand_new _ _ _ _) (by intro u hu; simp only [List.mem_cons, List.not_mem_nil, or_false] at hu; rcases hu with rfl | rfl <;> rfl) hls.out (by omega) (by rw [World.size_alloc]; omega) ?_; intro A9 c9 w9 hr9 hg9 hat9; have hB9 := Lib.hid ((trans0 hB.out (al0 _ _)).grown hg9 (by rw [World.size_alloc]; omega) (fun b e => (hO.out.lt b e).1)); have hr9' := Lib.hid hr9; clear hr9 hg9 hat9))
            go_roundw
            case rel => exact ⟨t + 1, pre ++ [(f, t)], by omega, by go_num, hnx, Lib.hid (by rw [fl_app, fl_one, List.length_append]; exact hr9'.out), hB9⟩
            case measure => simp [intOf]; omega
        · obtain rfl : t = 21 := by omega
          go_wp2
          go_roundw
          case rel => exact ⟨f + 1, pre, by omega, by go_num, Lib.hid (by rw [show (f + 1) * 21 = f * 21 + 21 by omega]; exact hpre.out), hO, hB⟩
          case measure => simp [intOf]; omega
    · obtain rfl : f = 21 := by omega
      have hE := hpre.out
      rw [show 21 * 21 = 441 from rfl, wsn_end, List.append_nil] at hE
      clear hpre
      subst hE
      go_wp2
      go_ret
      exact ⟨_, rfl, hO.out, hB.out⟩
end Go.Proofs.Ytggoaglcffdcnaa.netSg
