/- awake; Load of a nil store. -/
import Derived.Test.YtlojmojmijklmaaStoPr
import Derived.Test.YtlojmojmijklmaaStoG
set_option linter.unusedVariables false
set_option maxRecDepth 100000
namespace Go.Proofs.Ytlojmojmijklmaa.stoW
open Go.ChangeShapes Go.WideShapes Go.ChangeAt Go.RowKit Go.Deep
open opV chnM gen chnA chnB chnR chnE chnT stoM stoA stoL stoB stoC stoP stoPr stoG

def va : Ver := ⟨{ data := #[97] }, { data := #[] }, false, 3, 0, 0⟩
theorem va_chk : chk va = 0 := by
  have h1 : seq va.key emp = false := seq_ne (fun e => by have h2 : (1 : Nat) = 0 := congrArg ByteArray.size e; cases h2)
  unfold chk
  have hs : va.key.size = 1 ∧ va.val.size = 0 := ⟨rfl, rfl⟩
  rw [if_neg (by omega), if_neg]
  rintro (h | h | h | h)
  · rw [h1] at h; cases h
  · cases h.1
  · exact h ⟨by decide, by decide⟩
  · exact h ⟨by decide, by decide⟩
theorem va_of : of St.new.ch va.key = [] := rfl
theorem va_put : puE St.new va = 0 := by
  unfold puE
  rw [if_neg (by rw [va_chk]; simp), va_of]
  have h1 : putE [] va = 0 := rfl
  rw [if_neg (by rw [h1]; simp)]
  have h2 : atB [] St.new.fl = false := rfl
  rw [h2]; rfl
theorem va_puC : puC St.new va = [va] := by
  unfold puC
  rw [va_of]
  have h1 : put [] va = [va] := rfl
  rw [h1]
  exact trm_all (at_none (fun x hx => by rw [List.mem_singleton.1 hx]; decide)).1
theorem va_at : gtB (puS St.new va) va.key 3 = true ∧ gtV (puS St.new va) va.key 3 = va ∧ gtE (puS St.new va) 3 = 0 := by
  have e : puS St.new va = ⟨stC St.new.ch va.key (puC St.new va), 0⟩ := by unfold puS; rw [if_pos va_put]; rfl
  have h1 : of (puS St.new va).ch va.key = [va] := by
    rw [e]
    show of (stC St.new.ch va.key (puC St.new va)) va.key = _
    rw [of_stC Inv.new.srt, if_pos rfl, va_puC]
  have hf : (puS St.new va).fl = 0 := by rw [e]
  have hb : atB [va] 3 = true := at_some (List.mem_singleton.2 rfl) (by decide)
  unfold gtB gtV gtE
  rw [hf, h1, if_neg (by decide), if_neg (by decide), if_neg (by decide)]
  exact ⟨hb, List.mem_singleton.1 (at_yes hb).1, rfl⟩
set_option maxHeartbeats 1000000 in
theorem awake_any (w : World) : Calls Try.prog 28 #[] w fun e w' => e = .returned (.bool true) ∧ Below w.heap.size w w' := by
  have hn := new_any w
  have hp : ∀ S b w1, SAt (own2 S b) w1 S b St.new → Calls Try.prog 11 #[.pointer (some ⟨S, 0, none⟩), .agg #[.string { data := #[97] }, .string { data := #[] }, .bool false, .int .u64 3, .int .i64 0, .int .i64 0]] w1 fun e w' => e = .returned (.int .i64 0) ∧ Chg (own2 S b) w1 w' ∧ SAt (own2 S b) w' S b (puS St.new va) := by
    intro S b w1 h
    refine (put_any va w1 h (by decide)).mono ?_
    rintro e w' ⟨rfl, h1, h2⟩
    exact ⟨by rw [va_put]; rfl, h1, h2⟩
  have hg : ∀ S b w1, SAt (own2 S b) w1 S b (puS St.new va) → Calls Try.prog 17 #[.pointer (some ⟨S, 0, none⟩), .string { data := #[97] }, .int .u64 3] w1 fun e w' => e = .returned (.tuple #[.agg #[.string { data := #[97] }, .string { data := #[] }, .bool false, .int .u64 3, .int .i64 0, .int .i64 0], .bool true, .int .i64 0]) ∧ Below w1.heap.size w1 w' := by
    intro S b w1 h
    obtain ⟨g1, g2, g3⟩ := va_at
    refine (get_any va.key 3 w1 h (by decide)).mono ?_
    rintro e w' ⟨rfl, h1⟩
    rw [g1, g2, g3]
    exact ⟨rfl, h1⟩
  replace hp := Lib.hid hp
  replace hg := Lib.hid hg
  go_enter Try.func28, Try.ntmps28
  go_wp2_with (fail)
  with_reducible refine hn.mono ?_
  rintro e w1 ⟨S, b, rfl, hB1, hS1, hS2, hb1, hb2, hmk⟩
  have hA := hmk (own2 S b) (.inl rfl) (.inr rfl) (fun k e => by rcases e with rfl | rfl <;> assumption)
  clear hmk hn
  go_wp2_with (fail)
  with_reducible refine (hp.out S b w1 hA).mono ?_
  rintro e w2 ⟨rfl, hC2, hA2⟩
  have hB2 := Lib.hid (hB1.trans (hC2.below (B := w.heap.size) hB1.size (fun k hk e => by rcases e with rfl | rfl <;> omega)))
  clear hA hC2 hp
  go_wp2_with (fail)
  with_reducible refine (hg.out S b w2 hA2).mono ?_
  rintro e w3 ⟨rfl, hB3⟩
  have hfin := Lib.hid ((hB2.out.trans (hB3.mono hB2.out.size)).alloc (o := .cells #[.string { data := #[97] }, .string { data := #[] }, .bool false, .int .u64 3, .int .i64 0, .int .i64 0] 35) (by have := hB2.out.size; have := hB3.size; omega))
  clear hg hA2 hB2 hB3 hB1
  go_wp2
  go_ret
  exact ⟨rfl, hfin.out⟩
set_option maxHeartbeats 1000000 in
theorem load_nil (A : Option Addr) (c : Nat) (l : List Ver) (w : World) (hl : HV w A c l) :
    Calls Try.prog 15 #[.pointer none, .slice A l.length c] w fun e w' => e = .returned (.int .i64 0) ∧ Below w.heap.size w w' := by
  have hl9 : l.length ≤ 9223372036854775807 := Nat.le_trans hl.le hl.top
  replace hl := Lib.hid hl
  go_enter Try.func15, Try.ntmps15
  go_wp2
  go_loopw [5, 10] (fun t i wr => ∃ j : Nat, j ≤ l.length ∧ t = .int .i64 0 ∧ i = .int .i64 j ∧ Hid (Below w.heap.size w wr)) (fun _ i _ => l.length - (intOf i).toNat)
  case atStart => exact ⟨0, by omega, rfl, rfl, Lib.hid (Below.refl _ _)⟩
  case round =>
    obtain ⟨j, hj, rfl, rfl, hC⟩ := hrel
    by_cases hlt : j < l.length
    · obtain ⟨pb, po, rfl, hpb, hc⟩ := (hl.out.below hC.out).at hlt
      have hjI : (j : Int) < (l.length : Int) := by omega
      have hal := al0 wr (.cells #[.string (nt l j).key, .string (nt l j).val, .bool (nt l j).gone, .int .u64 (nt l j).ts, .int .i64 (nt l j).dc, .int .i64 (nt l j).tx] 35)
      obtain ⟨W1, hW1⟩ : ∃ W1, wr.alloc (.cells #[.string (nt l j).key, .string (nt l j).val, .bool (nt l j).gone, .int .u64 (nt l j).ts, .int .i64 (nt l j).dc, .int .i64 (nt l j).tx] 35) = W1 := ⟨_, rfl⟩
      rw [hW1] at hal
      have hput := Lib.hid (put_nil (nt l j) W1)
      have hC1 := Lib.hid (trans0 hC.out hal)
      replace hW1 := Lib.hid hW1
      obtain ⟨c0, c1, c2, c3, c4, c5⟩ := hc
      clear hal hC
      generalize nt l j = x at *
      go_wp2_with (fail)
      rw [hW1.out]
      with_reducible refine hput.out.mono ?_
      rintro e w2 ⟨rfl, hB2⟩
      have hC3 := Lib.hid (trans0 hC1.out hB2)
      clear hB2 c0 c1 c2 c3 c4 c5 hput
      go_wp2
      go_roundw
      case rel => exact ⟨j + 1, by omega, rfl, by go_num, hC3⟩
      case measure => simp [intOf]; omega
    · obtain rfl : j = l.length := by omega
      go_wp2
      go_ret
      exact ⟨rfl, hC.out⟩
end Go.Proofs.Ytlojmojmijklmaa.stoW
