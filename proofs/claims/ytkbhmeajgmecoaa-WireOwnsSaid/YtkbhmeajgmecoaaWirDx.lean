/- WireDecodes: both decoders answer one thing. -/
import Derived.Test.YtkbhmeajgmecoaaWirRg
import Derived.Test.YtkbhmeajgmecoaaWirOn
namespace Go.Proofs.Ytkbhmeajgmecoaa.wirDx
open Go.ChangeShapes Go.WideShapes Go.ChangeAt Go.RowKit Go.Deep
open numM rowA byt numA numB numC numN numD numE wirM wirA wirB wirD wirE wirF wirG wirH wirL wirN wirP wirQ wirR wirS wirT wirU wirV wirDa wirDb wirDc wirDd wirDe wirDf wirDg wirDh wirDi wirDj wirDk wirDl wirOn wirRg

/-- what either decoder answers -/
def RdM (w : World) (v : Int) (l : List Nat) (e : Ending) (w' : World) : Prop :=
  ∃ t, e = .returned (.tuple #[.agg (cm (decm v l) t), .int .i64 (dece v l : Nat)]) ∧ HM w' (decm v l) t ∧ Below w.heap.size w w'
theorem rdm_of {w w' : World} {v : Int} {l : List Nat} {e : Ending} (hl : ∀ c ∈ l, c < 256) (h : RdB w (dec v l) e w') : RdM w v l e w' := by
  rcases hd : dec v l with k | m
  · rw [hd] at h
    obtain ⟨rfl, hB⟩ := h
    have e1 : decm v l = M0 := by unfold decm; rw [hd]
    have e2 : dece v l = k := by unfold dece; rw [hd]
    refine ⟨T0, ?_, ?_, hB⟩
    · rw [e1, e2]; rfl
    · rw [e1]; exact hm0 w'
  · rw [hd] at h
    obtain ⟨t, rfl, hv, hn, hB⟩ := h
    have e1 : decm v l = m := by unfold decm; rw [hd]
    have e2 : dece v l = 0 := by unfold dece; rw [hd]
    refine ⟨t, ?_, ?_, hB⟩
    · rw [e1, e2]; rfl
    · rw [e1]; exact hm_of (enc_dec hl hd).1 hv hn
/-- bytes that are to be read -/
def CB (w : World) (A : Option Addr) (c : Nat) (l : List Nat) : Prop := BL w A l.length l ∧ l.length ≤ c ∧ c ≤ 9223372036854775807 ∧ (l.length = 0 ∨ A = none ∨ ∃ b off, A = some ⟨b, off, none⟩ ∧ b < w.heap.size)
theorem CB.below {w w' : World} {A : Option Addr} {c : Nat} {l : List Nat} (h : CB w A c l) (hB : Below w.heap.size w w') : CB w' A c l :=
  ⟨h.1.below hB, h.2.1, h.2.2.1, h.2.2.2.imp id fun h => h.imp id fun ⟨b, off, e, h⟩ => ⟨b, off, e, Nat.lt_of_lt_of_le h hB.size⟩⟩
theorem dec_m (v : Int) {A : Option Addr} {c : Nat} {l : List Nat} (w : World) (h : CB w A c l) : Calls Try.prog 19 #[.int .i64 v, .slice A l.length c] w (RdM w v l) :=
  (decode_any v A c l w h.1 h.2.1 h.2.2.1 h.2.2.2).mono fun _ _ => rdm_of h.1.lt
theorem rdec_m (v : Int) {A : Option Addr} {c : Nat} {l : List Nat} (w : World) (h : CB w A c l) : Calls Try.prog 20 #[.int .i64 v, .slice A l.length c] w (RdM w v l) :=
  (rdecode_any v A c l w h.1 h.2.1 h.2.2.1 h.2.2.2).mono fun _ _ => rdm_of h.1.lt
set_option maxRecDepth 100000 in
set_option maxHeartbeats 2000000 in
theorem decodes (v : Int) (A : Option Addr) (c : Nat) (l : List Nat) (w : World) (hb : CB w A c l) : Calls Try.prog 4 #[.int .i64 v, .slice A l.length c] w (Yes w) := by
  have h1 := Lib.hid (dec_m v w hb)
  have h2 := Lib.hid (fun w' (hB : Below w.heap.size w w') => rdec_m v w' (hb.below hB))
  clear hb
  unfold RdM at h1 h2
  generalize decm v l = m at *
  generalize dece v l = k at *
  generalize l.length = n at *
  go_enter Try.func4, Try.ntmps4
  go_wp2_with (fail)
  refine h1.out.mono ?_
  rintro e w1 ⟨t1, rfl, hm1, hB1⟩
  replace hm1 := Lib.hid (hm1.below (alloc_below _ (.cells (cm m t1) 28)))
  have hB2 := trans0 hB1 (alloc_below _ (.cells (cm m t1) 28))
  have hS1 := Lib.hid (SM.new w1 m t1)
  replace h2 := Lib.hid (h2.out _ hB2)
  replace hB2 := Lib.hid hB2
  clear hB1 h1
  go_wp2_with (fail)
  generalize w1.alloc (.cells (cm m t1) 28) = w2 at *
  refine h2.out.mono ?_
  rintro e w3 ⟨t2, rfl, hm2, hB3⟩
  have hB4 := trans0 hB3 (alloc_below _ (.cells (cm m t2) 28))
  replace hm2 := Lib.hid (hm2.below (alloc_below _ (.cells (cm m t2) 28)))
  replace hm1 := Lib.hid (hm1.out.below hB4)
  replace hS1 := Lib.hid (hS1.out.below hB4)
  replace hB2 := Lib.hid (trans0 hB2.out hB4)
  have hS2 := Lib.hid (SM.new w3 m t2)
  clear hB3 hB4 h2
  go_wp2_with (fail)
  generalize w3.alloc (.cells (cm m t2) 28) = w4 at *
  refine (wirN.awake_any _).mono ?_
  rintro e w5 ⟨rfl, hB3⟩
  replace hm1 := Lib.hid (hm1.out.below hB3)
  replace hm2 := Lib.hid (hm2.out.below hB3)
  replace hS1 := hS1.out.below hB3
  replace hS2 := hS2.out.below hB3
  replace hB2 := Lib.hid (trans0 hB2.out hB3)
  obtain ⟨s0, s1, s2, s3, s4, s5, s6, s7, s8, s9, s10, s11, s12, s13, s14⟩ := hS1
  obtain ⟨r0, r1, r2, r3, r4, r5, r6, r7, r8, r9, r10, r11, r12, r13, r14⟩ := hS2
  have hsm := same_any m m t1 t2 w5 hm1.out hm2.out
  rw [decide_eq_true (rfl : m = m)] at hsm
  replace hsm := Lib.hid hsm
  clear hB3
  go_wp2_with (fail)
  refine hsm.out.mono ?_
  rintro e w6 ⟨rfl, hB5⟩
  have hB6 := trans0 hB2.out hB5
  clear s0 s1 s2 s3 s4 s5 s6 s7 s8 s9 s10 s11 s12 s13 s14 r0 r1 r2 r3 r4 r5 r6 r7 r8 r9 r10 r11 r12 r13 r14 hB5
  go_wp2
  go_ret
  exact ⟨rfl, hB6⟩
theorem came_cb {w : World} {A : Option Addr} {len cap : Nat} {z : List Int} (h : IsRow .u8 w A len cap z) : ∃ l : List Nat, l.length = len ∧ CB w A cap l := by
  obtain ⟨l, hl, hb, hc, h9, hA⟩ := came h
  exact ⟨l, hl, hb, hc, h9, hA⟩
theorem decodes_row (v : Int) (A : Option Addr) (len cap : Nat) (z : List Int) (w : World) (h : IsRow .u8 w A len cap z) :
    Calls Try.prog 4 #[.int .i64 v, .slice A len cap] w (Yes w) := by
  obtain ⟨l, rfl, hb⟩ := came_cb h
  exact decodes v A cap l w hb
end Go.Proofs.Ytkbhmeajgmecoaa.wirDx
