/- The contracts of the document's own First and Unpack. -/
import Derived.Test.YtgjgjnahdkoofaaFraE
import Derived.IntWalk
namespace Go.Proofs.Ytgjgjnahdkoofaa.fraF
open Go.ChangeShapes Go.WideShapes Go.ChangeAt Go.RowKit Go.Deep
open numM numN rowA byt numA numB numC numD fraM fraB fraC fraD fraE
attribute [local go_sem] Oper.semAt_some

theorem word1 (b off n cap : Nat) (l : List Nat) (w : World) (hb : BL w (some ⟨b, off, none⟩) n l) (hcap : n ≤ cap) (hc9 : cap ≤ 9223372036854775807) (hi : 17 ≤ n) :
    Calls Try.prog 15 #[.slice (some ⟨b, off, none⟩) n cap, .int .i64 1] w fun e w' => e = .returned (.int .i64 (wd l 1)) ∧ w = w' := word_any b off n cap 1 l w hb hcap hc9 (by omega)
theorem word5 (b off n cap : Nat) (l : List Nat) (w : World) (hb : BL w (some ⟨b, off, none⟩) n l) (hcap : n ≤ cap) (hc9 : cap ≤ 9223372036854775807) (hi : 17 ≤ n) :
    Calls Try.prog 15 #[.slice (some ⟨b, off, none⟩) n cap, .int .i64 5] w fun e w' => e = .returned (.int .i64 (wd l 5)) ∧ w = w' := word_any b off n cap 5 l w hb hcap hc9 (by omega)
theorem word9 (b off n cap : Nat) (l : List Nat) (w : World) (hb : BL w (some ⟨b, off, none⟩) n l) (hcap : n ≤ cap) (hc9 : cap ≤ 9223372036854775807) (hi : 17 ≤ n) :
    Calls Try.prog 15 #[.slice (some ⟨b, off, none⟩) n cap, .int .i64 9] w fun e w' => e = .returned (.int .i64 (wd l 9)) ∧ w = w' := word_any b off n cap 9 l w hb hcap hc9 (by omega)
theorem word13 (b off n cap : Nat) (l : List Nat) (w : World) (hb : BL w (some ⟨b, off, none⟩) n l) (hcap : n ≤ cap) (hc9 : cap ≤ 9223372036854775807) (hi : 17 ≤ n) :
    Calls Try.prog 15 #[.slice (some ⟨b, off, none⟩) n cap, .int .i64 13] w fun e w' => e = .returned (.int .i64 (cnt l)) ∧ w = w' := word_any b off n cap 13 l w hb hcap hc9 (by omega)

theorem z5 {W : World} {b : Nat} {T : TypeId} (h : W.rowIs b T 5 (fun i => if i < 4 then .int .i64 0 else .slice none 0 0)) :
    W.cell? ⟨b, 0, none⟩ = some (.int .i64 0) ∧ W.cell? ⟨b, 1, none⟩ = some (.int .i64 0) ∧ W.cell? ⟨b, 2, none⟩ = some (.int .i64 0) ∧ W.cell? ⟨b, 3, none⟩ = some (.int .i64 0) ∧ W.cell? ⟨b, 4, none⟩ = some (.slice none 0 0) ∧
    W.frozen? ⟨b, 0, none⟩ = false ∧ W.frozen? ⟨b, 1, none⟩ = false ∧ W.frozen? ⟨b, 2, none⟩ = false ∧ W.frozen? ⟨b, 3, none⟩ = false ∧ W.frozen? ⟨b, 4, none⟩ = false :=
  ⟨h.cell (i := 0) (by omega), h.cell (i := 1) (by omega), h.cell (i := 2) (by omega), h.cell (i := 3) (by omega), h.cell (i := 4) (by omega), h.frozen 0, h.frozen 1, h.frozen 2, h.frozen 3, h.frozen 4⟩
theorem ld4_iff {l : List Nat} {c S : Nat} (hl : ∀ c ∈ l, c < 256) (h : c + 21 ≤ l.length) (hS : S < 4294967296) :
    ld4 l (17 + c) = S ↔ nth l (17 + c) = S % 256 ∧ nth l (18 + c) = S / 256 % 256 ∧ nth l (19 + c) = S / 65536 % 256 ∧ nth l (20 + c) = S / 16777216 % 256 := by
  have v0 := nth_lt hl (show 17 + c < l.length by omega)
  have v1 := nth_lt hl (show 18 + c < l.length by omega)
  have v2 := nth_lt hl (show 19 + c < l.length by omega)
  have v3 := nth_lt hl (show 20 + c < l.length by omega)
  unfold ld4
  rw [show 17 + c + 1 = 18 + c by omega, show 17 + c + 2 = 19 + c by omega, show 17 + c + 3 = 20 + c by omega]
  omega
set_option maxRecDepth 100000 in
set_option maxHeartbeats 16000000 in
theorem rfirst_any (a : Option Addr) (n cap : Nat) (l : List Nat) (w : World) (hb : BL w a n l) (hcap : n ≤ cap) (hc9 : cap ≤ 9223372036854775807) :
    Calls Try.prog 7 #[.slice a n cap] w (GivesF w (fsF l) (fsN l) (fsE l)) := by
  have hn := hb.1
  have hBa := Lib.hid ((Below.refl w.heap.size w).alloc (Nat.le_refl _) (.cells #[.int .i64 0, .int .i64 0, .int .i64 0, .int .i64 0, .slice none 0 0] 26))
  have r0 := five w 26
  replace r0 := Lib.hid r0
  have b0 := r0.out.cell (i := 0) (by omega)
  have b1 := r0.out.cell (i := 1) (by omega)
  have b2 := r0.out.cell (i := 2) (by omega)
  have b3 := r0.out.cell (i := 3) (by omega)
  have b4 := r0.out.cell (i := 4) (by omega)
  clear b0 b1 b2 b3 b4
  have hb' := Lib.hid (hb.below hBa.out)
  by_cases h0 : n = 0
  · have e1 : fsE l = 2 := by unfold fsE szE; rw [if_neg (by rw [if_pos (by omega)]; decide), if_pos (by omega)]
    subst h0
    replace hb := Lib.hid hb
    replace hn := Lib.hid hn
    have hgf : Hid (∀ e w', GivesF w Fm.zero 0 2 e w' → GivesF w (fsF l) (fsN l) (fsE l) e w') := Lib.hid (by have hF := fs_no (l := l) (by omega); rw [hF.1, hF.2, e1]; exact fun _ _ h => h)
    clear e1
    go_enter Try.func7, Try.ntmps7
    go_wp2_with (fail)
    generalize w.alloc (.cells #[.int .i64 0, .int .i64 0, .int .i64 0, .int .i64 0, .slice none 0 0] 26) = W at *
    have q0 : W.cell? ⟨w.heap.size, 0, none⟩ = some (.int .i64 0) := r0.out.cell (i := 0) (by omega)
    have q1 : W.cell? ⟨w.heap.size, 1, none⟩ = some (.int .i64 0) := r0.out.cell (i := 1) (by omega)
    have q2 : W.cell? ⟨w.heap.size, 2, none⟩ = some (.int .i64 0) := r0.out.cell (i := 2) (by omega)
    have q3 : W.cell? ⟨w.heap.size, 3, none⟩ = some (.int .i64 0) := r0.out.cell (i := 3) (by omega)
    have q4 : W.cell? ⟨w.heap.size, 4, none⟩ = some (.slice none 0 0) := r0.out.cell (i := 4) (by omega)
    refine bodyPost_ret (v := .tuple #[.agg #[.int .i64 0, .int .i64 0, .int .i64 0, .int .i64 0, .slice none 0 0], .int .i64 0, .int .i64 2]) (by simp [results, Try.results7, go_sem, q0, q1, q2, q3, q4]) rfl (hgf.out _ _ ?_)
    exact givesF_none hBa.out
  obtain ⟨b, off, rfl, hc0⟩ := hb.at (show 0 < n by omega)
  rw [Nat.add_zero] at hc0
  have hbl := World.block_lt_of_cell? _ _ hc0
  have hv := nth_lt hb.lt (show 0 < l.length by omega)
  by_cases hz : nth l 0 = 0
  · have e2 : szE l = 3 := by unfold szE; rw [if_neg (by omega), if_pos hz]
    have e1 : fsE l = 3 := by unfold fsE; rw [if_neg (by omega), e2]
    rw [hz] at hc0
    replace hb := Lib.hid hb
    replace hn := Lib.hid hn
    clear e2 hz hv
    have hgf : Hid (∀ e w', GivesF w Fm.zero 0 3 e w' → GivesF w (fsF l) (fsN l) (fsE l) e w') := Lib.hid (by have hF := fs_no (l := l) (by omega); rw [hF.1, hF.2, e1]; exact fun _ _ h => h)
    clear e1
    go_enter Try.func7, Try.ntmps7
    go_wp2_with (fail)
    generalize w.alloc (.cells #[.int .i64 0, .int .i64 0, .int .i64 0, .int .i64 0, .slice none 0 0] 26) = W at *
    have q0 : W.cell? ⟨w.heap.size, 0, none⟩ = some (.int .i64 0) := r0.out.cell (i := 0) (by omega)
    have q1 : W.cell? ⟨w.heap.size, 1, none⟩ = some (.int .i64 0) := r0.out.cell (i := 1) (by omega)
    have q2 : W.cell? ⟨w.heap.size, 2, none⟩ = some (.int .i64 0) := r0.out.cell (i := 2) (by omega)
    have q3 : W.cell? ⟨w.heap.size, 3, none⟩ = some (.int .i64 0) := r0.out.cell (i := 3) (by omega)
    have q4 : W.cell? ⟨w.heap.size, 4, none⟩ = some (.slice none 0 0) := r0.out.cell (i := 4) (by omega)
    refine bodyPost_ret (v := .tuple #[.agg #[.int .i64 0, .int .i64 0, .int .i64 0, .int .i64 0, .slice none 0 0], .int .i64 0, .int .i64 3]) (by simp [results, Try.results7, go_sem, q0, q1, q2, q3, q4]) rfl (hgf.out _ _ ?_)
    exact givesF_none hBa.out
  by_cases h17 : n < 17
  · have e2 : szE l = 2 := by unfold szE; rw [if_neg (by omega), if_neg hz, if_pos (by omega)]
    have e1 : fsE l = 2 := by unfold fsE; rw [if_neg (by omega), e2]
    have hne : ((nth l 0 : Int) == 0) = false := by rw [beq_eq_false_iff_ne]; omega
    replace hb := Lib.hid hb
    replace hn := Lib.hid hn
    clear e2
    generalize nth l 0 = v at *
    have hgf : Hid (∀ e w', GivesF w Fm.zero 0 2 e w' → GivesF w (fsF l) (fsN l) (fsE l) e w') := Lib.hid (by have hF := fs_no (l := l) (by omega); rw [hF.1, hF.2, e1]; exact fun _ _ h => h)
    clear e1
    go_enter Try.func7, Try.ntmps7
    go_wp2_with (fail)
    generalize w.alloc (.cells #[.int .i64 0, .int .i64 0, .int .i64 0, .int .i64 0, .slice none 0 0] 26) = W at *
    have q0 : W.cell? ⟨w.heap.size, 0, none⟩ = some (.int .i64 0) := r0.out.cell (i := 0) (by omega)
    have q1 : W.cell? ⟨w.heap.size, 1, none⟩ = some (.int .i64 0) := r0.out.cell (i := 1) (by omega)
    have q2 : W.cell? ⟨w.heap.size, 2, none⟩ = some (.int .i64 0) := r0.out.cell (i := 2) (by omega)
    have q3 : W.cell? ⟨w.heap.size, 3, none⟩ = some (.int .i64 0) := r0.out.cell (i := 3) (by omega)
    have q4 : W.cell? ⟨w.heap.size, 4, none⟩ = some (.slice none 0 0) := r0.out.cell (i := 4) (by omega)
    refine bodyPost_ret (v := .tuple #[.agg #[.int .i64 0, .int .i64 0, .int .i64 0, .int .i64 0, .slice none 0 0], .int .i64 0, .int .i64 2]) (by simp [results, Try.results7, go_sem, q0, q1, q2, q3, q4]) rfl (hgf.out _ _ ?_)
    exact givesF_none hBa.out
  have h13 := Lib.hid (fun w hb => word13 b off n cap l w hb hcap hc9 (by omega))
  have hcn : cnt l < 4294967296 := wd_lt hb.lt 13
  have hne : ((nth l 0 : Int) == 0) = false := by rw [beq_eq_false_iff_ne]; omega
  by_cases hlong : 1048576 < cnt l
  · have e2 : szE l = 6 := by unfold szE; rw [if_neg (by omega), if_neg hz, if_neg (by omega), if_pos hlong]
    have e1 : fsE l = 6 := by unfold fsE; rw [if_neg (by omega), e2]
    replace hb := Lib.hid hb
    replace hn := Lib.hid hn
    clear e2
    generalize nth l 0 = v at *
    generalize cnt l = c at *
    have hgf : Hid (∀ e w', GivesF w Fm.zero 0 6 e w' → GivesF w (fsF l) (fsN l) (fsE l) e w') := Lib.hid (by have hF := fs_no (l := l) (by omega); rw [hF.1, hF.2, e1]; exact fun _ _ h => h)
    clear e1
    go_enter Try.func7, Try.ntmps7
    go_wp2_with ((go_at_call 15; ((with_reducible refine (h13.out _ (by first | exact hb'.out)).mono ?_); rintro e w' ⟨rfl, rfl⟩)))
    generalize w.alloc (.cells #[.int .i64 0, .int .i64 0, .int .i64 0, .int .i64 0, .slice none 0 0] 26) = W at *
    have q0 : W.cell? ⟨w.heap.size, 0, none⟩ = some (.int .i64 0) := r0.out.cell (i := 0) (by omega)
    have q1 : W.cell? ⟨w.heap.size, 1, none⟩ = some (.int .i64 0) := r0.out.cell (i := 1) (by omega)
    have q2 : W.cell? ⟨w.heap.size, 2, none⟩ = some (.int .i64 0) := r0.out.cell (i := 2) (by omega)
    have q3 : W.cell? ⟨w.heap.size, 3, none⟩ = some (.int .i64 0) := r0.out.cell (i := 3) (by omega)
    have q4 : W.cell? ⟨w.heap.size, 4, none⟩ = some (.slice none 0 0) := r0.out.cell (i := 4) (by omega)
    refine bodyPost_ret (v := .tuple #[.agg #[.int .i64 0, .int .i64 0, .int .i64 0, .int .i64 0, .slice none 0 0], .int .i64 0, .int .i64 6]) (by simp [results, Try.results7, go_sem, q0, q1, q2, q3, q4]) rfl (hgf.out _ _ ?_)
    exact givesF_none hBa.out
  by_cases hsh : n < cnt l + 21
  · have e2 : szE l = 2 := by unfold szE; rw [if_neg (by omega), if_neg hz, if_neg (by omega), if_neg hlong, if_pos (by omega)]
    have e1 : fsE l = 2 := by unfold fsE; rw [if_neg (by omega), e2]
    replace hb := Lib.hid hb
    replace hn := Lib.hid hn
    clear e2
    generalize nth l 0 = v at *
    generalize cnt l = c at *
    have hgf : Hid (∀ e w', GivesF w Fm.zero 0 2 e w' → GivesF w (fsF l) (fsN l) (fsE l) e w') := Lib.hid (by have hF := fs_no (l := l) (by omega); rw [hF.1, hF.2, e1]; exact fun _ _ h => h)
    clear e1
    go_enter Try.func7, Try.ntmps7
    go_wp2_with ((go_at_call 15; ((with_reducible refine (h13.out _ (by first | exact hb'.out)).mono ?_); rintro e w' ⟨rfl, rfl⟩)))
    generalize w.alloc (.cells #[.int .i64 0, .int .i64 0, .int .i64 0, .int .i64 0, .slice none 0 0] 26) = W at *
    have q0 : W.cell? ⟨w.heap.size, 0, none⟩ = some (.int .i64 0) := r0.out.cell (i := 0) (by omega)
    have q1 : W.cell? ⟨w.heap.size, 1, none⟩ = some (.int .i64 0) := r0.out.cell (i := 1) (by omega)
    have q2 : W.cell? ⟨w.heap.size, 2, none⟩ = some (.int .i64 0) := r0.out.cell (i := 2) (by omega)
    have q3 : W.cell? ⟨w.heap.size, 3, none⟩ = some (.int .i64 0) := r0.out.cell (i := 3) (by omega)
    have q4 : W.cell? ⟨w.heap.size, 4, none⟩ = some (.slice none 0 0) := r0.out.cell (i := 4) (by omega)
    refine bodyPost_ret (v := .tuple #[.agg #[.int .i64 0, .int .i64 0, .int .i64 0, .int .i64 0, .slice none 0 0], .int .i64 0, .int .i64 2]) (by simp [results, Try.results7, go_sem, q0, q1, q2, q3, q4]) rfl (hgf.out _ _ ?_)
    exact givesF_none hBa.out
  have hld : ld4 l (17 + cnt l) = crc (l.take (17 + cnt l)) ↔ nth l (17 + cnt l) = crc (l.take (17 + cnt l)) % 256 ∧ nth l (18 + cnt l) = crc (l.take (17 + cnt l)) / 256 % 256 ∧ nth l (19 + cnt l) = crc (l.take (17 + cnt l)) / 65536 % 256 ∧ nth l (20 + cnt l) = crc (l.take (17 + cnt l)) / 16777216 % 256 :=
    ld4_iff hb.lt (by omega) (crc_lt (fun c hc => hb.lt c (List.mem_of_mem_take hc)))
  have hS : crc (l.take (17 + cnt l)) < 4294967296 := crc_lt (fun c hc => hb.lt c (List.mem_of_mem_take hc))
  have e2 : szE l = 0 := by unfold szE; rw [if_neg (by omega), if_neg hz, if_neg (by omega), if_neg hlong, if_neg (by omega)]
  have hE : fsE l = if ld4 l (17 + cnt l) = crc (l.take (17 + cnt l)) then 0 else 4 := by unfold fsE; rw [if_pos e2]
  have y0 : w.cell? ⟨b, off + (17 + cnt l), none⟩ = some (.int .u8 (nth l (17 + cnt l))) := by obtain ⟨b', off', e0, q⟩ := hb.at (show 17 + cnt l < n by omega); cases e0; exact q
  have y1 : w.cell? ⟨b, off + (18 + cnt l), none⟩ = some (.int .u8 (nth l (18 + cnt l))) := by obtain ⟨b', off', e0, q⟩ := hb.at (show 18 + cnt l < n by omega); cases e0; exact q
  have y2 : w.cell? ⟨b, off + (19 + cnt l), none⟩ = some (.int .u8 (nth l (19 + cnt l))) := by obtain ⟨b', off', e0, q⟩ := hb.at (show 19 + cnt l < n by omega); cases e0; exact q
  have y3 : w.cell? ⟨b, off + (20 + cnt l), none⟩ = some (.int .u8 (nth l (20 + cnt l))) := by obtain ⟨b', off', e0, q⟩ := hb.at (show 20 + cnt l < n by omega); cases e0; exact q
  have v0 := nth_lt hb.lt (show 17 + cnt l < l.length by omega)
  have v1 := nth_lt hb.lt (show 18 + cnt l < l.length by omega)
  have v2 := nth_lt hb.lt (show 19 + cnt l < l.length by omega)
  have v3 := nth_lt hb.lt (show 20 + cnt l < l.length by omega)
  have ht := hb'.out.take (17 + cnt l) (by omega)
  have hsm := Lib.hid (rsum_any _ (17 + cnt l) cap _ _ ht)
  have hbk := Lib.hid ((hb.drop 17).take (cnt l) (by omega))
  have hgot : got l = ⟨nth l 0, wd l 1, wd l 5, wd l 9, (l.drop 17).take (cnt l)⟩ := rfl
  have hbl17 : ((l.drop 17).take (cnt l)).length = cnt l := by rw [List.length_take, List.length_drop]; omega
  replace hgot := Lib.hid hgot
  replace hbl17 := Lib.hid hbl17
  replace hb := Lib.hid hb
  replace hn := Lib.hid hn
  replace hE := Lib.hid hE
  replace hld := Lib.hid hld
  have e3 := Lib.hid (fun h => fs_yes (l := l) h)
  clear e2 hz ht
  generalize crc (l.take (17 + cnt l)) = S at *
  generalize nth l 0 = v at *
  generalize hcc : cnt l = c at *
  replace hcc := Lib.hid hcc
  generalize nth l (17 + c) = x0 at *
  generalize nth l (18 + c) = x1 at *
  generalize nth l (19 + c) = x2 at *
  generalize nth l (20 + c) = x3 at *
  have hall : (x0 = S % 256 ∧ x1 = S / 256 % 256 ∧ x2 = S / 65536 % 256 ∧ x3 = S / 16777216 % 256) ∨ ¬ (x0 = S % 256 ∧ x1 = S / 256 % 256 ∧ x2 = S / 65536 % 256 ∧ x3 = S / 16777216 % 256) := Classical.em _
  rcases hall with hall | hno
  · have e1 : fsE l = 0 := by rw [hE.out, if_pos (hld.out.2 hall)]
    obtain ⟨k0, k1, k2, k3⟩ := hall
    have t0 : ((x0 : Int) != (S : Int) % 256) = false := by rw [bne_eq_false_iff_eq]; omega
    have t1 : ((x1 : Int) != (S : Int) / 256 % 256) = false := by rw [bne_eq_false_iff_eq]; omega
    have t2 : ((x2 : Int) != (S : Int) / 65536 % 256) = false := by rw [bne_eq_false_iff_eq]; omega
    have t3 : ((x3 : Int) != (S : Int) / 16777216) = false := by rw [bne_eq_false_iff_eq]; omega
    clear k0 k1 k2 k3
    replace e1 := Lib.hid e1
    obtain ⟨i0, hi, hz0, hz1, hz2⟩ := info_parts bytes8
    go_enter Try.func7, Try.ntmps7
    go_wp2_with (first | (go_at_call 15; ((with_reducible refine (h13.out _ (by first | exact hb'.out)).mono ?_); rintro e w' ⟨rfl, rfl⟩)) | (go_at_call 11; ((with_reducible refine hsm.out.mono ?_); rintro e w' ⟨rfl, rfl⟩)))
    clear t0 t1 t2 t3 y0 y1 y2 y3 v0 v1 v2 v3 h13 hsm hne hld hE hbk
    have hcW : (w.alloc (.cells #[.int .i64 0, .int .i64 0, .int .i64 0, .int .i64 0, .slice none 0 0] 26)).cell? ⟨b, off, none⟩ = some (.int .u8 v) := (hBa.out.cell (p := ⟨b, off, none⟩) hbl).trans hc0
    generalize w.alloc (.cells #[.int .i64 0, .int .i64 0, .int .i64 0, .int .i64 0, .slice none 0 0] 26) = W at *
    have hWs : w.heap.size < W.heap.size := r0.out.lt
    have hmd := (Own.made W W.heap.size (Nat.le_refl _) [] (by simp) (by simp) #[] rfl).drew
    have hBm : Below W.heap.size W (W.alloc (.cells #[] 5)).drew := ((Below.refl W.heap.size W).alloc (Nat.le_refl _) _).drew
    have hbA := hb'.out.below hBm
    have hbW : BL W.drew (some ⟨b, off, none⟩) n l := hb'.out
    have hbk := (hbA.drop 17).take c (by omega)
    have hlm : (W.alloc (.cells #[] 5)).drew.heap.size = W.heap.size + 1 := by simp
    have s4 := cut_lh b off n cap 17 (17 + c) 17 (17 + (c : Int)) rfl (by omega) (by omega) (by omega) (by omega)
    rw [Nat.add_sub_cancel_left] at s4
    replace hmd := Lib.hid hmd
    replace hBm := Lib.hid hBm
    replace hbA := Lib.hid hbA
    replace hbW := Lib.hid hbW
    replace hbk := Lib.hid hbk
    replace hlm := Lib.hid hlm
    have hcap' := Lib.hid hcap
    have hn0 : 0 < n := by omega
    have hn17 : 17 ≤ n := by omega
    have hroom : Hid (0 + c + (0 + c) / 4 + 192 ≤ 281474976710656) := Lib.hid (by omega)
    have hbs : Hid (W.heap.size ≤ (W.alloc (.cells #[] 5)).drew.heap.size) := Lib.hid (by have := hlm.out; omega)
    have hw17 : IntKind.i64.wrap (17 + (c : Int)) = 17 + (c : Int) := IntWalk.i64_in _ (by omega)
    have hw21 : IntKind.i64.wrap ((c : Int) + 21) = (c : Int) + 21 := IntWalk.i64_in _ (by omega)
    have hw0 : IntKind.i64.wrap (v : Int) = (v : Int) := IntWalk.i64_in _ (by omega)
    have hw1 : wrap64 (v : Int) = (v : Int) := w64 (by omega)
    have hbl' : b < W.heap.size := by omega
    clear hc0 hbl h0 h17 hcn hlong hsh hS hcap hv
    replace hWs := Lib.hid hWs
    replace hc9 := Lib.hid hc9
    replace hn17 := Lib.hid hn17
    go_region_law (first
      | (go_simp; go_at_call 15; first
          | ((with_reducible refine (word1 _ _ _ _ l _ (by first | exact hbW.out | exact hbA.out) hcap'.out hc9.out hn17.out).mono ?_); rintro e w' ⟨rfl, rfl⟩)
          | ((with_reducible refine (word5 _ _ _ _ l _ (by first | exact hbW.out | exact hbA.out) hcap'.out hc9.out hn17.out).mono ?_); rintro e w' ⟨rfl, rfl⟩)
          | ((with_reducible refine (word9 _ _ _ _ l _ (by first | exact hbW.out | exact hbA.out) hcap'.out hc9.out hn17.out).mono ?_); rintro e w' ⟨rfl, rfl⟩))
      | (refine step_app (by rfl) _ _ _ (by rfl) W.heap.size i0 Try.underlying23 hi hz0 hz1 hz2 (.slice (some ⟨W.heap.size, 0, none⟩) 0 0) 0 [] (by rfl) hmd.out (some ⟨b, off + 17, none⟩) c (cap - 17) ((l.drop 17).take c) (by rfl) hbk.out hroom.out hbs.out ?_; intro A7 c7 w7 hown7 hg7; have hB7 := hBm.out.trans (Own.grown hmd.out (Below.refl _ _) hg7 hbs.out); have r7 := Lib.hid (r0.out.of_block (hB7.block w.heap.size hWs.out)); obtain ⟨d0, d1, d2, d3, d4, g0, g1, g2, g3, g4⟩ := z5 r7.out; have cb7 := (hB7.cell (p := ⟨b, off, none⟩) hbl').trans hcW))
    all_goals
      clear d0 d1 d2 d3 d4 g0 g1 g2 g3 g4 cb7 hw17 hw21 hw0 hw1 s4 hcW
      rw [Nat.zero_add, List.nil_append] at hown7
      have rF := ((((r7.out.set 0 (.int .i64 v)).set 1 (.int .i64 (wd l 1))).set 2 (.int .i64 (wd l 5))).set 3 (.int .i64 (wd l 9))).set 4 (.slice A7 c c7)
      have oF := (own_set (j := 4) (own_set (j := 3) (own_set (j := 2) (own_set (j := 1) (own_set (j := 0) hown7 hWs.out (.int .i64 v)) hWs.out (.int .i64 (wd l 1))) hWs.out (.int .i64 (wd l 5))) hWs.out (.int .i64 (wd l 9))) hWs.out (.slice A7 c c7)).more (Nat.le_of_lt hWs.out)
      have BF := fin5 w (.int .i64 v) (.int .i64 (wd l 1)) (.int .i64 (wd l 5)) (.int .i64 (wd l 9)) (.slice A7 c c7) w7 (hBa.out.trans (hB7.mono (Nat.le_of_lt hWs.out)))
      generalize (((((w7.setCell ⟨w.heap.size, 0, none⟩ (.int .i64 v)).setCell ⟨w.heap.size, 1, none⟩ (.int .i64 (wd l 1))).setCell ⟨w.heap.size, 2, none⟩ (.int .i64 (wd l 5))).setCell ⟨w.heap.size, 3, none⟩ (.int .i64 (wd l 9))).setCell ⟨w.heap.size, 4, none⟩ (.slice A7 c c7)) = WF at rF oF BF ⊢
      have q0 : WF.cell? ⟨w.heap.size, 0, none⟩ = some (.int .i64 v) := rF.cell (i := 0) (by omega)
      have q1 : WF.cell? ⟨w.heap.size, 1, none⟩ = some (.int .i64 (wd l 1)) := rF.cell (i := 1) (by omega)
      have q2 : WF.cell? ⟨w.heap.size, 2, none⟩ = some (.int .i64 (wd l 5)) := rF.cell (i := 2) (by omega)
      have q3 : WF.cell? ⟨w.heap.size, 3, none⟩ = some (.int .i64 (wd l 9)) := rF.cell (i := 3) (by omega)
      have q4 : WF.cell? ⟨w.heap.size, 4, none⟩ = some (.slice A7 c c7) := rF.cell (i := 4) (by omega)
      go_wp2
      refine bodyPost_ret (v := .tuple #[.agg #[.int .i64 v, .int .i64 (wd l 1), .int .i64 (wd l 5), .int .i64 (wd l 9), .slice A7 c c7], .int .i64 ((c : Int) + 21), .int .i64 0]) (by simp [results, Try.results7, go_sem, q0, q1, q2, q3, q4]) rfl ?_
      rw [(e3.out e1.out).1, (e3.out e1.out).2, e1.out]
      refine ⟨A7, c7, ?_, ?_, BF⟩
      · rw [hgot.out]; simp only [cf, hbl17.out, Int.natCast_add]; rfl
      · rw [hgot.out]; simp only [hbl17.out]; exact oF
  · have e1 : fsE l = 4 := by rw [hE.out, if_neg (fun h => hno (hld.out.1 h))]
    have hs : (x0 ≠ S % 256) ∨ (x0 = S % 256 ∧ x1 ≠ S / 256 % 256) ∨ (x0 = S % 256 ∧ x1 = S / 256 % 256 ∧ x2 ≠ S / 65536 % 256) ∨ (x0 = S % 256 ∧ x1 = S / 256 % 256 ∧ x2 = S / 65536 % 256 ∧ x3 ≠ S / 16777216 % 256) := by omega
    clear hno
    replace hcn := Lib.hid hcn
    rcases hs with k0 | ⟨k0, k1⟩ | ⟨k0, k1, k2⟩ | ⟨k0, k1, k2, k3⟩
    · have t0 : ((x0 : Int) != (S : Int) % 256) = true := by rw [bne_iff_ne]; omega
      clear k0
      have hgf : Hid (∀ e w', GivesF w Fm.zero 0 4 e w' → GivesF w (fsF l) (fsN l) (fsE l) e w') := Lib.hid (by have hF := fs_no (l := l) (by omega); rw [hF.1, hF.2, e1]; exact fun _ _ h => h)
      clear e1
      go_enter Try.func7, Try.ntmps7
      go_wp2_with (first | (go_at_call 15; ((with_reducible refine (h13.out _ (by first | exact hb'.out)).mono ?_); rintro e w' ⟨rfl, rfl⟩)) | (go_at_call 11; ((with_reducible refine hsm.out.mono ?_); rintro e w' ⟨rfl, rfl⟩)))
      generalize w.alloc (.cells #[.int .i64 0, .int .i64 0, .int .i64 0, .int .i64 0, .slice none 0 0] 26) = W at *
      have q0 : W.cell? ⟨w.heap.size, 0, none⟩ = some (.int .i64 0) := r0.out.cell (i := 0) (by omega)
      have q1 : W.cell? ⟨w.heap.size, 1, none⟩ = some (.int .i64 0) := r0.out.cell (i := 1) (by omega)
      have q2 : W.cell? ⟨w.heap.size, 2, none⟩ = some (.int .i64 0) := r0.out.cell (i := 2) (by omega)
      have q3 : W.cell? ⟨w.heap.size, 3, none⟩ = some (.int .i64 0) := r0.out.cell (i := 3) (by omega)
      have q4 : W.cell? ⟨w.heap.size, 4, none⟩ = some (.slice none 0 0) := r0.out.cell (i := 4) (by omega)
      refine bodyPost_ret (v := .tuple #[.agg #[.int .i64 0, .int .i64 0, .int .i64 0, .int .i64 0, .slice none 0 0], .int .i64 0, .int .i64 4]) (by simp [results, Try.results7, go_sem, q0, q1, q2, q3, q4]) rfl (hgf.out _ _ ?_)
      exact givesF_none hBa.out
    · have t0 : ((x0 : Int) != (S : Int) % 256) = false := by rw [bne_eq_false_iff_eq]; omega
      have t1 : ((x1 : Int) != (S : Int) / 256 % 256) = true := by rw [bne_iff_ne]; omega
      clear k0 k1
      have hgf : Hid (∀ e w', GivesF w Fm.zero 0 4 e w' → GivesF w (fsF l) (fsN l) (fsE l) e w') := Lib.hid (by have hF := fs_no (l := l) (by omega); rw [hF.1, hF.2, e1]; exact fun _ _ h => h)
      clear e1
      go_enter Try.func7, Try.ntmps7
      go_wp2_with (first | (go_at_call 15; ((with_reducible refine (h13.out _ (by first | exact hb'.out)).mono ?_); rintro e w' ⟨rfl, rfl⟩)) | (go_at_call 11; ((with_reducible refine hsm.out.mono ?_); rintro e w' ⟨rfl, rfl⟩)))
      generalize w.alloc (.cells #[.int .i64 0, .int .i64 0, .int .i64 0, .int .i64 0, .slice none 0 0] 26) = W at *
      have q0 : W.cell? ⟨w.heap.size, 0, none⟩ = some (.int .i64 0) := r0.out.cell (i := 0) (by omega)
      have q1 : W.cell? ⟨w.heap.size, 1, none⟩ = some (.int .i64 0) := r0.out.cell (i := 1) (by omega)
      have q2 : W.cell? ⟨w.heap.size, 2, none⟩ = some (.int .i64 0) := r0.out.cell (i := 2) (by omega)
      have q3 : W.cell? ⟨w.heap.size, 3, none⟩ = some (.int .i64 0) := r0.out.cell (i := 3) (by omega)
      have q4 : W.cell? ⟨w.heap.size, 4, none⟩ = some (.slice none 0 0) := r0.out.cell (i := 4) (by omega)
      refine bodyPost_ret (v := .tuple #[.agg #[.int .i64 0, .int .i64 0, .int .i64 0, .int .i64 0, .slice none 0 0], .int .i64 0, .int .i64 4]) (by simp [results, Try.results7, go_sem, q0, q1, q2, q3, q4]) rfl (hgf.out _ _ ?_)
      exact givesF_none hBa.out
    · have t0 : ((x0 : Int) != (S : Int) % 256) = false := by rw [bne_eq_false_iff_eq]; omega
      have t1 : ((x1 : Int) != (S : Int) / 256 % 256) = false := by rw [bne_eq_false_iff_eq]; omega
      have t2 : ((x2 : Int) != (S : Int) / 65536 % 256) = true := by rw [bne_iff_ne]; omega
      clear k0 k1 k2
      have hgf : Hid (∀ e w', GivesF w Fm.zero 0 4 e w' → GivesF w (fsF l) (fsN l) (fsE l) e w') := Lib.hid (by have hF := fs_no (l := l) (by omega); rw [hF.1, hF.2, e1]; exact fun _ _ h => h)
      clear e1
      go_enter Try.func7, Try.ntmps7
      go_wp2_with (first | (go_at_call 15; ((with_reducible refine (h13.out _ (by first | exact hb'.out)).mono ?_); rintro e w' ⟨rfl, rfl⟩)) | (go_at_call 11; ((with_reducible refine hsm.out.mono ?_); rintro e w' ⟨rfl, rfl⟩)))
      generalize w.alloc (.cells #[.int .i64 0, .int .i64 0, .int .i64 0, .int .i64 0, .slice none 0 0] 26) = W at *
      have q0 : W.cell? ⟨w.heap.size, 0, none⟩ = some (.int .i64 0) := r0.out.cell (i := 0) (by omega)
      have q1 : W.cell? ⟨w.heap.size, 1, none⟩ = some (.int .i64 0) := r0.out.cell (i := 1) (by omega)
      have q2 : W.cell? ⟨w.heap.size, 2, none⟩ = some (.int .i64 0) := r0.out.cell (i := 2) (by omega)
      have q3 : W.cell? ⟨w.heap.size, 3, none⟩ = some (.int .i64 0) := r0.out.cell (i := 3) (by omega)
      have q4 : W.cell? ⟨w.heap.size, 4, none⟩ = some (.slice none 0 0) := r0.out.cell (i := 4) (by omega)
      refine bodyPost_ret (v := .tuple #[.agg #[.int .i64 0, .int .i64 0, .int .i64 0, .int .i64 0, .slice none 0 0], .int .i64 0, .int .i64 4]) (by simp [results, Try.results7, go_sem, q0, q1, q2, q3, q4]) rfl (hgf.out _ _ ?_)
      exact givesF_none hBa.out
    · have t0 : ((x0 : Int) != (S : Int) % 256) = false := by rw [bne_eq_false_iff_eq]; omega
      have t1 : ((x1 : Int) != (S : Int) / 256 % 256) = false := by rw [bne_eq_false_iff_eq]; omega
      have t2 : ((x2 : Int) != (S : Int) / 65536 % 256) = false := by rw [bne_eq_false_iff_eq]; omega
      have t3 : ((x3 : Int) != (S : Int) / 16777216) = true := by rw [bne_iff_ne]; omega
      clear k0 k1 k2 k3
      have hgf : Hid (∀ e w', GivesF w Fm.zero 0 4 e w' → GivesF w (fsF l) (fsN l) (fsE l) e w') := Lib.hid (by have hF := fs_no (l := l) (by omega); rw [hF.1, hF.2, e1]; exact fun _ _ h => h)
      clear e1
      go_enter Try.func7, Try.ntmps7
      go_wp2_with (first | (go_at_call 15; ((with_reducible refine (h13.out _ (by first | exact hb'.out)).mono ?_); rintro e w' ⟨rfl, rfl⟩)) | (go_at_call 11; ((with_reducible refine hsm.out.mono ?_); rintro e w' ⟨rfl, rfl⟩)))
      generalize w.alloc (.cells #[.int .i64 0, .int .i64 0, .int .i64 0, .int .i64 0, .slice none 0 0] 26) = W at *
      have q0 : W.cell? ⟨w.heap.size, 0, none⟩ = some (.int .i64 0) := r0.out.cell (i := 0) (by omega)
      have q1 : W.cell? ⟨w.heap.size, 1, none⟩ = some (.int .i64 0) := r0.out.cell (i := 1) (by omega)
      have q2 : W.cell? ⟨w.heap.size, 2, none⟩ = some (.int .i64 0) := r0.out.cell (i := 2) (by omega)
      have q3 : W.cell? ⟨w.heap.size, 3, none⟩ = some (.int .i64 0) := r0.out.cell (i := 3) (by omega)
      have q4 : W.cell? ⟨w.heap.size, 4, none⟩ = some (.slice none 0 0) := r0.out.cell (i := 4) (by omega)
      refine bodyPost_ret (v := .tuple #[.agg #[.int .i64 0, .int .i64 0, .int .i64 0, .int .i64 0, .slice none 0 0], .int .i64 0, .int .i64 4]) (by simp [results, Try.results7, go_sem, q0, q1, q2, q3, q4]) rfl (hgf.out _ _ ?_)
      exact givesF_none hBa.out
end Go.Proofs.Ytgjgjnahdkoofaa.fraF
