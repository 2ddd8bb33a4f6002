/- WireOnly. -/
import Derived.Test.YtkbhmeajgmecoaaWirDl
import Derived.Test.YtkbhmeajgmecoaaWirV
namespace Go.Proofs.Ytkbhmeajgmecoaa.wirOn
open Go.ChangeShapes Go.WideShapes Go.ChangeAt Go.RowKit Go.Deep
open numM rowA byt numA numB numC numN numD numE wirM wirA wirB wirD wirE wirF wirG wirH wirL wirN wirP wirQ wirR wirS wirT wirU wirV wirDa wirDb wirDc wirDd wirDe wirDf wirDg wirDh wirDi wirDj wirDk wirDl

/-- what was read fits -/
theorem mok_fits {m : Ms} (h : mok m) : m.fits := by
  obtain ⟨hk, h1, h2, h3, h4, h5⟩ := h
  have a1 := hk.kind0
  have a2 := hk.kind
  have a3 := hk.lo
  have a4 := hk.hi
  obtain ⟨b1, b2, b3, b4, b5, b6⟩ := hk.cmd
  refine ⟨⟨by omega, by omega⟩, h1, h2, h3, by omega, by omega, fun v hv => ?_, h5, ⟨⟨by omega, by omega⟩, ⟨by omega, by omega⟩, ⟨by omega, by omega⟩, ⟨by omega, by omega⟩, ⟨by omega, by omega⟩, by omega⟩⟩
  obtain ⟨c1, c2, c3, c4, c5, c6⟩ := hk.vers v hv
  exact ⟨by omega, by omega, h4 v hv, ⟨by omega, by omega⟩, ⟨by omega, by omega⟩⟩
theorem vcell (xs : List Vr) : ∀ (i j : Nat) (u : Value), i < xs.length → (cv (vth xs i)).toList[j]? = some u → (xs.map fun x => (cv x).toList).flatten[i * 6 + j]? = some u := by
  induction xs with
  | nil => intro i j u h _; simp at h
  | cons x xs ih =>
    intro i j u h e
    rw [List.map_cons, List.flatten_cons]
    have hl : (cv x).toList.length = 6 := rfl
    cases i with
    | zero =>
      have hj : j < 6 := by
        have := (List.getElem?_eq_some_iff.1 e).1
        simpa using this
      rw [List.getElem?_append_left (by rw [hl]; omega), Nat.zero_mul, Nat.zero_add]
      exact e
    | succ i =>
      rw [List.getElem?_append_right (by rw [hl]; omega), hl, show (i + 1) * 6 + j - 6 = i * 6 + j by omega]
      exact ih i j u (by simpa using h) (by simpa [vth] using e)
theorem vrow_vl {base : Nat} {w : World} {A : Option Addr} {c : Nat} {xs : List Vr} (h : vRow base w (.slice A xs.length c) xs) (hf : ∀ v ∈ xs, v.fits) (hn : xs.length ≤ 9223372036854775807) : VL w A xs.length xs := by
  refine ⟨rfl, hn, hf, ?_⟩
  by_cases h0 : xs.length = 0
  · exact .inl h0
  · rcases h.2 with ⟨e, _⟩ | ⟨g, cap, cur, e, _⟩
    · injection e with e1 e2 e3; exact absurd e2 h0
    · injection e with e1 e2 e3
      subst e1
      refine .inr ⟨g, 0, rfl, (World.ownsRow.lt h g rfl).2, fun i hi => ?_⟩
      have hc : ∀ j u, (cv (vth xs i)).toList[j]? = some u → w.cell? ⟨g, 0 + i * 6 + j, none⟩ = some u := fun j u hj => by
        have := World.ownsRow.cells h (g := g) rfl _ _ (vcell xs i j u hi hj)
        rwa [add_plain, ← Nat.add_assoc] at this
      exact ⟨hc 0 _ rfl, hc 1 _ rfl, hc 2 _ rfl, hc 3 _ rfl, hc 4 _ rfl, hc 5 _ rfl⟩
theorem nrow_nl {base : Nat} {w : World} {A : Option Addr} {c : Nat} {xs : List Nat} (h : nRow base w (.slice A xs.length c) xs) (hf : ∀ v ∈ xs, v < 18446744073709551616) (hn : xs.length ≤ 9223372036854775807) : NL w A xs.length xs := by
  refine ⟨rfl, hn, hf, ?_⟩
  by_cases h0 : xs.length = 0
  · exact .inl h0
  · rcases h.2 with ⟨e, _⟩ | ⟨g, cap, cur, e, _⟩
    · injection e with e1 e2 e3; exact absurd e2 h0
    · injection e with e1 e2 e3
      subst e1
      refine .inr ⟨g, 0, rfl, (World.ownsRow.lt h g rfl).2, fun i hi => ?_⟩
      have := World.ownsRow.cells h (g := g) rfl i (.int .u64 (nth xs i)) (by
        rw [List.getElem?_map, List.getElem?_eq_getElem hi]
        unfold nth
        rw [List.getD_eq_getElem?_getD, List.getElem?_eq_getElem hi]; rfl)
      rwa [add_plain] at this
theorem hm_of {base : Nat} {w : World} {m : Ms} {t : At} (hm : mok m) (hv : vRow base w (.slice t.va m.vers.length t.vc) m.vers) (hn : nRow base w (.slice t.na m.vec.length t.nc) m.vec) : HM w m t :=
  have hf := mok_fits hm
  ⟨hf, vrow_vl hv hf.2.2.2.2.2.2.1 (by have := hm.1.len; omega), nrow_nl hn hf.2.2.2.2.2.2.2.1 (by have := hm.1.vec; omega)⟩

/-! ### No error's number is nought -/
def NZ {α : Type} (r : R α) : Prop := ∀ l k, r l = .error k → k ≠ 0
theorem nz_ret {α : Type} (x : α) : NZ (R.ret x) := fun l k h => by cases h
theorem nz_no (b : Bool) {e : Nat} (he : e ≠ 0) : NZ (R.no b e) := fun l k h => by
  unfold R.no at h
  split at h
  · cases h; exact he
  · cases h
theorem nz_seq {α β : Type} {r : R α} {f : α → R β} (h1 : NZ r) (h2 : ∀ x, NZ (f x)) : NZ (r.seq f) := fun l k h => by
  unfold R.seq at h
  rcases hr : r l with e | ⟨x, t⟩
  · rw [hr] at h; cases h; exact h1 l k hr
  · rw [hr] at h; exact h2 x t k h
theorem nz_wide (n : Nat) : NZ (rWide n) := fun l k h => by
  unfold rWide at h
  split at h
  · cases h; decide
  · cases h
theorem nz_short : NZ rShort := fun l k h => by
  unfold rShort at h
  split at h
  · cases h
  · cases h; assumption
theorem nz_str (n : Nat) : NZ (rStr n) := fun l k h => by
  unfold rStr at h
  split at h
  · cases h; decide
  · cases h
theorem nz_lim {r : R Nat} (h : NZ r) (lim : Nat) {e : Nat} (he : e ≠ 0) : NZ (rLim r lim e) := nz_seq h fun _ => nz_seq (nz_no _ he) fun _ => nz_ret _
theorem nz_int {r : R Nat} (h : NZ r) : NZ (rInt r) := nz_seq h fun _ => nz_ret _
theorem nz_tx {r : R Nat} (h : NZ r) (most : Nat) : NZ (rTx r most) := nz_seq (nz_lim h most (by decide)) fun n => nz_str n
theorem nz_gone : NZ rGone := nz_seq (nz_lim (nz_wide 1) 1 (by decide)) fun _ => nz_ret _
theorem nz_row {α : Type} (st : α → Nat) {r : Nat → R α} (h : ∀ a, NZ (r a)) : ∀ n a, NZ (rRow st r a n)
  | 0, _ => nz_ret _
  | n + 1, a => nz_seq (h a) fun x => nz_seq (nz_row st h n (st x)) fun _ => nz_ret _
theorem nz_list {α : Type} {rc : R Nat} (hc : NZ rc) (st : α → Nat) {r : Nat → R α} (h : ∀ a, NZ (r a)) : NZ (rList rc st r) := nz_seq hc fun n => nz_row st h n 0
theorem nz_opt {α : Type} (b : Bool) {r : R α} (h : NZ r) (z : α) : NZ (rOpt b r z) := by
  cases b
  · exact nz_ret z
  · exact h
theorem nz_ver1 : NZ rVer1 := nz_seq (nz_tx (nz_wide 1) 16) fun _ => nz_seq (nz_tx (nz_wide 1) 64) fun _ => nz_seq nz_gone fun _ => nz_seq (nz_wide 8) fun _ => nz_seq (nz_int (nz_lim (nz_wide 1) 3 (by decide))) fun _ => nz_seq (nz_int (nz_lim (nz_wide 4) 1073741824 (by decide))) fun _ => nz_ret _
theorem nz_ver2 (a : Nat) : NZ (rVer2 a) := nz_seq (nz_tx nz_short 16) fun _ => nz_seq (nz_tx nz_short 64) fun _ => nz_seq nz_gone fun _ => nz_seq (nz_seq nz_short fun _ => nz_ret _) fun _ => nz_seq (nz_int (nz_lim nz_short 3 (by decide))) fun _ => nz_seq (nz_int (nz_lim nz_short 1073741824 (by decide))) fun _ => nz_ret _
theorem nz_cmd {rn : R Int} {rt : R ByteArray} (h1 : NZ rn) (h2 : NZ rt) : NZ (rCmd rn rt) := nz_seq h1 fun _ => nz_seq h1 fun _ => nz_seq h1 fun _ => nz_seq h1 fun _ => nz_seq h1 fun _ => nz_seq h2 fun _ => nz_ret _
theorem nz_kind : NZ rKind := nz_int (nz_seq (nz_wide 1) fun _ => nz_seq (nz_no _ (by decide)) fun _ => nz_ret _)
theorem nz_cn (lim : Nat) : NZ (rCN lim) := nz_seq (nz_lim nz_short lim (by decide)) fun _ => nz_seq (nz_no _ (by decide)) fun _ => nz_ret _
theorem nz_nn : NZ rNN := nz_seq nz_short fun _ => nz_seq (nz_no _ (by decide)) fun _ => nz_ret _
theorem nz_tn (most : Nat) : NZ (rTN most) := nz_seq (nz_tx nz_short most) fun _ => nz_seq (nz_no _ (by decide)) fun _ => nz_ret _
theorem nz_elder : NZ rElder := nz_seq nz_kind fun _ => nz_seq (nz_wide 8) fun _ => nz_seq (nz_wide 8) fun _ => nz_seq (nz_wide 8) fun _ => nz_seq (nz_tx (nz_wide 1) 16) fun _ => nz_seq (nz_tx (nz_wide 1) 16) fun _ =>
  nz_seq (nz_list (nz_lim (nz_wide 2) 4096 (by decide)) _ fun _ => nz_ver1) fun _ => nz_seq (nz_list (nz_lim (nz_wide 1) 32 (by decide)) _ fun _ => nz_wide 8) fun _ => nz_seq (nz_cmd (nz_int (nz_wide 1)) (nz_tx (nz_wide 1) 16)) fun _ => nz_ret _
theorem nz_newer : NZ rNewer := nz_seq nz_kind fun _ => nz_seq (nz_wide 1) fun _ => nz_seq (nz_opt _ nz_nn _) fun _ => nz_seq (nz_opt _ nz_nn _) fun _ => nz_seq (nz_opt _ nz_nn _) fun _ => nz_seq (nz_opt _ (nz_tn 16) _) fun _ => nz_seq (nz_opt _ (nz_tn 16) _) fun _ =>
  nz_seq (nz_opt _ (nz_list (nz_cn 4096) _ nz_ver2) _) fun _ => nz_seq (nz_opt _ (nz_list (nz_cn 32) _ fun _ => nz_short) _) fun _ => nz_seq (nz_opt _ (nz_seq (nz_cmd (nz_int (nz_lim nz_short 255 (by decide))) (nz_tx nz_short 16)) fun _ => nz_seq (nz_no _ (by decide)) fun _ => nz_ret _) _) fun _ => nz_ret _
theorem dec_nz {v : Int} {l : List Nat} {k : Nat} (h : dec v l = .error k) : k ≠ 0 := by
  by_cases hv : v = 1 ∨ v = 2
  · rw [dec_whole hv] at h
    unfold whole at h
    have hz : NZ (rBy v) := by
      unfold rBy
      split
      · exact nz_elder
      · exact nz_newer
    rcases hr : rBy v l with e | ⟨m, t⟩
    · rw [hr] at h; cases h; exact hz l k hr
    · rw [hr] at h
      simp only at h
      split at h
      · cases h
      · cases h; decide
  · rw [dec_no hv] at h
    cases h; decide
theorem hm0 (w : World) : HM w M0 T0 :=
  ⟨⟨⟨by decide, by decide⟩, by decide, by decide, by decide, by decide, by decide, fun v hv => by simp [M0] at hv, fun v hv => by simp [M0] at hv, ⟨⟨by decide, by decide⟩, ⟨by decide, by decide⟩, ⟨by decide, by decide⟩, ⟨by decide, by decide⟩, ⟨by decide, by decide⟩, by decide⟩⟩, ⟨rfl, by decide, fun v hv => by simp [M0] at hv, .inl rfl⟩, ⟨rfl, by decide, fun v hv => by simp [M0] at hv, .inl rfl⟩⟩
theorem sm0 (w : World) : SM w.heap.size M0 T0 (w.alloc (.cells mz 28)) := SM.new w M0 T0
theorem ne0 {v : Int} {l : List Nat} {k : Nat} (h : dec v l = .error k) : ((k : Int) != 0) = true := by have := dec_nz h; rw [bne_iff_ne]; omega
set_option maxRecDepth 100000 in
set_option maxHeartbeats 2000000 in
theorem only (v : Int) (A : Option Addr) (c : Nat) (l : List Nat) (w : World) (hb : BL w A l.length l) (hc : l.length ≤ c) (h9 : c ≤ 9223372036854775807) (hA : l.length = 0 ∨ A = none ∨ ∃ b off, A = some ⟨b, off, none⟩ ∧ b < w.heap.size) :
    Calls Try.prog 6 #[.int .i64 v, .slice A l.length c] w (Yes w) := by
  have hdc := decode_any v A c l w hb hc h9 hA
  rcases hd : dec v l with k | m
  · rw [hd] at hdc
    have hk := ne0 hd
    replace hdc := Lib.hid hdc
    clear hb hA hd
    generalize l.length = n at *
    go_enter Try.func6, Try.ntmps6
    go_wp2_with (fail)
    refine hdc.out.mono ?_
    rintro e w1 ⟨rfl, hB1⟩
    have hB2 := Lib.hid (trans0 hB1 (alloc_below _ (.cells mz 28)))
    have hS := Lib.hid (sm0 w1)
    clear hB1
    go_wp2_with (fail)
    generalize w1.alloc (.cells mz 28) = w2 at *
    refine (wirN.awake_any _).mono ?_
    rintro e w3 ⟨rfl, hB3⟩
    have hS3 := hS.out.below hB3
    have hB4 := Lib.hid (trans0 hB2.out hB3)
    clear hS hB3 hB2
    obtain ⟨s0, s1, s2, s3, s4, s5, s6, s7, s8, s9, s10, s11, s12, s13, s14⟩ := hS3
    have hsm := Lib.hid (same_any M0 M0 T0 T0 w3 (hm0 _) (hm0 _))
    simp only [M0, T0, List.length_nil, Cm.nought, wirR.mt] at s0 s1 s2 s3 s4 s5 s6 s7 s8 s9 s10 s11 s12 s13
    go_wp2_with (fail)
    refine hsm.out.mono ?_
    rintro e w4 ⟨rfl, hB5⟩
    have hB6 := trans0 hB4.out hB5
    clear s0 s1 s2 s3 s4 s5 s6 s7 s8 s9 s10 s11 s12 s13 s14 hB5
    go_wp2
    go_ret
    exact ⟨rfl, hB6⟩
  · rw [hd] at hdc
    obtain ⟨hm, hl, hv⟩ := enc_dec hb.lt hd
    have h0 : chk m = 0 := chk_ok.2 hm.1
    replace hdc := Lib.hid hdc
    replace hb := Lib.hid hb
    replace hl := Lib.hid hl
    replace hm := Lib.hid hm
    replace hv := Lib.hid hv
    replace h0 := Lib.hid h0
    clear hA hd
    generalize l.length = n at *
    go_enter Try.func6, Try.ntmps6
    go_wp2_with (fail)
    refine hdc.out.mono ?_
    rintro e w1 ⟨t, rfl, hvr, hnr, hB1⟩
    have hh := Lib.hid ((hm_of (m := m) (t := t) hm.out hvr hnr).below (alloc_below _ (.cells (cm m t) 28)))
    have hB2 := Lib.hid (trans0 hB1 (alloc_below _ (.cells (cm m t) 28)))
    have hS := Lib.hid (SM.new w1 m t)
    clear hB1 hvr hnr
    go_wp2_with (fail)
    generalize w1.alloc (.cells (cm m t) 28) = w2 at *
    refine (enc_ok v m t _ hh.out hv.out h0.out).mono ?_
    rintro e w3 ⟨B, c1, rfl, ho, hB3⟩
    have hl1 := Lib.hid (own_bl ho)
    replace hS := Lib.hid (hS.out.below hB3)
    replace hh := Lib.hid (hh.out.below hB3)
    replace hB2 := Lib.hid (trans0 hB2.out hB3)
    clear hB3 ho
    go_wp2_with (fail)
    refine (wirN.awake_any _).mono ?_
    rintro e w4 ⟨rfl, hB3⟩
    replace hl1 := Lib.hid (hl1.out.below hB3)
    replace hS := Lib.hid (hS.out.below hB3)
    replace hh := Lib.hid (hh.out.below hB3)
    replace hB2 := Lib.hid (trans0 hB2.out hB3)
    clear hB3
    obtain ⟨s0, s1, s2, s3, s4, s5, s6, s7, s8, s9, s10, s11, s12, s13, s14⟩ := hS.out
    go_wp2_with (fail)
    refine (chk0 m t _ hh.out h0.out).mono ?_
    rintro e w5 ⟨rfl, hB3⟩
    replace hl1 := Lib.hid (hl1.out.below hB3)
    replace hb := Lib.hid (hb.out.below (trans0 hB2.out hB3))
    replace hB2 := Lib.hid (trans0 hB2.out hB3)
    clear hB3 s0 s1 s2 s3 s4 s5 s6 s7 s8 s9 s10 s11 s12 s13 s14
    have hs3 : Calls Try.prog 16 #[.slice A n c, .slice B (body v m).length c1] w5 fun e w' => e = .returned (.bool true) ∧ w5 = w' := by
      have := same3 _ _ c _ _ _ c1 _ w5 hb.out hl1.out
      rwa [decide_eq_true hl.out] at this
    replace hs3 := Lib.hid hs3
    clear hl hb hl1
    generalize (body v m).length = n1 at *
    go_wp2_with (fail)
    refine hs3.out.mono ?_
    rintro e w6 ⟨rfl, rfl⟩
    go_wp2
    go_ret
    exact ⟨rfl, hB2.out⟩
/-- a row of bytes that came in, as Decode wants it -/
theorem came {w : World} {A : Option Addr} {len cap : Nat} {z : List Int} (h : IsRow .u8 w A len cap z) :
    ∃ l : List Nat, l.length = len ∧ BL w A l.length l ∧ l.length ≤ cap ∧ cap ≤ 9223372036854775807 ∧ (l.length = 0 ∨ A = none ∨ ∃ b off, A = some ⟨b, off, none⟩ ∧ b < w.heap.size) := by
  have hb := row_bl h
  have hr := row_len h
  have hl : ((z.take len).map Int.toNat).length = len := hb.1
  refine ⟨(z.take len).map Int.toNat, hl, by rw [hl]; exact hb, by omega, hr.2, ?_⟩
  rcases hb.2.2.2 with h0 | ⟨b, off, rfl, hlt, -⟩
  · exact .inl (by omega)
  · exact .inr (.inr ⟨b, off, rfl, hlt⟩)
theorem only_row (v : Int) (A : Option Addr) (len cap : Nat) (z : List Int) (w : World) (h : IsRow .u8 w A len cap z) :
    Calls Try.prog 6 #[.int .i64 v, .slice A len cap] w (Yes w) := by
  obtain ⟨l, rfl, hb, hc, h9, hA⟩ := came h
  exact only v A cap l w hb hc h9 hA
end Go.Proofs.Ytkbhmeajgmecoaa.wirOn
