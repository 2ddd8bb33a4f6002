/- The document's Decode. -/
import Derived.Test.YtkbhmeajgmecoaaWirRf
import Derived.Test.YtkbhmeajgmecoaaWirDl
namespace Go.Proofs.Ytkbhmeajgmecoaa.wirRg
open Go.ChangeShapes Go.WideShapes Go.ChangeAt Go.RowKit Go.Deep
open numM rowA byt numA numB numC numN numD numE wirM wirA wirL wirP wirQ wirR wirDa wirDb wirDf wirDg wirDh wirDi wirDj wirDk wirDl wirRa wirRb wirRc wirRd wirRe wirRf

theorem SAt.new {w : World} {A : Option Addr} {c : Nat} {l : List Nat} (hb : BL w A l.length l) (hc : l.length ≤ c) (h9 : c ≤ 9223372036854775807) (hA : l.length = 0 ∨ A = none ∨ ∃ b off, A = some ⟨b, off, none⟩ ∧ b < w.heap.size) : SAt (w.alloc (.cells #[.slice A l.length c, .int .i64 0] 61)) w.heap.size (.ok l) := by
  refine ⟨A, l.length, c, ?_, (fun _ e => by cases e), fun l' e => ?_⟩
  · exact (wirDe.row_new w #[.slice A l.length c, .int .i64 0] 61).congr (fun i hi => by
      have : i = 0 ∨ i = 1 := by simp at hi; omega
      rcases this with rfl | rfl <;> rfl)
  · cases e
    exact ⟨rfl, hb.below ((Below.refl _ _).alloc (Nat.le_refl _) _), hc, h9, hA⟩
def t0 : At := ⟨none, 0, none, 0⟩
theorem MT.new (w : World) (x : Int) : MT (w.alloc (.cells #[.int .i64 x, .int .u64 0, .int .u64 0, .int .u64 0, .string ⟨#[]⟩, .string ⟨#[]⟩, .slice none 0 0, .slice none 0 0, .int .i64 0, .int .i64 0, .int .i64 0, .int .i64 0, .int .i64 0, .string ⟨#[]⟩] 28)) w.heap.size (w.heap.size + 1) (mk0 x) t0 :=
  ⟨(wirDe.row_new w _ 28).congr (j14 rfl rfl rfl rfl rfl rfl rfl rfl rfl rfl rfl rfl rfl rfl), World.ownsRow_nil _ _ _ 6, World.ownsRow_nil _ _ _ 1⟩
theorem part_any {u mb B : Nat} {W w : World} {m : Ms} {t : At} {l : List Nat} (v : Int) (hv : v = 1 ∨ v = 2) (i : Nat) (hi : i < 8) (hs : SAt w u (.ok l)) (hm : MT w mb B m t) (hu : u < mb) (hmb : mb < B) (hB : B ≤ w.heap.size) (hW : Below W.heap.size W w) (hWu : W.heap.size ≤ u) (h5 : i ≤ 5 → m.vers = []) (h6 : i ≤ 6 → m.vec = []) :
    Calls Try.prog 41 #[.pointer (some ⟨u, 0, none⟩), .int .i64 v, .int .i64 i, .pointer (some ⟨mb, 0, none⟩)] w (PR u mb B W v i m l) := by
  match i, hi, h5, h6 with
  | 0, _, _, _ => exact part_0 v hv hs hm hu hmb hW hWu
  | 1, _, _, _ => exact part_1 v hv hs hm hu hmb hW hWu
  | 2, _, _, _ => exact part_2 v hv hs hm hu hmb hW hWu
  | 3, _, _, _ => exact part_3 v hv hs hm hu hmb hW hWu
  | 4, _, _, _ => exact part_4 v hv hs hm hu hmb hW hWu
  | 5, _, h, _ => exact part_5 v hv hs hm hu hmb hB hW hWu (h (by decide))
  | 6, _, _, h => exact part_6 v hv hs hm hu hmb hB hW hWu (h (by decide))
  | 7, _, _, _ => exact part_7 v hv hs hm hu hmb hB hW hWu
/-- what the first byte's check does -/
def badK (n : Nat) : Bool := decide (n < 1) || decide (26 < n)
theorem kind_on {l : List Nat} (hz : ∀ k, stt (on (.ok l) (rWide 1)) = .error k → k ≠ 0) : on (.ok l) rKind = on (if er (stt (on (.ok l) (rWide 1))) = 0 ∧ badK (vl 0 (on (.ok l) (rWide 1))) = true then .error 5 else stt (on (.ok l) (rWide 1))) (R.ret ((vl 0 (on (.ok l) (rWide 1)) : Nat) : Int)) := by
  unfold rKind rInt
  rw [seq_assoc, on_seq _ _ _ 0]
  generalize stt (on (.ok l) (rWide 1)) = s at *
  generalize vl 0 (on (.ok l) (rWide 1)) = x
  cases s with
  | error k =>
    rw [if_neg (fun h => hz k rfl h.1)]; rfl
  | ok t =>
    by_cases hb : badK x = true
    · rw [if_pos ⟨rfl, hb⟩]
      unfold badK at hb
      unfold on R.seq R.no R.ret
      simp only [hb]
      rfl
    · rw [if_neg (fun h => hb h.2)]
      unfold badK at hb
      replace hb : (decide (x < 1) || decide (26 < x)) = false := by simpa using hb
      unfold on R.seq R.no R.ret
      simp only [hb]
      rfl
theorem tail_step {s0 s s' : Except Nat (List Nat)} {r : R Ms} {v : Int} {b k : Nat} {m m' : Ms} (h : on s0 r = on s (rTail v b (8 - k) k m)) (hk : k < 8) (hs : on s (rStep v b k m) = on s' (R.ret m')) : on s0 r = on s' (rTail v b (8 - (k + 1)) (k + 1) m') := by
  obtain ⟨j, hj⟩ : ∃ j, 8 - k = j + 1 := ⟨8 - k - 1, by omega⟩
  rw [h, hj, show 8 - (k + 1) = j by omega]
  exact on_then hs _
theorem step_no {s : Except Nat (List Nat)} {v : Int} {b k : Nat} {m : Ms} (hb : bit b k = false) : on s (rStep v b k m) = on s (R.ret m) := by unfold rStep; rw [hb]; rfl
theorem step_yes {s s' : Except Nat (List Nat)} {v : Int} {b k : Nat} {m m' : Ms} {th : Bool} (hb : bit b k = true) (h : on s (rPart v k m) = on s' (R.ret (m', th))) : on s (rStep v b k m) = on s' ((R.no (decide (v = 2) && !th) 3).seq fun _ => R.ret m') := by
  unfold rStep; rw [if_pos hb]; exact on_then h _
theorem dec_of {l : List Nat} {v : Int} (hv : v = 1 ∨ v = 2) {s : Except Nat (List Nat)} {b k : Nat} {m : Ms} (h : on (.ok l) (rDoc v) = on s (rTail v b (8 - k) k m)) (hk8 : k ≤ 8) (hk : ¬ (k < 8 ∧ er s = 0)) :
    (∀ e, s = .error e → dec v l = .error e) ∧ ∀ t, s = .ok t → dec v l = if t.length = 0 then .ok m else .error 3 := by
  have hd : dec v l = match on (.ok l) (rDoc v) with
    | .error e => .error e
    | .ok (m, t) => if t.length = 0 then .ok m else .error 3 := by
    unfold dec
    rw [if_neg (by omega), doc_by hv]
    rfl
  rw [hd, h]
  constructor
  · rintro e rfl; rfl
  · rintro t rfl
    obtain rfl : k = 8 := by
      have : ¬ k < 8 := fun q => hk ⟨q, rfl⟩
      omega
    rfl
theorem own_put14 {w : World} {base n sz : Nat} {e : TypeId} {v : Value} {xs : List Value} {b : Nat} (h : w.ownsRow base e sz v n xs) (hb : v.ownBlock ≠ some b) (cs : Array Value) : ∀ j, (put14 w b cs j).ownsRow base e sz v n xs
  | 0 => h
  | j + 1 => own_put (own_put14 h hb cs j) (p := ⟨b, j, none⟩) hb _
set_option maxRecDepth 100000 in
set_option maxHeartbeats 4000000 in
theorem rdecode_1 (A : Option Addr) (c : Nat) (l : List Nat) (w : World) (hb : BL w A l.length l) (hc : l.length ≤ c) (h9 : c ≤ 9223372036854775807) (hA : l.length = 0 ∨ A = none ∨ ∃ b off, A = some ⟨b, off, none⟩ ∧ b < w.heap.size) :
    Calls Try.prog 20 #[.int .i64 1, .slice A l.length c] w (RdB w (dec 1 l)) := by
  have hrow : Hid ((w.alloc (.cells mz 28)).rowIs w.heap.size 28 14 (fun i => (mz : Array Value).getD i undef)) := Lib.hid (wirDe.row_new w mz 28)
  have hal := (Below.refl w.heap.size w).alloc (Nat.le_refl _) (.cells mz 28)
  have hsz : (w.alloc (.cells mz 28)).heap.size = w.heap.size + 1 := by simp
  have hs := SAt.new (hb.below hal) hc h9 (hA.imp id fun h => h.imp id fun ⟨b, off, e, h⟩ => ⟨b, off, e, by have := hal.size; omega⟩)
  rw [hsz] at hs
  have hWd := Lib.hid (wide_s 1 _ hs (by omega) (by omega))
  have hkn := Lib.hid (fun (hz : ∀ k, stt (on (.ok l) (rWide 1)) = .error k → k ≠ 0) => kind_on hz)
  have hx256 : vl 0 (on (.ok l) (rWide 1)) < 256 := by
    show vl 0 (rWide 1 l) < 256
    rcases hr : rWide 1 l with e | ⟨n, t⟩
    · exact Nat.succ_pos _
    · exact wirDc.wide1_lt hb.lt hr
  have hB0 := (Below.refl (w.heap.size + 1) (w.alloc (.cells mz 28))).alloc (by rw [hsz]; exact Nat.le_refl _) (.cells #[.slice A l.length c, .int .i64 0] 61)
  rw [← hsz] at hB0
  replace hB0 := Lib.hid hB0
  replace hal := Lib.hid hal
  clear hb hA hs
  generalize hL : l.length = n at *
  replace hL := Lib.hid hL
  replace hsz := Lib.hid hsz
  go_enter Try.func20, Try.ntmps20
  go_wp2_with (fail)
  refine hWd.out.mono ?_
  rintro e w1 ⟨rfl, hs1, hg1⟩
  have hW1 := Lib.hid (hB0.out.trans (hg1.below hB0.out.size (by rw [hsz.out]; exact Nat.le_refl _)))
  have hk := Lib.hid (hkn.out (fun k e => by rw [e] at hs1; exact hs1.nz))
  have hlt1 : w.heap.size + 2 ≤ w1.heap.size := by have := hs1.lt; omega
  have hwrap : IntKind.i64.wrap ((vl 0 (on (.ok l) (rWide 1)) : Nat) : Int) = (vl 0 (on (.ok l) (rWide 1)) : Nat) := IntWalk.i64_in _ ⟨by omega, by omega⟩
  replace hs1 := Lib.hid hs1
  clear hWd hkn hg1 hB0
  unfold wirRb.vU
  generalize vl 0 (on (.ok l) (rWide 1)) = x at *
  generalize stt (on (.ok l) (rWide 1)) = s1 at *
  have hM := Lib.hid (MT.new w1 x)
  have hS2 := Lib.hid (hs1.out.alloc (.cells #[.int .i64 x, .int .u64 0, .int .u64 0, .int .u64 0, .string ⟨#[]⟩, .string ⟨#[]⟩, .slice none 0 0, .slice none 0 0, .int .i64 0, .int .i64 0, .int .i64 0, .int .i64 0, .int .i64 0, .string ⟨#[]⟩] 28))
  have hW2 := Lib.hid (hW1.out.alloc (by have := hW1.out.size; exact this) (.cells #[.int .i64 x, .int .u64 0, .int .u64 0, .int .u64 0, .string ⟨#[]⟩, .string ⟨#[]⟩, .slice none 0 0, .slice none 0 0, .int .i64 0, .int .i64 0, .int .i64 0, .int .i64 0, .int .i64 0, .string ⟨#[]⟩] 28))
  clear hs1 hW1
  go_upto_region 5 with fail
  have hBs : w1.heap.size + 1 ≤ (w1.alloc (.cells #[.int .i64 x, .int .u64 0, .int .u64 0, .int .u64 0, .string ⟨#[]⟩, .string ⟨#[]⟩, .slice none 0 0, .slice none 0 0, .int .i64 0, .int .i64 0, .int .i64 0, .int .i64 0, .int .i64 0, .string ⟨#[]⟩] 28)).heap.size := by simp
  generalize w1.alloc (.cells #[.int .i64 x, .int .u64 0, .int .u64 0, .int .u64 0, .string ⟨#[]⟩, .string ⟨#[]⟩, .slice none 0 0, .slice none 0 0, .int .i64 0, .int .i64 0, .int .i64 0, .int .i64 0, .int .i64 0, .string ⟨#[]⟩] 28) = w2 at *
  generalize w1.heap.size = mb at *
  go_cut [35] from 23 to 35 (fun tv wx => wx = w2 ∧ tv = .bool (decide (er s1 = 0 ∧ badK x = true)))
  case first =>
    have he := hS2.out.err
    have y0 : w2.cell? ⟨mb, 0, none⟩ = some (.int .i64 x) := hM.out.row.cell (i := 0) (by omega)
    cases s1 with
    | error j =>
      have hj : ((j : Int) == 0) = false := by rw [beq_eq_false_iff_ne]; have := hS2.out.nz; omega
      replace he : w2.cell? ⟨w.heap.size + 1, 1, none⟩ = some (.int .i64 j) := he
      have hd := Lib.hid (decide_eq_false (p := er (.error j) = 0 ∧ badK x = true) (fun h => hS2.out.nz h.1))
      clear hk
      go_wp2
      go_meet
      exact ⟨rfl, by rw [hd.out]⟩
    | ok t =>
      replace he : w2.cell? ⟨w.heap.size + 1, 1, none⟩ = some (.int .i64 0) := he
      by_cases hbad : badK x = true
      · have hd := Lib.hid (decide_eq_true (p := er (.ok t) = 0 ∧ badK x = true) ⟨rfl, hbad⟩)
        have hb2 : x < 1 ∨ (¬ x < 1 ∧ 26 < x) := by unfold badK at hbad; simp at hbad; omega
        clear hk hbad
        rcases hb2 with q | ⟨q, q2⟩
        · have e1 : decide (x < 1) = true := decide_eq_true q
          go_wp2
          go_meet
          exact ⟨rfl, by rw [hd.out]⟩
        · have e1 : decide (x < 1) = false := decide_eq_false q
          have e2 : decide (26 < x) = true := decide_eq_true q2
          go_wp2
          go_meet
          exact ⟨rfl, by rw [hd.out]; simp; omega⟩
      · have hd := Lib.hid (decide_eq_false (p := er (.ok t) = 0 ∧ badK x = true) (fun h => hbad h.2))
        have q1 : ¬ x < 1 := by intro q; apply hbad; unfold badK; simp [q]
        have q2 : ¬ 26 < x := by intro q; apply hbad; unfold badK; simp [q]
        clear hbad hk
        go_wp2
        go_meet
        exact ⟨rfl, by rw [hd.out]; simp; omega⟩
  case rest =>
  obtain ⟨rfl, rfl⟩ := hcut
  go_upto_if 35 with fail
  go_cut [] from 35 to 36 (fun wx => ∃ s, Hid (SAt wx (w.heap.size + 1) s) ∧ Hid (MT wx mb (mb + 1) (mk0 x) t0) ∧ Hid (Below (w.alloc (.cells mz 28)).heap.size (w.alloc (.cells mz 28)) wx) ∧ Hid (on (.ok l) rKind = on s (R.ret (x : Int))) ∧ mb + 1 ≤ wx.heap.size)
  case first =>
    by_cases hd : er s1 = 0 ∧ badK x = true
    · rw [decide_eq_true hd]
      obtain ⟨t, rfl⟩ := er_zero hS2.out hd.1
      have hk2 := Lib.hid (hk.out.trans (by rw [if_pos hd]))
      have hS3 := Lib.hid (hS2.out.stop (k := 5) (by decide))
      have hM3 := Lib.hid (hM.out.gr (Gr.set wc 1 (.int .i64 (5 : Nat))) (show w.heap.size + 1 < mb + 1 by omega) (by omega))
      have hW3 := Lib.hid (hW2.out.trans (Gr.below (Gr.set wc 1 (.int .i64 (5 : Nat))) hW2.out.size (by rw [hsz.out]; exact Nat.le_refl (w.heap.size + 1))))
      have hst := Lib.hid (stop_s 5 wc hS2.out)
      clear hd hk hS2 hM hW2
      go_wp2_with (fail)
      refine hst.out.mono ?_
      rintro e w3 ⟨rfl, rfl⟩
      go_wp2
      go_meet
      exact ⟨_, hS3, hM3, hW3, hk2, by rw [World.size_setCell]; exact hBs⟩
    · rw [decide_eq_false hd]
      have hk2 := Lib.hid (hk.out.trans (by rw [if_neg hd]))
      clear hd hk
      go_wp2
      go_meet
      exact ⟨_, hS2, hM, hW2, hk2, hBs⟩
  case rest =>
    clear hk hS2 hM hW2
    obtain ⟨s2, hS, hM, hW, hK, hBs⟩ := hcut
    obtain ⟨hT, hS, hM, hW, hBs⟩ : Hid (on (.ok l) (rDoc 1) = on s2 (rTail 1 255 8 0 (mk0 x))) ∧ Hid (SAt wc (w.heap.size + 1) s2) ∧ Hid (MT wc mb (mb + 1) (mk0 x) t0) ∧ Hid (Below (w.alloc (.cells mz 28)).heap.size (w.alloc (.cells mz 28)) wc) ∧ mb + 1 ≤ wc.heap.size := ⟨Lib.hid (show on (.ok l) (rKind.seq _) = _ by rw [on_then hK.out]; rfl), hS, hM, hW, hBs⟩
    clear hK hx256 hwrap
    go_wp2
    go_loopw [8, 9, 10] (fun bv i th wr => ∃ (k : Nat) (s : Except Nat (List Nat)) (m : Ms) (t : At) (b' : Nat), i = .int .i64 k ∧ k ≤ 8 ∧ bv = .int .u64 b' ∧ b' < 256 ∧ Hid (b' = 255 / 2 ^ k) ∧ Hid (on (.ok l) (rDoc 1) = on s (rTail 1 255 (8 - k) k m)) ∧ Hid (SAt wr (w.heap.size + 1) s) ∧ Hid (MT wr mb (mb + 1) m t) ∧ Hid (Below (w.alloc (.cells mz 28)).heap.size (w.alloc (.cells mz 28)) wr) ∧ mb + 1 ≤ wr.heap.size ∧ Hid (k ≤ 5 → m.vers = []) ∧ Hid (k ≤ 6 → m.vec = [])) (fun _ i _ _ => 8 - (intOf i).toNat)
    case atStart => exact ⟨0, _, _, _, 255, rfl, by omega, rfl, by first | omega | assumption, Lib.hid (by rw [Nat.pow_zero, Nat.div_one]), hT, hS, hM, hW, hBs, Lib.hid (fun _ => rfl), Lib.hid (fun _ => rfl)⟩
    case round =>
      clear hT hS hM hW hBs
      obtain ⟨k, s, m, t, b', rfl, hk8, rfl, hb256, hbk, hT, hS, hM, hW, hBs, h5, h6⟩ := hrel
      have he := hS.out.err
      by_cases hgo : k < 8 ∧ er s = 0
      · obtain ⟨hlt, hz⟩ := hgo
        obtain ⟨l', rfl⟩ := er_zero hS.out hz
        replace he : wr.cell? ⟨w.heap.size + 1, 1, none⟩ = some (.int .i64 0) := he
        have hmod : b' / 2 < 256 := by omega
        have hbk2 := Lib.hid (show b' / 2 = 255 / 2 ^ (k + 1) by rw [hbk.out, Nat.div_div_eq_div_mul, Nat.pow_succ])
        by_cases hbit : b' % 2 = 1
        · have hbt := Lib.hid (show bit (255) k = true by unfold bit; rw [← hbk.out]; exact decide_eq_true hbit)
          have hp := Lib.hid (part_any (B := mb + 1) 1 (by decide) k hlt hS.out hM.out (by omega) (by omega) hBs hW.out (by rw [hsz.out]; exact Nat.le_refl _) h5.out h6.out)
          have hq : (((b' % 2 : Nat) : Int) == 1) = true := by rw [beq_iff_eq]; omega
          clear hS hM hW hz
          go_wp2_with (fail)
          refine hp.out.mono ?_
          rintro e w3 ⟨s', m', t', th, rfl, hS, hM, hon, hW, h5', h6'⟩
          replace hS := Lib.hid hS
          replace hM := Lib.hid hM
          replace hW := Lib.hid hW
          have h5n := Lib.hid (fun (q : k + 1 ≤ 5) => (h5' (by omega)).trans (h5.out (by omega)))
          have h6n := Lib.hid (fun (q : k + 1 ≤ 6) => (h6' (by omega)).trans (h6.out (by omega)))
          have hbs := step_yes (b := 255) hbt.out hon
          clear hp h5' h6' hq he
          have he := hS.out.err
          cases s' with
          | error j =>
            have hj : ((j : Int) == 0) = false := by rw [beq_eq_false_iff_ne]; have := hS.out.nz; omega
            replace he : w3.cell? ⟨w.heap.size + 1, 1, none⟩ = some (.int .i64 j) := he
            have hT2 := Lib.hid (tail_step (s' := .error j) (m' := m') hT.out hlt (hbs.trans rfl))
            clear hbs hon hT hBs
            go_wp2
            go_roundw
            case rel => exact ⟨k + 1, _, _, _, b' / 2, by go_num, by omega, by first | rfl | go_num, hmod, hbk2, hT2, hS, hM, hW, hM.out.row.lt, h5n, h6n⟩
            case measure => simp [intOf]; omega
          | ok t' =>
            replace he : w3.cell? ⟨w.heap.size + 1, 1, none⟩ = some (.int .i64 0) := he
            have hT2 := Lib.hid (tail_step hT.out hlt (hbs.trans rfl))
            clear hbs hon hT hBs
            go_wp2
            go_roundw
            case rel => exact ⟨k + 1, _, _, _, b' / 2, by go_num, by omega, by first | rfl | go_num, hmod, hbk2, hT2, hS, hM, hW, hM.out.row.lt, h5n, h6n⟩
            case measure => simp [intOf]; omega
        · have hbt := Lib.hid (show bit (255) k = false by unfold bit; rw [← hbk.out]; exact decide_eq_false hbit)
          have hq : (((b' % 2 : Nat) : Int) == 1) = false := by rw [beq_eq_false_iff_ne]; omega
          have hT2 := Lib.hid (tail_step hT.out hlt (step_no (b := 255) hbt.out))
          have h5n := Lib.hid (fun (q : k + 1 ≤ 5) => h5.out (by omega))
          have h6n := Lib.hid (fun (q : k + 1 ≤ 6) => h6.out (by omega))
          clear hT hBs hz
          go_wp2
          go_roundw
          case rel => exact ⟨k + 1, _, _, _, b' / 2, by go_num, by omega, by first | rfl | go_num, hmod, hbk2, hT2, hS, hM, hW, hM.out.row.lt, h5n, h6n⟩
          case measure => simp [intOf]; omega
      · obtain ⟨hd1, hd2⟩ := dec_of (v := 1) (by decide) hT.out hk8 hgo
        have hmq := Lib.hid (hrow.out.of_block (hW.out.block w.heap.size (by rw [hsz.out]; omega)))
        have hlow := Lib.hid (hal.out.trans (hW.out.mono (by rw [hsz.out]; omega)))
        clear hT h5 h6 hbk
        cases s with
        | error j =>
          have hj : ((j : Int) == 0) = false := by rw [beq_eq_false_iff_ne]; have := hS.out.nz; omega
          have hj2 : ((j : Int) != 0) = true := by rw [bne_iff_ne]; have := hS.out.nz; omega
          replace he : wr.cell? ⟨w.heap.size + 1, 1, none⟩ = some (.int .i64 j) := he
          have hfin := Lib.hid (rdb_no (hd1 j rfl) (put14_below (w := wr) hlow.out (Nat.le_refl _) mz 14).drew)
          clear hd1 hd2 hW hM hS hlow hal
          by_cases hk : k < 8
          · have hmq := hmq
            have hm4 := hmq.out
            have hm9 : Hid ((put14 wr w.heap.size mz 14).rowIs w.heap.size 28 14 (fun i => (mz : Array Value).getD i undef)) := Lib.hid ((put14_row hm4 mz 14).congr (fun i hi => if_pos hi))
            have y0 : wr.cell? ⟨w.heap.size, 0, none⟩ = some (.int .i64 0) := hm4.cell (i := 0) (by omega)
            have yf0 := hm4.frozen 0
            have y1 : wr.cell? ⟨w.heap.size, 1, none⟩ = some (.int .u64 0) := hm4.cell (i := 1) (by omega)
            have yf1 := hm4.frozen 1
            have y2 : wr.cell? ⟨w.heap.size, 2, none⟩ = some (.int .u64 0) := hm4.cell (i := 2) (by omega)
            have yf2 := hm4.frozen 2
            have y3 : wr.cell? ⟨w.heap.size, 3, none⟩ = some (.int .u64 0) := hm4.cell (i := 3) (by omega)
            have yf3 := hm4.frozen 3
            have y4 : wr.cell? ⟨w.heap.size, 4, none⟩ = some (.string ⟨#[]⟩) := hm4.cell (i := 4) (by omega)
            have yf4 := hm4.frozen 4
            have y5 : wr.cell? ⟨w.heap.size, 5, none⟩ = some (.string ⟨#[]⟩) := hm4.cell (i := 5) (by omega)
            have yf5 := hm4.frozen 5
            have y6 : wr.cell? ⟨w.heap.size, 6, none⟩ = some (.slice none 0 0) := hm4.cell (i := 6) (by omega)
            have yf6 := hm4.frozen 6
            have y7 : wr.cell? ⟨w.heap.size, 7, none⟩ = some (.slice none 0 0) := hm4.cell (i := 7) (by omega)
            have yf7 := hm4.frozen 7
            have y8 : wr.cell? ⟨w.heap.size, 8, none⟩ = some (.int .i64 0) := hm4.cell (i := 8) (by omega)
            have yf8 := hm4.frozen 8
            have y9 : wr.cell? ⟨w.heap.size, 9, none⟩ = some (.int .i64 0) := hm4.cell (i := 9) (by omega)
            have yf9 := hm4.frozen 9
            have y10 : wr.cell? ⟨w.heap.size, 10, none⟩ = some (.int .i64 0) := hm4.cell (i := 10) (by omega)
            have yf10 := hm4.frozen 10
            have y11 : wr.cell? ⟨w.heap.size, 11, none⟩ = some (.int .i64 0) := hm4.cell (i := 11) (by omega)
            have yf11 := hm4.frozen 11
            have y12 : wr.cell? ⟨w.heap.size, 12, none⟩ = some (.int .i64 0) := hm4.cell (i := 12) (by omega)
            have yf12 := hm4.frozen 12
            have y13 : wr.cell? ⟨w.heap.size, 13, none⟩ = some (.string ⟨#[]⟩) := hm4.cell (i := 13) (by omega)
            have yf13 := hm4.frozen 13
            clear hm4 hmq
            go_wp2
            go_region
            go_wp2
            change bodyPost _ _ _ _ _ (put14 wr w.heap.size mz 14).drew
            generalize put14 wr w.heap.size mz 14 = w9 at *
            clear y0 yf0 y1 yf1 y2 yf2 y3 yf3 y4 yf4 y5 yf5 y6 yf6 y7 yf7 y8 yf8 y9 yf9 y10 yf10 y11 yf11 y12 yf12 y13 yf13
            have y0 : w9.cell? ⟨w.heap.size, 0, none⟩ = some (.int .i64 0) := hm9.out.cell (i := 0) (by omega)
            have y1 : w9.cell? ⟨w.heap.size, 1, none⟩ = some (.int .u64 0) := hm9.out.cell (i := 1) (by omega)
            have y2 : w9.cell? ⟨w.heap.size, 2, none⟩ = some (.int .u64 0) := hm9.out.cell (i := 2) (by omega)
            have y3 : w9.cell? ⟨w.heap.size, 3, none⟩ = some (.int .u64 0) := hm9.out.cell (i := 3) (by omega)
            have y4 : w9.cell? ⟨w.heap.size, 4, none⟩ = some (.string ⟨#[]⟩) := hm9.out.cell (i := 4) (by omega)
            have y5 : w9.cell? ⟨w.heap.size, 5, none⟩ = some (.string ⟨#[]⟩) := hm9.out.cell (i := 5) (by omega)
            have y6 : w9.cell? ⟨w.heap.size, 6, none⟩ = some (.slice none 0 0) := hm9.out.cell (i := 6) (by omega)
            have y7 : w9.cell? ⟨w.heap.size, 7, none⟩ = some (.slice none 0 0) := hm9.out.cell (i := 7) (by omega)
            have y8 : w9.cell? ⟨w.heap.size, 8, none⟩ = some (.int .i64 0) := hm9.out.cell (i := 8) (by omega)
            have y9 : w9.cell? ⟨w.heap.size, 9, none⟩ = some (.int .i64 0) := hm9.out.cell (i := 9) (by omega)
            have y10 : w9.cell? ⟨w.heap.size, 10, none⟩ = some (.int .i64 0) := hm9.out.cell (i := 10) (by omega)
            have y11 : w9.cell? ⟨w.heap.size, 11, none⟩ = some (.int .i64 0) := hm9.out.cell (i := 11) (by omega)
            have y12 : w9.cell? ⟨w.heap.size, 12, none⟩ = some (.int .i64 0) := hm9.out.cell (i := 12) (by omega)
            have y13 : w9.cell? ⟨w.heap.size, 13, none⟩ = some (.string ⟨#[]⟩) := hm9.out.cell (i := 13) (by omega)
            refine bodyPost_ret (v := .tuple #[.agg mz, .int .i64 j]) ?_ rfl hfin.out
            simp [results, Try.results20, go_sem, y0, y1, y2, y3, y4, y5, y6, y7, y8, y9, y10, y11, y12, y13]
          · have hmq := hmq
            have hm4 := hmq.out
            have hm9 : Hid ((put14 wr w.heap.size mz 14).rowIs w.heap.size 28 14 (fun i => (mz : Array Value).getD i undef)) := Lib.hid ((put14_row hm4 mz 14).congr (fun i hi => if_pos hi))
            have y0 : wr.cell? ⟨w.heap.size, 0, none⟩ = some (.int .i64 0) := hm4.cell (i := 0) (by omega)
            have yf0 := hm4.frozen 0
            have y1 : wr.cell? ⟨w.heap.size, 1, none⟩ = some (.int .u64 0) := hm4.cell (i := 1) (by omega)
            have yf1 := hm4.frozen 1
            have y2 : wr.cell? ⟨w.heap.size, 2, none⟩ = some (.int .u64 0) := hm4.cell (i := 2) (by omega)
            have yf2 := hm4.frozen 2
            have y3 : wr.cell? ⟨w.heap.size, 3, none⟩ = some (.int .u64 0) := hm4.cell (i := 3) (by omega)
            have yf3 := hm4.frozen 3
            have y4 : wr.cell? ⟨w.heap.size, 4, none⟩ = some (.string ⟨#[]⟩) := hm4.cell (i := 4) (by omega)
            have yf4 := hm4.frozen 4
            have y5 : wr.cell? ⟨w.heap.size, 5, none⟩ = some (.string ⟨#[]⟩) := hm4.cell (i := 5) (by omega)
            have yf5 := hm4.frozen 5
            have y6 : wr.cell? ⟨w.heap.size, 6, none⟩ = some (.slice none 0 0) := hm4.cell (i := 6) (by omega)
            have yf6 := hm4.frozen 6
            have y7 : wr.cell? ⟨w.heap.size, 7, none⟩ = some (.slice none 0 0) := hm4.cell (i := 7) (by omega)
            have yf7 := hm4.frozen 7
            have y8 : wr.cell? ⟨w.heap.size, 8, none⟩ = some (.int .i64 0) := hm4.cell (i := 8) (by omega)
            have yf8 := hm4.frozen 8
            have y9 : wr.cell? ⟨w.heap.size, 9, none⟩ = some (.int .i64 0) := hm4.cell (i := 9) (by omega)
            have yf9 := hm4.frozen 9
            have y10 : wr.cell? ⟨w.heap.size, 10, none⟩ = some (.int .i64 0) := hm4.cell (i := 10) (by omega)
            have yf10 := hm4.frozen 10
            have y11 : wr.cell? ⟨w.heap.size, 11, none⟩ = some (.int .i64 0) := hm4.cell (i := 11) (by omega)
            have yf11 := hm4.frozen 11
            have y12 : wr.cell? ⟨w.heap.size, 12, none⟩ = some (.int .i64 0) := hm4.cell (i := 12) (by omega)
            have yf12 := hm4.frozen 12
            have y13 : wr.cell? ⟨w.heap.size, 13, none⟩ = some (.string ⟨#[]⟩) := hm4.cell (i := 13) (by omega)
            have yf13 := hm4.frozen 13
            clear hm4 hmq
            go_wp2
            go_region
            go_wp2
            change bodyPost _ _ _ _ _ (put14 wr w.heap.size mz 14).drew
            generalize put14 wr w.heap.size mz 14 = w9 at *
            clear y0 yf0 y1 yf1 y2 yf2 y3 yf3 y4 yf4 y5 yf5 y6 yf6 y7 yf7 y8 yf8 y9 yf9 y10 yf10 y11 yf11 y12 yf12 y13 yf13
            have y0 : w9.cell? ⟨w.heap.size, 0, none⟩ = some (.int .i64 0) := hm9.out.cell (i := 0) (by omega)
            have y1 : w9.cell? ⟨w.heap.size, 1, none⟩ = some (.int .u64 0) := hm9.out.cell (i := 1) (by omega)
            have y2 : w9.cell? ⟨w.heap.size, 2, none⟩ = some (.int .u64 0) := hm9.out.cell (i := 2) (by omega)
            have y3 : w9.cell? ⟨w.heap.size, 3, none⟩ = some (.int .u64 0) := hm9.out.cell (i := 3) (by omega)
            have y4 : w9.cell? ⟨w.heap.size, 4, none⟩ = some (.string ⟨#[]⟩) := hm9.out.cell (i := 4) (by omega)
            have y5 : w9.cell? ⟨w.heap.size, 5, none⟩ = some (.string ⟨#[]⟩) := hm9.out.cell (i := 5) (by omega)
            have y6 : w9.cell? ⟨w.heap.size, 6, none⟩ = some (.slice none 0 0) := hm9.out.cell (i := 6) (by omega)
            have y7 : w9.cell? ⟨w.heap.size, 7, none⟩ = some (.slice none 0 0) := hm9.out.cell (i := 7) (by omega)
            have y8 : w9.cell? ⟨w.heap.size, 8, none⟩ = some (.int .i64 0) := hm9.out.cell (i := 8) (by omega)
            have y9 : w9.cell? ⟨w.heap.size, 9, none⟩ = some (.int .i64 0) := hm9.out.cell (i := 9) (by omega)
            have y10 : w9.cell? ⟨w.heap.size, 10, none⟩ = some (.int .i64 0) := hm9.out.cell (i := 10) (by omega)
            have y11 : w9.cell? ⟨w.heap.size, 11, none⟩ = some (.int .i64 0) := hm9.out.cell (i := 11) (by omega)
            have y12 : w9.cell? ⟨w.heap.size, 12, none⟩ = some (.int .i64 0) := hm9.out.cell (i := 12) (by omega)
            have y13 : w9.cell? ⟨w.heap.size, 13, none⟩ = some (.string ⟨#[]⟩) := hm9.out.cell (i := 13) (by omega)
            refine bodyPost_ret (v := .tuple #[.agg mz, .int .i64 j]) ?_ rfl hfin.out
            simp [results, Try.results20, go_sem, y0, y1, y2, y3, y4, y5, y6, y7, y8, y9, y10, y11, y12, y13]
        | ok t' =>
          obtain rfl : k = 8 := by
            have : ¬ k < 8 := fun h => hgo ⟨h, rfl⟩
            omega
          replace he : wr.cell? ⟨w.heap.size + 1, 1, none⟩ = some (.int .i64 0) := he
          obtain ⟨A', c', h0, -, -, -, -⟩ := hS.out.open_
          by_cases hn0 : t'.length = 0
          · rw [hn0] at h0
            have hfin := Lib.hid (rdb_low ((hd2 t' rfl).trans (if_pos hn0)) (show Below w.heap.size w w from Below.refl _ _) (own_put14 (own_low hM.out.vs (show w.heap.size ≤ mb + 1 by omega)) (fun e => by have := (World.ownsRow.lt hM.out.vs _ e).1; omega) (cm m t) 14) (own_put14 (own_low hM.out.ns (show w.heap.size ≤ mb + 1 by omega)) (fun e => by have := (World.ownsRow.lt hM.out.ns _ e).1; omega) (cm m t) 14) (put14_below hlow.out (Nat.le_refl _) (cm m t) 14))
            clear hd1 hd2 hW hS hlow hal
            have hm4 := hmq.out
            have hm9 : Hid ((put14 wr w.heap.size (cm m t) 14).rowIs w.heap.size 28 14 (fun i => (cm m t : Array Value).getD i undef)) := Lib.hid ((put14_row hm4 (cm m t) 14).congr (fun i hi => if_pos hi))
            have y0 : wr.cell? ⟨w.heap.size, 0, none⟩ = some (.int .i64 0) := hm4.cell (i := 0) (by omega)
            have yf0 := hm4.frozen 0
            have y1 : wr.cell? ⟨w.heap.size, 1, none⟩ = some (.int .u64 0) := hm4.cell (i := 1) (by omega)
            have yf1 := hm4.frozen 1
            have y2 : wr.cell? ⟨w.heap.size, 2, none⟩ = some (.int .u64 0) := hm4.cell (i := 2) (by omega)
            have yf2 := hm4.frozen 2
            have y3 : wr.cell? ⟨w.heap.size, 3, none⟩ = some (.int .u64 0) := hm4.cell (i := 3) (by omega)
            have yf3 := hm4.frozen 3
            have y4 : wr.cell? ⟨w.heap.size, 4, none⟩ = some (.string ⟨#[]⟩) := hm4.cell (i := 4) (by omega)
            have yf4 := hm4.frozen 4
            have y5 : wr.cell? ⟨w.heap.size, 5, none⟩ = some (.string ⟨#[]⟩) := hm4.cell (i := 5) (by omega)
            have yf5 := hm4.frozen 5
            have y6 : wr.cell? ⟨w.heap.size, 6, none⟩ = some (.slice none 0 0) := hm4.cell (i := 6) (by omega)
            have yf6 := hm4.frozen 6
            have y7 : wr.cell? ⟨w.heap.size, 7, none⟩ = some (.slice none 0 0) := hm4.cell (i := 7) (by omega)
            have yf7 := hm4.frozen 7
            have y8 : wr.cell? ⟨w.heap.size, 8, none⟩ = some (.int .i64 0) := hm4.cell (i := 8) (by omega)
            have yf8 := hm4.frozen 8
            have y9 : wr.cell? ⟨w.heap.size, 9, none⟩ = some (.int .i64 0) := hm4.cell (i := 9) (by omega)
            have yf9 := hm4.frozen 9
            have y10 : wr.cell? ⟨w.heap.size, 10, none⟩ = some (.int .i64 0) := hm4.cell (i := 10) (by omega)
            have yf10 := hm4.frozen 10
            have y11 : wr.cell? ⟨w.heap.size, 11, none⟩ = some (.int .i64 0) := hm4.cell (i := 11) (by omega)
            have yf11 := hm4.frozen 11
            have y12 : wr.cell? ⟨w.heap.size, 12, none⟩ = some (.int .i64 0) := hm4.cell (i := 12) (by omega)
            have yf12 := hm4.frozen 12
            have y13 : wr.cell? ⟨w.heap.size, 13, none⟩ = some (.string ⟨#[]⟩) := hm4.cell (i := 13) (by omega)
            have yf13 := hm4.frozen 13
            have z0 : wr.cell? ⟨mb, 0, none⟩ = some (.int .i64 m.kind) := hM.out.row.cell (i := 0) (by omega)
            have z1 : wr.cell? ⟨mb, 1, none⟩ = some (.int .u64 m.id) := hM.out.row.cell (i := 1) (by omega)
            have z2 : wr.cell? ⟨mb, 2, none⟩ = some (.int .u64 m.n) := hM.out.row.cell (i := 2) (by omega)
            have z3 : wr.cell? ⟨mb, 3, none⟩ = some (.int .u64 m.ts) := hM.out.row.cell (i := 3) (by omega)
            have z4 : wr.cell? ⟨mb, 4, none⟩ = some (.string m.lo) := hM.out.row.cell (i := 4) (by omega)
            have z5 : wr.cell? ⟨mb, 5, none⟩ = some (.string m.hi) := hM.out.row.cell (i := 5) (by omega)
            have z6 : wr.cell? ⟨mb, 6, none⟩ = some (.slice t.va m.vers.length t.vc) := hM.out.row.cell (i := 6) (by omega)
            have z7 : wr.cell? ⟨mb, 7, none⟩ = some (.slice t.na m.vec.length t.nc) := hM.out.row.cell (i := 7) (by omega)
            have z8 : wr.cell? ⟨mb, 8, none⟩ = some (.int .i64 m.cmd.kind) := hM.out.row.cell (i := 8) (by omega)
            have z9 : wr.cell? ⟨mb, 9, none⟩ = some (.int .i64 m.cmd.dc) := hM.out.row.cell (i := 9) (by omega)
            have z10 : wr.cell? ⟨mb, 10, none⟩ = some (.int .i64 m.cmd.shard) := hM.out.row.cell (i := 10) (by omega)
            have z11 : wr.cell? ⟨mb, 11, none⟩ = some (.int .i64 m.cmd.node) := hM.out.row.cell (i := 11) (by omega)
            have z12 : wr.cell? ⟨mb, 12, none⟩ = some (.int .i64 m.cmd.mode) := hM.out.row.cell (i := 12) (by omega)
            have z13 : wr.cell? ⟨mb, 13, none⟩ = some (.string m.cmd.key) := hM.out.row.cell (i := 13) (by omega)
            clear hm4 hmq hM
            go_wp2
            change bodyPost _ _ _ _ _ (put14 wr w.heap.size (cm m t) 14)
            generalize put14 wr w.heap.size (cm m t) 14 = w9 at *
            clear y0 yf0 y1 yf1 y2 yf2 y3 yf3 y4 yf4 y5 yf5 y6 yf6 y7 yf7 y8 yf8 y9 yf9 y10 yf10 y11 yf11 y12 yf12 y13 yf13
            have y0 : w9.cell? ⟨w.heap.size, 0, none⟩ = some (.int .i64 m.kind) := hm9.out.cell (i := 0) (by omega)
            have y1 : w9.cell? ⟨w.heap.size, 1, none⟩ = some (.int .u64 m.id) := hm9.out.cell (i := 1) (by omega)
            have y2 : w9.cell? ⟨w.heap.size, 2, none⟩ = some (.int .u64 m.n) := hm9.out.cell (i := 2) (by omega)
            have y3 : w9.cell? ⟨w.heap.size, 3, none⟩ = some (.int .u64 m.ts) := hm9.out.cell (i := 3) (by omega)
            have y4 : w9.cell? ⟨w.heap.size, 4, none⟩ = some (.string m.lo) := hm9.out.cell (i := 4) (by omega)
            have y5 : w9.cell? ⟨w.heap.size, 5, none⟩ = some (.string m.hi) := hm9.out.cell (i := 5) (by omega)
            have y6 : w9.cell? ⟨w.heap.size, 6, none⟩ = some (.slice t.va m.vers.length t.vc) := hm9.out.cell (i := 6) (by omega)
            have y7 : w9.cell? ⟨w.heap.size, 7, none⟩ = some (.slice t.na m.vec.length t.nc) := hm9.out.cell (i := 7) (by omega)
            have y8 : w9.cell? ⟨w.heap.size, 8, none⟩ = some (.int .i64 m.cmd.kind) := hm9.out.cell (i := 8) (by omega)
            have y9 : w9.cell? ⟨w.heap.size, 9, none⟩ = some (.int .i64 m.cmd.dc) := hm9.out.cell (i := 9) (by omega)
            have y10 : w9.cell? ⟨w.heap.size, 10, none⟩ = some (.int .i64 m.cmd.shard) := hm9.out.cell (i := 10) (by omega)
            have y11 : w9.cell? ⟨w.heap.size, 11, none⟩ = some (.int .i64 m.cmd.node) := hm9.out.cell (i := 11) (by omega)
            have y12 : w9.cell? ⟨w.heap.size, 12, none⟩ = some (.int .i64 m.cmd.mode) := hm9.out.cell (i := 12) (by omega)
            have y13 : w9.cell? ⟨w.heap.size, 13, none⟩ = some (.string m.cmd.key) := hm9.out.cell (i := 13) (by omega)
            refine bodyPost_ret (v := .tuple #[.agg (cm m t), .int .i64 0]) ?_ rfl hfin.out
            simp [results, Try.results20, go_sem, y0, y1, y2, y3, y4, y5, y6, y7, y8, y9, y10, y11, y12, y13]
          · have hpos : 0 < t'.length := by omega
            have hst := Lib.hid (stop_s 3 wr hS.out)
            have hfin := Lib.hid (rdb_no ((hd2 t' rfl).trans (if_neg hn0)) (put14_below (w := wr.setCell ⟨w.heap.size + 1, 1, none⟩ (.int .i64 (3 : Nat))) (hlow.out.setCell (p := ⟨w.heap.size + 1, 1, none⟩) (by show w.heap.size ≤ w.heap.size + 1; omega) (.int .i64 (3 : Nat))) (Nat.le_refl _) mz 14).drew)
            have hmq := Lib.hid (hmq.out.setOther (a := ⟨w.heap.size + 1, 1, none⟩) (by show w.heap.size ≠ w.heap.size + 1; omega) (.int .i64 (3 : Nat)))
            have he5 := Lib.hid (hS.out.stop (k := 3) (by decide)).err
            clear hd1 hd2 hW hS hM hlow hal
            go_wp2_with (fail)
            refine hst.out.mono ?_
            rintro e w5 ⟨rfl, rfl⟩
            generalize wr.setCell ⟨w.heap.size + 1, 1, none⟩ (.int .i64 (3 : Nat)) = w5 at *
            replace he5 : w5.cell? ⟨w.heap.size + 1, 1, none⟩ = some (.int .i64 3) := he5.out
            clear he hst h0
            have hm4 := hmq.out
            have hm9 : Hid ((put14 w5 w.heap.size mz 14).rowIs w.heap.size 28 14 (fun i => (mz : Array Value).getD i undef)) := Lib.hid ((put14_row hm4 mz 14).congr (fun i hi => if_pos hi))
            have y0 : w5.cell? ⟨w.heap.size, 0, none⟩ = some (.int .i64 0) := hm4.cell (i := 0) (by omega)
            have yf0 := hm4.frozen 0
            have y1 : w5.cell? ⟨w.heap.size, 1, none⟩ = some (.int .u64 0) := hm4.cell (i := 1) (by omega)
            have yf1 := hm4.frozen 1
            have y2 : w5.cell? ⟨w.heap.size, 2, none⟩ = some (.int .u64 0) := hm4.cell (i := 2) (by omega)
            have yf2 := hm4.frozen 2
            have y3 : w5.cell? ⟨w.heap.size, 3, none⟩ = some (.int .u64 0) := hm4.cell (i := 3) (by omega)
            have yf3 := hm4.frozen 3
            have y4 : w5.cell? ⟨w.heap.size, 4, none⟩ = some (.string ⟨#[]⟩) := hm4.cell (i := 4) (by omega)
            have yf4 := hm4.frozen 4
            have y5 : w5.cell? ⟨w.heap.size, 5, none⟩ = some (.string ⟨#[]⟩) := hm4.cell (i := 5) (by omega)
            have yf5 := hm4.frozen 5
            have y6 : w5.cell? ⟨w.heap.size, 6, none⟩ = some (.slice none 0 0) := hm4.cell (i := 6) (by omega)
            have yf6 := hm4.frozen 6
            have y7 : w5.cell? ⟨w.heap.size, 7, none⟩ = some (.slice none 0 0) := hm4.cell (i := 7) (by omega)
            have yf7 := hm4.frozen 7
            have y8 : w5.cell? ⟨w.heap.size, 8, none⟩ = some (.int .i64 0) := hm4.cell (i := 8) (by omega)
            have yf8 := hm4.frozen 8
            have y9 : w5.cell? ⟨w.heap.size, 9, none⟩ = some (.int .i64 0) := hm4.cell (i := 9) (by omega)
            have yf9 := hm4.frozen 9
            have y10 : w5.cell? ⟨w.heap.size, 10, none⟩ = some (.int .i64 0) := hm4.cell (i := 10) (by omega)
            have yf10 := hm4.frozen 10
            have y11 : w5.cell? ⟨w.heap.size, 11, none⟩ = some (.int .i64 0) := hm4.cell (i := 11) (by omega)
            have yf11 := hm4.frozen 11
            have y12 : w5.cell? ⟨w.heap.size, 12, none⟩ = some (.int .i64 0) := hm4.cell (i := 12) (by omega)
            have yf12 := hm4.frozen 12
            have y13 : w5.cell? ⟨w.heap.size, 13, none⟩ = some (.string ⟨#[]⟩) := hm4.cell (i := 13) (by omega)
            have yf13 := hm4.frozen 13
            clear hm4 hmq
            go_wp2
            go_region
            go_wp2
            change bodyPost _ _ _ _ _ (put14 w5 w.heap.size mz 14).drew
            generalize put14 w5 w.heap.size mz 14 = w9 at *
            clear y0 yf0 y1 yf1 y2 yf2 y3 yf3 y4 yf4 y5 yf5 y6 yf6 y7 yf7 y8 yf8 y9 yf9 y10 yf10 y11 yf11 y12 yf12 y13 yf13
            have y0 : w9.cell? ⟨w.heap.size, 0, none⟩ = some (.int .i64 0) := hm9.out.cell (i := 0) (by omega)
            have y1 : w9.cell? ⟨w.heap.size, 1, none⟩ = some (.int .u64 0) := hm9.out.cell (i := 1) (by omega)
            have y2 : w9.cell? ⟨w.heap.size, 2, none⟩ = some (.int .u64 0) := hm9.out.cell (i := 2) (by omega)
            have y3 : w9.cell? ⟨w.heap.size, 3, none⟩ = some (.int .u64 0) := hm9.out.cell (i := 3) (by omega)
            have y4 : w9.cell? ⟨w.heap.size, 4, none⟩ = some (.string ⟨#[]⟩) := hm9.out.cell (i := 4) (by omega)
            have y5 : w9.cell? ⟨w.heap.size, 5, none⟩ = some (.string ⟨#[]⟩) := hm9.out.cell (i := 5) (by omega)
            have y6 : w9.cell? ⟨w.heap.size, 6, none⟩ = some (.slice none 0 0) := hm9.out.cell (i := 6) (by omega)
            have y7 : w9.cell? ⟨w.heap.size, 7, none⟩ = some (.slice none 0 0) := hm9.out.cell (i := 7) (by omega)
            have y8 : w9.cell? ⟨w.heap.size, 8, none⟩ = some (.int .i64 0) := hm9.out.cell (i := 8) (by omega)
            have y9 : w9.cell? ⟨w.heap.size, 9, none⟩ = some (.int .i64 0) := hm9.out.cell (i := 9) (by omega)
            have y10 : w9.cell? ⟨w.heap.size, 10, none⟩ = some (.int .i64 0) := hm9.out.cell (i := 10) (by omega)
            have y11 : w9.cell? ⟨w.heap.size, 11, none⟩ = some (.int .i64 0) := hm9.out.cell (i := 11) (by omega)
            have y12 : w9.cell? ⟨w.heap.size, 12, none⟩ = some (.int .i64 0) := hm9.out.cell (i := 12) (by omega)
            have y13 : w9.cell? ⟨w.heap.size, 13, none⟩ = some (.string ⟨#[]⟩) := hm9.out.cell (i := 13) (by omega)
            refine bodyPost_ret (v := .tuple #[.agg mz, .int .i64 3]) ?_ rfl hfin.out
            simp [results, Try.results20, go_sem, y0, y1, y2, y3, y4, y5, y6, y7, y8, y9, y10, y11, y12, y13]
set_option maxRecDepth 100000 in
set_option maxHeartbeats 4000000 in
theorem rdecode_2 (A : Option Addr) (c : Nat) (l : List Nat) (w : World) (hb : BL w A l.length l) (hc : l.length ≤ c) (h9 : c ≤ 9223372036854775807) (hA : l.length = 0 ∨ A = none ∨ ∃ b off, A = some ⟨b, off, none⟩ ∧ b < w.heap.size) :
    Calls Try.prog 20 #[.int .i64 2, .slice A l.length c] w (RdB w (dec 2 l)) := by
  have hrow : Hid ((w.alloc (.cells mz 28)).rowIs w.heap.size 28 14 (fun i => (mz : Array Value).getD i undef)) := Lib.hid (wirDe.row_new w mz 28)
  have hal := (Below.refl w.heap.size w).alloc (Nat.le_refl _) (.cells mz 28)
  have hsz : (w.alloc (.cells mz 28)).heap.size = w.heap.size + 1 := by simp
  have hs := SAt.new (hb.below hal) hc h9 (hA.imp id fun h => h.imp id fun ⟨b, off, e, h⟩ => ⟨b, off, e, by have := hal.size; omega⟩)
  rw [hsz] at hs
  have hWd := Lib.hid (wide_s 1 _ hs (by omega) (by omega))
  have hkn := Lib.hid (fun (hz : ∀ k, stt (on (.ok l) (rWide 1)) = .error k → k ≠ 0) => kind_on hz)
  have hx256 : vl 0 (on (.ok l) (rWide 1)) < 256 := by
    show vl 0 (rWide 1 l) < 256
    rcases hr : rWide 1 l with e | ⟨n, t⟩
    · exact Nat.succ_pos _
    · exact wirDc.wide1_lt hb.lt hr
  have hB0 := (Below.refl (w.heap.size + 1) (w.alloc (.cells mz 28))).alloc (by rw [hsz]; exact Nat.le_refl _) (.cells #[.slice A l.length c, .int .i64 0] 61)
  rw [← hsz] at hB0
  replace hB0 := Lib.hid hB0
  replace hal := Lib.hid hal
  clear hb hA hs
  generalize hL : l.length = n at *
  replace hL := Lib.hid hL
  replace hsz := Lib.hid hsz
  go_enter Try.func20, Try.ntmps20
  go_wp2_with (fail)
  refine hWd.out.mono ?_
  rintro e w1 ⟨rfl, hs1, hg1⟩
  have hW1 := Lib.hid (hB0.out.trans (hg1.below hB0.out.size (by rw [hsz.out]; exact Nat.le_refl _)))
  have hk := Lib.hid (hkn.out (fun k e => by rw [e] at hs1; exact hs1.nz))
  have hlt1 : w.heap.size + 2 ≤ w1.heap.size := by have := hs1.lt; omega
  have hwrap : IntKind.i64.wrap ((vl 0 (on (.ok l) (rWide 1)) : Nat) : Int) = (vl 0 (on (.ok l) (rWide 1)) : Nat) := IntWalk.i64_in _ ⟨by omega, by omega⟩
  replace hs1 := Lib.hid hs1
  clear hWd hkn hg1 hB0
  unfold wirRb.vU
  generalize vl 0 (on (.ok l) (rWide 1)) = x at *
  generalize stt (on (.ok l) (rWide 1)) = s1 at *
  have hM := Lib.hid (MT.new w1 x)
  have hS2 := Lib.hid (hs1.out.alloc (.cells #[.int .i64 x, .int .u64 0, .int .u64 0, .int .u64 0, .string ⟨#[]⟩, .string ⟨#[]⟩, .slice none 0 0, .slice none 0 0, .int .i64 0, .int .i64 0, .int .i64 0, .int .i64 0, .int .i64 0, .string ⟨#[]⟩] 28))
  have hW2 := Lib.hid (hW1.out.alloc (by have := hW1.out.size; exact this) (.cells #[.int .i64 x, .int .u64 0, .int .u64 0, .int .u64 0, .string ⟨#[]⟩, .string ⟨#[]⟩, .slice none 0 0, .slice none 0 0, .int .i64 0, .int .i64 0, .int .i64 0, .int .i64 0, .int .i64 0, .string ⟨#[]⟩] 28))
  clear hs1 hW1
  go_upto_region 5 with fail
  have hBs : w1.heap.size + 1 ≤ (w1.alloc (.cells #[.int .i64 x, .int .u64 0, .int .u64 0, .int .u64 0, .string ⟨#[]⟩, .string ⟨#[]⟩, .slice none 0 0, .slice none 0 0, .int .i64 0, .int .i64 0, .int .i64 0, .int .i64 0, .int .i64 0, .string ⟨#[]⟩] 28)).heap.size := by simp
  generalize w1.alloc (.cells #[.int .i64 x, .int .u64 0, .int .u64 0, .int .u64 0, .string ⟨#[]⟩, .string ⟨#[]⟩, .slice none 0 0, .slice none 0 0, .int .i64 0, .int .i64 0, .int .i64 0, .int .i64 0, .int .i64 0, .string ⟨#[]⟩] 28) = w2 at *
  generalize w1.heap.size = mb at *
  go_cut [35] from 23 to 35 (fun tv wx => wx = w2 ∧ tv = .bool (decide (er s1 = 0 ∧ badK x = true)))
  case first =>
    have he := hS2.out.err
    have y0 : w2.cell? ⟨mb, 0, none⟩ = some (.int .i64 x) := hM.out.row.cell (i := 0) (by omega)
    cases s1 with
    | error j =>
      have hj : ((j : Int) == 0) = false := by rw [beq_eq_false_iff_ne]; have := hS2.out.nz; omega
      replace he : w2.cell? ⟨w.heap.size + 1, 1, none⟩ = some (.int .i64 j) := he
      have hd := Lib.hid (decide_eq_false (p := er (.error j) = 0 ∧ badK x = true) (fun h => hS2.out.nz h.1))
      clear hk
      go_wp2
      go_meet
      exact ⟨rfl, by rw [hd.out]⟩
    | ok t =>
      replace he : w2.cell? ⟨w.heap.size + 1, 1, none⟩ = some (.int .i64 0) := he
      by_cases hbad : badK x = true
      · have hd := Lib.hid (decide_eq_true (p := er (.ok t) = 0 ∧ badK x = true) ⟨rfl, hbad⟩)
        have hb2 : x < 1 ∨ (¬ x < 1 ∧ 26 < x) := by unfold badK at hbad; simp at hbad; omega
        clear hk hbad
        rcases hb2 with q | ⟨q, q2⟩
        · have e1 : decide (x < 1) = true := decide_eq_true q
          go_wp2
          go_meet
          exact ⟨rfl, by rw [hd.out]⟩
        · have e1 : decide (x < 1) = false := decide_eq_false q
          have e2 : decide (26 < x) = true := decide_eq_true q2
          go_wp2
          go_meet
          exact ⟨rfl, by rw [hd.out]; simp; omega⟩
      · have hd := Lib.hid (decide_eq_false (p := er (.ok t) = 0 ∧ badK x = true) (fun h => hbad h.2))
        have q1 : ¬ x < 1 := by intro q; apply hbad; unfold badK; simp [q]
        have q2 : ¬ 26 < x := by intro q; apply hbad; unfold badK; simp [q]
        clear hbad hk
        go_wp2
        go_meet
        exact ⟨rfl, by rw [hd.out]; simp; omega⟩
  case rest =>
  obtain ⟨rfl, rfl⟩ := hcut
  go_upto_if 35 with fail
  go_cut [] from 35 to 36 (fun wx => ∃ s, Hid (SAt wx (w.heap.size + 1) s) ∧ Hid (MT wx mb (mb + 1) (mk0 x) t0) ∧ Hid (Below (w.alloc (.cells mz 28)).heap.size (w.alloc (.cells mz 28)) wx) ∧ Hid (on (.ok l) rKind = on s (R.ret (x : Int))) ∧ mb + 1 ≤ wx.heap.size)
  case first =>
    by_cases hd : er s1 = 0 ∧ badK x = true
    · rw [decide_eq_true hd]
      obtain ⟨t, rfl⟩ := er_zero hS2.out hd.1
      have hk2 := Lib.hid (hk.out.trans (by rw [if_pos hd]))
      have hS3 := Lib.hid (hS2.out.stop (k := 5) (by decide))
      have hM3 := Lib.hid (hM.out.gr (Gr.set wc 1 (.int .i64 (5 : Nat))) (show w.heap.size + 1 < mb + 1 by omega) (by omega))
      have hW3 := Lib.hid (hW2.out.trans (Gr.below (Gr.set wc 1 (.int .i64 (5 : Nat))) hW2.out.size (by rw [hsz.out]; exact Nat.le_refl (w.heap.size + 1))))
      have hst := Lib.hid (stop_s 5 wc hS2.out)
      clear hd hk hS2 hM hW2
      go_wp2_with (fail)
      refine hst.out.mono ?_
      rintro e w3 ⟨rfl, rfl⟩
      go_wp2
      go_meet
      exact ⟨_, hS3, hM3, hW3, hk2, by rw [World.size_setCell]; exact hBs⟩
    · rw [decide_eq_false hd]
      have hk2 := Lib.hid (hk.out.trans (by rw [if_neg hd]))
      clear hd hk
      go_wp2
      go_meet
      exact ⟨_, hS2, hM, hW2, hk2, hBs⟩
  case rest =>
    clear hk hS2 hM hW2
    obtain ⟨s2, hS, hM, hW, hK, hBs⟩ := hcut
    have hnum := Lib.hid (wide_s 1 wc hS.out (by omega) (by omega))
    have hb256 : vl 0 (on s2 (rWide 1)) < 256 := by
      cases s2 with
      | error e => exact Nat.succ_pos _
      | ok l2 =>
        show vl 0 (rWide 1 l2) < 256
        rcases hr : rWide 1 l2 with e | ⟨n, t⟩
        · exact Nat.succ_pos _
        · exact wirDc.wide1_lt (hS.out.lt256 l2 rfl) hr
    have hT0 := Lib.hid (show on (.ok l) (rDoc 2) = on (stt (on s2 (rWide 1))) (rTail 2 (vl 0 (on s2 (rWide 1))) 8 0 (mk0 x)) by
      show on (.ok l) (rKind.seq _) = _
      rw [on_then hK.out, if_pos rfl, on_seq s2 (rWide 1) _ 0])
    clear hS
    go_wp2_with (fail)
    refine hnum.out.mono ?_
    rintro e w3 ⟨rfl, hs3, hg3⟩
    replace hM := Lib.hid (hM.out.gr hg3 (show w.heap.size + 1 < mb + 1 by omega) (by omega))
    replace hW := Lib.hid (hW.out.trans (hg3.below hW.out.size (by rw [hsz.out]; exact Nat.le_refl (w.heap.size + 1))))
    replace hBs : mb + 1 ≤ w3.heap.size := Nat.le_trans hBs hg3.size
    replace hs3 := Lib.hid hs3
    clear hg3 hnum
    unfold wirRb.vU
    generalize vl 0 (on s2 (rWide 1)) = bb at *
    generalize stt (on s2 (rWide 1)) = s3 at *
    obtain ⟨hT, hS, hM, hW, hBs⟩ : Hid (on (.ok l) (rDoc 2) = on s3 (rTail 2 bb 8 0 (mk0 x))) ∧ Hid (SAt w3 (w.heap.size + 1) s3) ∧ Hid (MT w3 mb (mb + 1) (mk0 x) t0) ∧ Hid (Below (w.alloc (.cells mz 28)).heap.size (w.alloc (.cells mz 28)) w3) ∧ mb + 1 ≤ w3.heap.size := ⟨hT0, hs3, hM, hW, hBs⟩
    clear hK hx256 hwrap hT0
    go_wp2
    go_loopw [8, 9, 10] (fun bv i th wr => ∃ (k : Nat) (s : Except Nat (List Nat)) (m : Ms) (t : At) (b' : Nat), i = .int .i64 k ∧ k ≤ 8 ∧ bv = .int .u64 b' ∧ b' < 256 ∧ Hid (b' = bb / 2 ^ k) ∧ Hid (on (.ok l) (rDoc 2) = on s (rTail 2 bb (8 - k) k m)) ∧ Hid (SAt wr (w.heap.size + 1) s) ∧ Hid (MT wr mb (mb + 1) m t) ∧ Hid (Below (w.alloc (.cells mz 28)).heap.size (w.alloc (.cells mz 28)) wr) ∧ mb + 1 ≤ wr.heap.size ∧ Hid (k ≤ 5 → m.vers = []) ∧ Hid (k ≤ 6 → m.vec = [])) (fun _ i _ _ => 8 - (intOf i).toNat)
    case atStart => exact ⟨0, _, _, _, bb, rfl, by omega, rfl, by first | omega | assumption, Lib.hid (by rw [Nat.pow_zero, Nat.div_one]), hT, hS, hM, hW, hBs, Lib.hid (fun _ => rfl), Lib.hid (fun _ => rfl)⟩
    case round =>
      clear hT hS hM hW hBs
      obtain ⟨k, s, m, t, b', rfl, hk8, rfl, hb256, hbk, hT, hS, hM, hW, hBs, h5, h6⟩ := hrel
      have he := hS.out.err
      by_cases hgo : k < 8 ∧ er s = 0
      · obtain ⟨hlt, hz⟩ := hgo
        obtain ⟨l', rfl⟩ := er_zero hS.out hz
        replace he : wr.cell? ⟨w.heap.size + 1, 1, none⟩ = some (.int .i64 0) := he
        have hmod : b' / 2 < 256 := by omega
        have hbk2 := Lib.hid (show b' / 2 = bb / 2 ^ (k + 1) by rw [hbk.out, Nat.div_div_eq_div_mul, Nat.pow_succ])
        by_cases hbit : b' % 2 = 1
        · have hbt := Lib.hid (show bit (bb) k = true by unfold bit; rw [← hbk.out]; exact decide_eq_true hbit)
          have hp := Lib.hid (part_any (B := mb + 1) 2 (by decide) k hlt hS.out hM.out (by omega) (by omega) hBs hW.out (by rw [hsz.out]; exact Nat.le_refl _) h5.out h6.out)
          have hq : (((b' % 2 : Nat) : Int) == 1) = true := by rw [beq_iff_eq]; omega
          clear hS hM hW hz
          go_wp2_with (fail)
          refine hp.out.mono ?_
          rintro e w3 ⟨s', m', t', th, rfl, hS, hM, hon, hW, h5', h6'⟩
          replace hS := Lib.hid hS
          replace hM := Lib.hid hM
          replace hW := Lib.hid hW
          have h5n := Lib.hid (fun (q : k + 1 ≤ 5) => (h5' (by omega)).trans (h5.out (by omega)))
          have h6n := Lib.hid (fun (q : k + 1 ≤ 6) => (h6' (by omega)).trans (h6.out (by omega)))
          have hbs := step_yes (b := bb) hbt.out hon
          clear hp h5' h6' hq he
          have he := hS.out.err
          cases s' with
          | error j =>
            have hj : ((j : Int) == 0) = false := by rw [beq_eq_false_iff_ne]; have := hS.out.nz; omega
            replace he : w3.cell? ⟨w.heap.size + 1, 1, none⟩ = some (.int .i64 j) := he
            have hT2 := Lib.hid (tail_step (s' := .error j) (m' := m') hT.out hlt (hbs.trans rfl))
            clear hbs hon hT hBs
            go_wp2
            go_roundw
            case rel => exact ⟨k + 1, _, _, _, b' / 2, by go_num, by omega, by first | rfl | go_num, hmod, hbk2, hT2, hS, hM, hW, hM.out.row.lt, h5n, h6n⟩
            case measure => simp [intOf]; omega
          | ok t' =>
            replace he : w3.cell? ⟨w.heap.size + 1, 1, none⟩ = some (.int .i64 0) := he
            cases th with
            | true =>
              have hT2 := Lib.hid (tail_step hT.out hlt (hbs.trans rfl))
              clear hbs hon hT hBs
              go_wp2
              go_roundw
              case rel => exact ⟨k + 1, _, _, _, b' / 2, by go_num, by omega, by first | rfl | go_num, hmod, hbk2, hT2, hS, hM, hW, hM.out.row.lt, h5n, h6n⟩
              case measure => simp [intOf]; omega
            | false =>
              have hT2 := Lib.hid (tail_step (s' := .error 3) (m' := m') hT.out hlt (hbs.trans rfl))
              have hst := Lib.hid (stop_s 3 w3 hS.out)
              replace hM := Lib.hid (hM.out.gr (Gr.set w3 1 (.int .i64 (3 : Nat))) (show w.heap.size + 1 < mb + 1 by omega) (by omega))
              replace hW := Lib.hid (hW.out.trans (Gr.below (Gr.set w3 1 (.int .i64 (3 : Nat))) hW.out.size (by rw [hsz.out]; exact Nat.le_refl (w.heap.size + 1))))
              replace hS := Lib.hid (hS.out.stop (k := 3) (by decide))
              clear hbs hon hT hBs
              go_wp2_with (fail)
              refine hst.out.mono ?_
              rintro e w4 ⟨rfl, rfl⟩
              go_wp2
              go_roundw
              case rel => exact ⟨k + 1, _, _, _, b' / 2, by go_num, by omega, by first | rfl | go_num, hmod, hbk2, hT2, hS, hM, hW, hM.out.row.lt, h5n, h6n⟩
              case measure => simp [intOf]; omega
        · have hbt := Lib.hid (show bit (bb) k = false by unfold bit; rw [← hbk.out]; exact decide_eq_false hbit)
          have hq : (((b' % 2 : Nat) : Int) == 1) = false := by rw [beq_eq_false_iff_ne]; omega
          have hT2 := Lib.hid (tail_step hT.out hlt (step_no (b := bb) hbt.out))
          have h5n := Lib.hid (fun (q : k + 1 ≤ 5) => h5.out (by omega))
          have h6n := Lib.hid (fun (q : k + 1 ≤ 6) => h6.out (by omega))
          clear hT hBs hz
          go_wp2
          go_roundw
          case rel => exact ⟨k + 1, _, _, _, b' / 2, by go_num, by omega, by first | rfl | go_num, hmod, hbk2, hT2, hS, hM, hW, hM.out.row.lt, h5n, h6n⟩
          case measure => simp [intOf]; omega
      · obtain ⟨hd1, hd2⟩ := dec_of (v := 2) (by decide) hT.out hk8 hgo
        have hmq := Lib.hid (hrow.out.of_block (hW.out.block w.heap.size (by rw [hsz.out]; omega)))
        have hlow := Lib.hid (hal.out.trans (hW.out.mono (by rw [hsz.out]; omega)))
        clear hT h5 h6 hbk
        cases s with
        | error j =>
          have hj : ((j : Int) == 0) = false := by rw [beq_eq_false_iff_ne]; have := hS.out.nz; omega
          have hj2 : ((j : Int) != 0) = true := by rw [bne_iff_ne]; have := hS.out.nz; omega
          replace he : wr.cell? ⟨w.heap.size + 1, 1, none⟩ = some (.int .i64 j) := he
          have hfin := Lib.hid (rdb_no (hd1 j rfl) (put14_below (w := wr) hlow.out (Nat.le_refl _) mz 14).drew)
          clear hd1 hd2 hW hM hS hlow hal
          by_cases hk : k < 8
          · have hmq := hmq
            have hm4 := hmq.out
            have hm9 : Hid ((put14 wr w.heap.size mz 14).rowIs w.heap.size 28 14 (fun i => (mz : Array Value).getD i undef)) := Lib.hid ((put14_row hm4 mz 14).congr (fun i hi => if_pos hi))
            have y0 : wr.cell? ⟨w.heap.size, 0, none⟩ = some (.int .i64 0) := hm4.cell (i := 0) (by omega)
            have yf0 := hm4.frozen 0
            have y1 : wr.cell? ⟨w.heap.size, 1, none⟩ = some (.int .u64 0) := hm4.cell (i := 1) (by omega)
            have yf1 := hm4.frozen 1
            have y2 : wr.cell? ⟨w.heap.size, 2, none⟩ = some (.int .u64 0) := hm4.cell (i := 2) (by omega)
            have yf2 := hm4.frozen 2
            have y3 : wr.cell? ⟨w.heap.size, 3, none⟩ = some (.int .u64 0) := hm4.cell (i := 3) (by omega)
            have yf3 := hm4.frozen 3
            have y4 : wr.cell? ⟨w.heap.size, 4, none⟩ = some (.string ⟨#[]⟩) := hm4.cell (i := 4) (by omega)
            have yf4 := hm4.frozen 4
            have y5 : wr.cell? ⟨w.heap.size, 5, none⟩ = some (.string ⟨#[]⟩) := hm4.cell (i := 5) (by omega)
            have yf5 := hm4.frozen 5
            have y6 : wr.cell? ⟨w.heap.size, 6, none⟩ = some (.slice none 0 0) := hm4.cell (i := 6) (by omega)
            have yf6 := hm4.frozen 6
            have y7 : wr.cell? ⟨w.heap.size, 7, none⟩ = some (.slice none 0 0) := hm4.cell (i := 7) (by omega)
            have yf7 := hm4.frozen 7
            have y8 : wr.cell? ⟨w.heap.size, 8, none⟩ = some (.int .i64 0) := hm4.cell (i := 8) (by omega)
            have yf8 := hm4.frozen 8
            have y9 : wr.cell? ⟨w.heap.size, 9, none⟩ = some (.int .i64 0) := hm4.cell (i := 9) (by omega)
            have yf9 := hm4.frozen 9
            have y10 : wr.cell? ⟨w.heap.size, 10, none⟩ = some (.int .i64 0) := hm4.cell (i := 10) (by omega)
            have yf10 := hm4.frozen 10
            have y11 : wr.cell? ⟨w.heap.size, 11, none⟩ = some (.int .i64 0) := hm4.cell (i := 11) (by omega)
            have yf11 := hm4.frozen 11
            have y12 : wr.cell? ⟨w.heap.size, 12, none⟩ = some (.int .i64 0) := hm4.cell (i := 12) (by omega)
            have yf12 := hm4.frozen 12
            have y13 : wr.cell? ⟨w.heap.size, 13, none⟩ = some (.string ⟨#[]⟩) := hm4.cell (i := 13) (by omega)
            have yf13 := hm4.frozen 13
            clear hm4 hmq
            go_wp2
            go_region
            go_wp2
            change bodyPost _ _ _ _ _ (put14 wr w.heap.size mz 14).drew
            generalize put14 wr w.heap.size mz 14 = w9 at *
            clear y0 yf0 y1 yf1 y2 yf2 y3 yf3 y4 yf4 y5 yf5 y6 yf6 y7 yf7 y8 yf8 y9 yf9 y10 yf10 y11 yf11 y12 yf12 y13 yf13
            have y0 : w9.cell? ⟨w.heap.size, 0, none⟩ = some (.int .i64 0) := hm9.out.cell (i := 0) (by omega)
            have y1 : w9.cell? ⟨w.heap.size, 1, none⟩ = some (.int .u64 0) := hm9.out.cell (i := 1) (by omega)
            have y2 : w9.cell? ⟨w.heap.size, 2, none⟩ = some (.int .u64 0) := hm9.out.cell (i := 2) (by omega)
            have y3 : w9.cell? ⟨w.heap.size, 3, none⟩ = some (.int .u64 0) := hm9.out.cell (i := 3) (by omega)
            have y4 : w9.cell? ⟨w.heap.size, 4, none⟩ = some (.string ⟨#[]⟩) := hm9.out.cell (i := 4) (by omega)
            have y5 : w9.cell? ⟨w.heap.size, 5, none⟩ = some (.string ⟨#[]⟩) := hm9.out.cell (i := 5) (by omega)
            have y6 : w9.cell? ⟨w.heap.size, 6, none⟩ = some (.slice none 0 0) := hm9.out.cell (i := 6) (by omega)
            have y7 : w9.cell? ⟨w.heap.size, 7, none⟩ = some (.slice none 0 0) := hm9.out.cell (i := 7) (by omega)
            have y8 : w9.cell? ⟨w.heap.size, 8, none⟩ = some (.int .i64 0) := hm9.out.cell (i := 8) (by omega)
            have y9 : w9.cell? ⟨w.heap.size, 9, none⟩ = some (.int .i64 0) := hm9.out.cell (i := 9) (by omega)
            have y10 : w9.cell? ⟨w.heap.size, 10, none⟩ = some (.int .i64 0) := hm9.out.cell (i := 10) (by omega)
            have y11 : w9.cell? ⟨w.heap.size, 11, none⟩ = some (.int .i64 0) := hm9.out.cell (i := 11) (by omega)
            have y12 : w9.cell? ⟨w.heap.size, 12, none⟩ = some (.int .i64 0) := hm9.out.cell (i := 12) (by omega)
            have y13 : w9.cell? ⟨w.heap.size, 13, none⟩ = some (.string ⟨#[]⟩) := hm9.out.cell (i := 13) (by omega)
            refine bodyPost_ret (v := .tuple #[.agg mz, .int .i64 j]) ?_ rfl hfin.out
            simp [results, Try.results20, go_sem, y0, y1, y2, y3, y4, y5, y6, y7, y8, y9, y10, y11, y12, y13]
          · have hmq := hmq
            have hm4 := hmq.out
            have hm9 : Hid ((put14 wr w.heap.size mz 14).rowIs w.heap.size 28 14 (fun i => (mz : Array Value).getD i undef)) := Lib.hid ((put14_row hm4 mz 14).congr (fun i hi => if_pos hi))
            have y0 : wr.cell? ⟨w.heap.size, 0, none⟩ = some (.int .i64 0) := hm4.cell (i := 0) (by omega)
            have yf0 := hm4.frozen 0
            have y1 : wr.cell? ⟨w.heap.size, 1, none⟩ = some (.int .u64 0) := hm4.cell (i := 1) (by omega)
            have yf1 := hm4.frozen 1
            have y2 : wr.cell? ⟨w.heap.size, 2, none⟩ = some (.int .u64 0) := hm4.cell (i := 2) (by omega)
            have yf2 := hm4.frozen 2
            have y3 : wr.cell? ⟨w.heap.size, 3, none⟩ = some (.int .u64 0) := hm4.cell (i := 3) (by omega)
            have yf3 := hm4.frozen 3
            have y4 : wr.cell? ⟨w.heap.size, 4, none⟩ = some (.string ⟨#[]⟩) := hm4.cell (i := 4) (by omega)
            have yf4 := hm4.frozen 4
            have y5 : wr.cell? ⟨w.heap.size, 5, none⟩ = some (.string ⟨#[]⟩) := hm4.cell (i := 5) (by omega)
            have yf5 := hm4.frozen 5
            have y6 : wr.cell? ⟨w.heap.size, 6, none⟩ = some (.slice none 0 0) := hm4.cell (i := 6) (by omega)
            have yf6 := hm4.frozen 6
            have y7 : wr.cell? ⟨w.heap.size, 7, none⟩ = some (.slice none 0 0) := hm4.cell (i := 7) (by omega)
            have yf7 := hm4.frozen 7
            have y8 : wr.cell? ⟨w.heap.size, 8, none⟩ = some (.int .i64 0) := hm4.cell (i := 8) (by omega)
            have yf8 := hm4.frozen 8
            have y9 : wr.cell? ⟨w.heap.size, 9, none⟩ = some (.int .i64 0) := hm4.cell (i := 9) (by omega)
            have yf9 := hm4.frozen 9
            have y10 : wr.cell? ⟨w.heap.size, 10, none⟩ = some (.int .i64 0) := hm4.cell (i := 10) (by omega)
            have yf10 := hm4.frozen 10
            have y11 : wr.cell? ⟨w.heap.size, 11, none⟩ = some (.int .i64 0) := hm4.cell (i := 11) (by omega)
            have yf11 := hm4.frozen 11
            have y12 : wr.cell? ⟨w.heap.size, 12, none⟩ = some (.int .i64 0) := hm4.cell (i := 12) (by omega)
            have yf12 := hm4.frozen 12
            have y13 : wr.cell? ⟨w.heap.size, 13, none⟩ = some (.string ⟨#[]⟩) := hm4.cell (i := 13) (by omega)
            have yf13 := hm4.frozen 13
            clear hm4 hmq
            go_wp2
            go_region
            go_wp2
            change bodyPost _ _ _ _ _ (put14 wr w.heap.size mz 14).drew
            generalize put14 wr w.heap.size mz 14 = w9 at *
            clear y0 yf0 y1 yf1 y2 yf2 y3 yf3 y4 yf4 y5 yf5 y6 yf6 y7 yf7 y8 yf8 y9 yf9 y10 yf10 y11 yf11 y12 yf12 y13 yf13
            have y0 : w9.cell? ⟨w.heap.size, 0, none⟩ = some (.int .i64 0) := hm9.out.cell (i := 0) (by omega)
            have y1 : w9.cell? ⟨w.heap.size, 1, none⟩ = some (.int .u64 0) := hm9.out.cell (i := 1) (by omega)
            have y2 : w9.cell? ⟨w.heap.size, 2, none⟩ = some (.int .u64 0) := hm9.out.cell (i := 2) (by omega)
            have y3 : w9.cell? ⟨w.heap.size, 3, none⟩ = some (.int .u64 0) := hm9.out.cell (i := 3) (by omega)
            have y4 : w9.cell? ⟨w.heap.size, 4, none⟩ = some (.string ⟨#[]⟩) := hm9.out.cell (i := 4) (by omega)
            have y5 : w9.cell? ⟨w.heap.size, 5, none⟩ = some (.string ⟨#[]⟩) := hm9.out.cell (i := 5) (by omega)
            have y6 : w9.cell? ⟨w.heap.size, 6, none⟩ = some (.slice none 0 0) := hm9.out.cell (i := 6) (by omega)
            have y7 : w9.cell? ⟨w.heap.size, 7, none⟩ = some (.slice none 0 0) := hm9.out.cell (i := 7) (by omega)
            have y8 : w9.cell? ⟨w.heap.size, 8, none⟩ = some (.int .i64 0) := hm9.out.cell (i := 8) (by omega)
            have y9 : w9.cell? ⟨w.heap.size, 9, none⟩ = some (.int .i64 0) := hm9.out.cell (i := 9) (by omega)
            have y10 : w9.cell? ⟨w.heap.size, 10, none⟩ = some (.int .i64 0) := hm9.out.cell (i := 10) (by omega)
            have y11 : w9.cell? ⟨w.heap.size, 11, none⟩ = some (.int .i64 0) := hm9.out.cell (i := 11) (by omega)
            have y12 : w9.cell? ⟨w.heap.size, 12, none⟩ = some (.int .i64 0) := hm9.out.cell (i := 12) (by omega)
            have y13 : w9.cell? ⟨w.heap.size, 13, none⟩ = some (.string ⟨#[]⟩) := hm9.out.cell (i := 13) (by omega)
            refine bodyPost_ret (v := .tuple #[.agg mz, .int .i64 j]) ?_ rfl hfin.out
            simp [results, Try.results20, go_sem, y0, y1, y2, y3, y4, y5, y6, y7, y8, y9, y10, y11, y12, y13]
        | ok t' =>
          obtain rfl : k = 8 := by
            have : ¬ k < 8 := fun h => hgo ⟨h, rfl⟩
            omega
          replace he : wr.cell? ⟨w.heap.size + 1, 1, none⟩ = some (.int .i64 0) := he
          obtain ⟨A', c', h0, -, -, -, -⟩ := hS.out.open_
          by_cases hn0 : t'.length = 0
          · rw [hn0] at h0
            have hfin := Lib.hid (rdb_low ((hd2 t' rfl).trans (if_pos hn0)) (show Below w.heap.size w w from Below.refl _ _) (own_put14 (own_low hM.out.vs (show w.heap.size ≤ mb + 1 by omega)) (fun e => by have := (World.ownsRow.lt hM.out.vs _ e).1; omega) (cm m t) 14) (own_put14 (own_low hM.out.ns (show w.heap.size ≤ mb + 1 by omega)) (fun e => by have := (World.ownsRow.lt hM.out.ns _ e).1; omega) (cm m t) 14) (put14_below hlow.out (Nat.le_refl _) (cm m t) 14))
            clear hd1 hd2 hW hS hlow hal
            have hm4 := hmq.out
            have hm9 : Hid ((put14 wr w.heap.size (cm m t) 14).rowIs w.heap.size 28 14 (fun i => (cm m t : Array Value).getD i undef)) := Lib.hid ((put14_row hm4 (cm m t) 14).congr (fun i hi => if_pos hi))
            have y0 : wr.cell? ⟨w.heap.size, 0, none⟩ = some (.int .i64 0) := hm4.cell (i := 0) (by omega)
            have yf0 := hm4.frozen 0
            have y1 : wr.cell? ⟨w.heap.size, 1, none⟩ = some (.int .u64 0) := hm4.cell (i := 1) (by omega)
            have yf1 := hm4.frozen 1
            have y2 : wr.cell? ⟨w.heap.size, 2, none⟩ = some (.int .u64 0) := hm4.cell (i := 2) (by omega)
            have yf2 := hm4.frozen 2
            have y3 : wr.cell? ⟨w.heap.size, 3, none⟩ = some (.int .u64 0) := hm4.cell (i := 3) (by omega)
            have yf3 := hm4.frozen 3
            have y4 : wr.cell? ⟨w.heap.size, 4, none⟩ = some (.string ⟨#[]⟩) := hm4.cell (i := 4) (by omega)
            have yf4 := hm4.frozen 4
            have y5 : wr.cell? ⟨w.heap.size, 5, none⟩ = some (.string ⟨#[]⟩) := hm4.cell (i := 5) (by omega)
            have yf5 := hm4.frozen 5
            have y6 : wr.cell? ⟨w.heap.size, 6, none⟩ = some (.slice none 0 0) := hm4.cell (i := 6) (by omega)
            have yf6 := hm4.frozen 6
            have y7 : wr.cell? ⟨w.heap.size, 7, none⟩ = some (.slice none 0 0) := hm4.cell (i := 7) (by omega)
            have yf7 := hm4.frozen 7
            have y8 : wr.cell? ⟨w.heap.size, 8, none⟩ = some (.int .i64 0) := hm4.cell (i := 8) (by omega)
            have yf8 := hm4.frozen 8
            have y9 : wr.cell? ⟨w.heap.size, 9, none⟩ = some (.int .i64 0) := hm4.cell (i := 9) (by omega)
            have yf9 := hm4.frozen 9
            have y10 : wr.cell? ⟨w.heap.size, 10, none⟩ = some (.int .i64 0) := hm4.cell (i := 10) (by omega)
            have yf10 := hm4.frozen 10
            have y11 : wr.cell? ⟨w.heap.size, 11, none⟩ = some (.int .i64 0) := hm4.cell (i := 11) (by omega)
            have yf11 := hm4.frozen 11
            have y12 : wr.cell? ⟨w.heap.size, 12, none⟩ = some (.int .i64 0) := hm4.cell (i := 12) (by omega)
            have yf12 := hm4.frozen 12
            have y13 : wr.cell? ⟨w.heap.size, 13, none⟩ = some (.string ⟨#[]⟩) := hm4.cell (i := 13) (by omega)
            have yf13 := hm4.frozen 13
            have z0 : wr.cell? ⟨mb, 0, none⟩ = some (.int .i64 m.kind) := hM.out.row.cell (i := 0) (by omega)
            have z1 : wr.cell? ⟨mb, 1, none⟩ = some (.int .u64 m.id) := hM.out.row.cell (i := 1) (by omega)
            have z2 : wr.cell? ⟨mb, 2, none⟩ = some (.int .u64 m.n) := hM.out.row.cell (i := 2) (by omega)
            have z3 : wr.cell? ⟨mb, 3, none⟩ = some (.int .u64 m.ts) := hM.out.row.cell (i := 3) (by omega)
            have z4 : wr.cell? ⟨mb, 4, none⟩ = some (.string m.lo) := hM.out.row.cell (i := 4) (by omega)
            have z5 : wr.cell? ⟨mb, 5, none⟩ = some (.string m.hi) := hM.out.row.cell (i := 5) (by omega)
            have z6 : wr.cell? ⟨mb, 6, none⟩ = some (.slice t.va m.vers.length t.vc) := hM.out.row.cell (i := 6) (by omega)
            have z7 : wr.cell? ⟨mb, 7, none⟩ = some (.slice t.na m.vec.length t.nc) := hM.out.row.cell (i := 7) (by omega)
            have z8 : wr.cell? ⟨mb, 8, none⟩ = some (.int .i64 m.cmd.kind) := hM.out.row.cell (i := 8) (by omega)
            have z9 : wr.cell? ⟨mb, 9, none⟩ = some (.int .i64 m.cmd.dc) := hM.out.row.cell (i := 9) (by omega)
            have z10 : wr.cell? ⟨mb, 10, none⟩ = some (.int .i64 m.cmd.shard) := hM.out.row.cell (i := 10) (by omega)
            have z11 : wr.cell? ⟨mb, 11, none⟩ = some (.int .i64 m.cmd.node) := hM.out.row.cell (i := 11) (by omega)
            have z12 : wr.cell? ⟨mb, 12, none⟩ = some (.int .i64 m.cmd.mode) := hM.out.row.cell (i := 12) (by omega)
            have z13 : wr.cell? ⟨mb, 13, none⟩ = some (.string m.cmd.key) := hM.out.row.cell (i := 13) (by omega)
            clear hm4 hmq hM
            go_wp2
            change bodyPost _ _ _ _ _ (put14 wr w.heap.size (cm m t) 14)
            generalize put14 wr w.heap.size (cm m t) 14 = w9 at *
            clear y0 yf0 y1 yf1 y2 yf2 y3 yf3 y4 yf4 y5 yf5 y6 yf6 y7 yf7 y8 yf8 y9 yf9 y10 yf10 y11 yf11 y12 yf12 y13 yf13
            have y0 : w9.cell? ⟨w.heap.size, 0, none⟩ = some (.int .i64 m.kind) := hm9.out.cell (i := 0) (by omega)
            have y1 : w9.cell? ⟨w.heap.size, 1, none⟩ = some (.int .u64 m.id) := hm9.out.cell (i := 1) (by omega)
            have y2 : w9.cell? ⟨w.heap.size, 2, none⟩ = some (.int .u64 m.n) := hm9.out.cell (i := 2) (by omega)
            have y3 : w9.cell? ⟨w.heap.size, 3, none⟩ = some (.int .u64 m.ts) := hm9.out.cell (i := 3) (by omega)
            have y4 : w9.cell? ⟨w.heap.size, 4, none⟩ = some (.string m.lo) := hm9.out.cell (i := 4) (by omega)
            have y5 : w9.cell? ⟨w.heap.size, 5, none⟩ = some (.string m.hi) := hm9.out.cell (i := 5) (by omega)
            have y6 : w9.cell? ⟨w.heap.size, 6, none⟩ = some (.slice t.va m.vers.length t.vc) := hm9.out.cell (i := 6) (by omega)
            have y7 : w9.cell? ⟨w.heap.size, 7, none⟩ = some (.slice t.na m.vec.length t.nc) := hm9.out.cell (i := 7) (by omega)
            have y8 : w9.cell? ⟨w.heap.size, 8, none⟩ = some (.int .i64 m.cmd.kind) := hm9.out.cell (i := 8) (by omega)
            have y9 : w9.cell? ⟨w.heap.size, 9, none⟩ = some (.int .i64 m.cmd.dc) := hm9.out.cell (i := 9) (by omega)
            have y10 : w9.cell? ⟨w.heap.size, 10, none⟩ = some (.int .i64 m.cmd.shard) := hm9.out.cell (i := 10) (by omega)
            have y11 : w9.cell? ⟨w.heap.size, 11, none⟩ = some (.int .i64 m.cmd.node) := hm9.out.cell (i := 11) (by omega)
            have y12 : w9.cell? ⟨w.heap.size, 12, none⟩ = some (.int .i64 m.cmd.mode) := hm9.out.cell (i := 12) (by omega)
            have y13 : w9.cell? ⟨w.heap.size, 13, none⟩ = some (.string m.cmd.key) := hm9.out.cell (i := 13) (by omega)
            refine bodyPost_ret (v := .tuple #[.agg (cm m t), .int .i64 0]) ?_ rfl hfin.out
            simp [results, Try.results20, go_sem, y0, y1, y2, y3, y4, y5, y6, y7, y8, y9, y10, y11, y12, y13]
          · have hpos : 0 < t'.length := by omega
            have hst := Lib.hid (stop_s 3 wr hS.out)
            have hfin := Lib.hid (rdb_no ((hd2 t' rfl).trans (if_neg hn0)) (put14_below (w := wr.setCell ⟨w.heap.size + 1, 1, none⟩ (.int .i64 (3 : Nat))) (hlow.out.setCell (p := ⟨w.heap.size + 1, 1, none⟩) (by show w.heap.size ≤ w.heap.size + 1; omega) (.int .i64 (3 : Nat))) (Nat.le_refl _) mz 14).drew)
            have hmq := Lib.hid (hmq.out.setOther (a := ⟨w.heap.size + 1, 1, none⟩) (by show w.heap.size ≠ w.heap.size + 1; omega) (.int .i64 (3 : Nat)))
            have he5 := Lib.hid (hS.out.stop (k := 3) (by decide)).err
            clear hd1 hd2 hW hS hM hlow hal
            go_wp2_with (fail)
            refine hst.out.mono ?_
            rintro e w5 ⟨rfl, rfl⟩
            generalize wr.setCell ⟨w.heap.size + 1, 1, none⟩ (.int .i64 (3 : Nat)) = w5 at *
            replace he5 : w5.cell? ⟨w.heap.size + 1, 1, none⟩ = some (.int .i64 3) := he5.out
            clear he hst h0
            have hm4 := hmq.out
            have hm9 : Hid ((put14 w5 w.heap.size mz 14).rowIs w.heap.size 28 14 (fun i => (mz : Array Value).getD i undef)) := Lib.hid ((put14_row hm4 mz 14).congr (fun i hi => if_pos hi))
            have y0 : w5.cell? ⟨w.heap.size, 0, none⟩ = some (.int .i64 0) := hm4.cell (i := 0) (by omega)
            have yf0 := hm4.frozen 0
            have y1 : w5.cell? ⟨w.heap.size, 1, none⟩ = some (.int .u64 0) := hm4.cell (i := 1) (by omega)
            have yf1 := hm4.frozen 1
            have y2 : w5.cell? ⟨w.heap.size, 2, none⟩ = some (.int .u64 0) := hm4.cell (i := 2) (by omega)
            have yf2 := hm4.frozen 2
            have y3 : w5.cell? ⟨w.heap.size, 3, none⟩ = some (.int .u64 0) := hm4.cell (i := 3) (by omega)
            have yf3 := hm4.frozen 3
            have y4 : w5.cell? ⟨w.heap.size, 4, none⟩ = some (.string ⟨#[]⟩) := hm4.cell (i := 4) (by omega)
            have yf4 := hm4.frozen 4
            have y5 : w5.cell? ⟨w.heap.size, 5, none⟩ = some (.string ⟨#[]⟩) := hm4.cell (i := 5) (by omega)
            have yf5 := hm4.frozen 5
            have y6 : w5.cell? ⟨w.heap.size, 6, none⟩ = some (.slice none 0 0) := hm4.cell (i := 6) (by omega)
            have yf6 := hm4.frozen 6
            have y7 : w5.cell? ⟨w.heap.size, 7, none⟩ = some (.slice none 0 0) := hm4.cell (i := 7) (by omega)
            have yf7 := hm4.frozen 7
            have y8 : w5.cell? ⟨w.heap.size, 8, none⟩ = some (.int .i64 0) := hm4.cell (i := 8) (by omega)
            have yf8 := hm4.frozen 8
            have y9 : w5.cell? ⟨w.heap.size, 9, none⟩ = some (.int .i64 0) := hm4.cell (i := 9) (by omega)
            have yf9 := hm4.frozen 9
            have y10 : w5.cell? ⟨w.heap.size, 10, none⟩ = some (.int .i64 0) := hm4.cell (i := 10) (by omega)
            have yf10 := hm4.frozen 10
            have y11 : w5.cell? ⟨w.heap.size, 11, none⟩ = some (.int .i64 0) := hm4.cell (i := 11) (by omega)
            have yf11 := hm4.frozen 11
            have y12 : w5.cell? ⟨w.heap.size, 12, none⟩ = some (.int .i64 0) := hm4.cell (i := 12) (by omega)
            have yf12 := hm4.frozen 12
            have y13 : w5.cell? ⟨w.heap.size, 13, none⟩ = some (.string ⟨#[]⟩) := hm4.cell (i := 13) (by omega)
            have yf13 := hm4.frozen 13
            clear hm4 hmq
            go_wp2
            go_region
            go_wp2
            change bodyPost _ _ _ _ _ (put14 w5 w.heap.size mz 14).drew
            generalize put14 w5 w.heap.size mz 14 = w9 at *
            clear y0 yf0 y1 yf1 y2 yf2 y3 yf3 y4 yf4 y5 yf5 y6 yf6 y7 yf7 y8 yf8 y9 yf9 y10 yf10 y11 yf11 y12 yf12 y13 yf13
            have y0 : w9.cell? ⟨w.heap.size, 0, none⟩ = some (.int .i64 0) := hm9.out.cell (i := 0) (by omega)
            have y1 : w9.cell? ⟨w.heap.size, 1, none⟩ = some (.int .u64 0) := hm9.out.cell (i := 1) (by omega)
            have y2 : w9.cell? ⟨w.heap.size, 2, none⟩ = some (.int .u64 0) := hm9.out.cell (i := 2) (by omega)
            have y3 : w9.cell? ⟨w.heap.size, 3, none⟩ = some (.int .u64 0) := hm9.out.cell (i := 3) (by omega)
            have y4 : w9.cell? ⟨w.heap.size, 4, none⟩ = some (.string ⟨#[]⟩) := hm9.out.cell (i := 4) (by omega)
            have y5 : w9.cell? ⟨w.heap.size, 5, none⟩ = some (.string ⟨#[]⟩) := hm9.out.cell (i := 5) (by omega)
            have y6 : w9.cell? ⟨w.heap.size, 6, none⟩ = some (.slice none 0 0) := hm9.out.cell (i := 6) (by omega)
            have y7 : w9.cell? ⟨w.heap.size, 7, none⟩ = some (.slice none 0 0) := hm9.out.cell (i := 7) (by omega)
            have y8 : w9.cell? ⟨w.heap.size, 8, none⟩ = some (.int .i64 0) := hm9.out.cell (i := 8) (by omega)
            have y9 : w9.cell? ⟨w.heap.size, 9, none⟩ = some (.int .i64 0) := hm9.out.cell (i := 9) (by omega)
            have y10 : w9.cell? ⟨w.heap.size, 10, none⟩ = some (.int .i64 0) := hm9.out.cell (i := 10) (by omega)
            have y11 : w9.cell? ⟨w.heap.size, 11, none⟩ = some (.int .i64 0) := hm9.out.cell (i := 11) (by omega)
            have y12 : w9.cell? ⟨w.heap.size, 12, none⟩ = some (.int .i64 0) := hm9.out.cell (i := 12) (by omega)
            have y13 : w9.cell? ⟨w.heap.size, 13, none⟩ = some (.string ⟨#[]⟩) := hm9.out.cell (i := 13) (by omega)
            refine bodyPost_ret (v := .tuple #[.agg mz, .int .i64 3]) ?_ rfl hfin.out
            simp [results, Try.results20, go_sem, y0, y1, y2, y3, y4, y5, y6, y7, y8, y9, y10, y11, y12, y13]
set_option maxRecDepth 100000 in
set_option maxHeartbeats 4000000 in
theorem rdecode_no (v : Int) (hv : ¬ (v = 1 ∨ v = 2)) (A : Option Addr) (c : Nat) (l : List Nat) (w : World) : Calls Try.prog 20 #[.int .i64 v, .slice A l.length c] w (RdB w (dec v l)) := by
  have hm4 : (w.alloc (.cells mz 28)).rowIs w.heap.size 28 14 (fun i => (mz : Array Value).getD i undef) := wirDe.row_new w mz 28
  have hfin : RdB w (dec v l) (.returned (.tuple #[.agg mz, .int .i64 (15 : Nat)])) (put14 (w.alloc (.cells mz 28)) w.heap.size mz 14) := rdb_no (dec_no hv l) (put14_below ((Below.refl _ _).alloc (Nat.le_refl _) _) (Nat.le_refl _) mz 14)
  replace hfin := Lib.hid hfin
  have hd1 : (v != 1) = true := by rw [bne_iff_ne]; omega
  have hd2 : (v != 2) = true := by rw [bne_iff_ne]; omega
  have hn1 : ¬ v = 1 := by omega
  have hn2 : ¬ v = 2 := by omega
  clear hv
  go_enter Try.func20, Try.ntmps20
  go_upto_region 1 with fail
  generalize w.alloc (.cells mz 28) = w4 at *
  have hm9 : Hid ((put14 w4 w.heap.size mz 14).rowIs w.heap.size 28 14 (fun i => (mz : Array Value).getD i undef)) := Lib.hid ((put14_row hm4 mz 14).congr (fun i hi => if_pos hi))
  have y0 : w4.cell? ⟨w.heap.size, 0, none⟩ = some (.int .i64 0) := hm4.cell (i := 0) (by omega)
  have yf0 := hm4.frozen 0
  have y1 : w4.cell? ⟨w.heap.size, 1, none⟩ = some (.int .u64 0) := hm4.cell (i := 1) (by omega)
  have yf1 := hm4.frozen 1
  have y2 : w4.cell? ⟨w.heap.size, 2, none⟩ = some (.int .u64 0) := hm4.cell (i := 2) (by omega)
  have yf2 := hm4.frozen 2
  have y3 : w4.cell? ⟨w.heap.size, 3, none⟩ = some (.int .u64 0) := hm4.cell (i := 3) (by omega)
  have yf3 := hm4.frozen 3
  have y4 : w4.cell? ⟨w.heap.size, 4, none⟩ = some (.string ⟨#[]⟩) := hm4.cell (i := 4) (by omega)
  have yf4 := hm4.frozen 4
  have y5 : w4.cell? ⟨w.heap.size, 5, none⟩ = some (.string ⟨#[]⟩) := hm4.cell (i := 5) (by omega)
  have yf5 := hm4.frozen 5
  have y6 : w4.cell? ⟨w.heap.size, 6, none⟩ = some (.slice none 0 0) := hm4.cell (i := 6) (by omega)
  have yf6 := hm4.frozen 6
  have y7 : w4.cell? ⟨w.heap.size, 7, none⟩ = some (.slice none 0 0) := hm4.cell (i := 7) (by omega)
  have yf7 := hm4.frozen 7
  have y8 : w4.cell? ⟨w.heap.size, 8, none⟩ = some (.int .i64 0) := hm4.cell (i := 8) (by omega)
  have yf8 := hm4.frozen 8
  have y9 : w4.cell? ⟨w.heap.size, 9, none⟩ = some (.int .i64 0) := hm4.cell (i := 9) (by omega)
  have yf9 := hm4.frozen 9
  have y10 : w4.cell? ⟨w.heap.size, 10, none⟩ = some (.int .i64 0) := hm4.cell (i := 10) (by omega)
  have yf10 := hm4.frozen 10
  have y11 : w4.cell? ⟨w.heap.size, 11, none⟩ = some (.int .i64 0) := hm4.cell (i := 11) (by omega)
  have yf11 := hm4.frozen 11
  have y12 : w4.cell? ⟨w.heap.size, 12, none⟩ = some (.int .i64 0) := hm4.cell (i := 12) (by omega)
  have yf12 := hm4.frozen 12
  have y13 : w4.cell? ⟨w.heap.size, 13, none⟩ = some (.string ⟨#[]⟩) := hm4.cell (i := 13) (by omega)
  have yf13 := hm4.frozen 13
  clear hm4
  go_wp2
  change bodyPost _ _ _ _ _ (put14 w4 w.heap.size mz 14)
  generalize put14 w4 w.heap.size mz 14 = w9 at *
  clear y0 yf0 y1 yf1 y2 yf2 y3 yf3 y4 yf4 y5 yf5 y6 yf6 y7 yf7 y8 yf8 y9 yf9 y10 yf10 y11 yf11 y12 yf12 y13 yf13
  have y0 : w9.cell? ⟨w.heap.size, 0, none⟩ = some (.int .i64 0) := hm9.out.cell (i := 0) (by omega)
  have y1 : w9.cell? ⟨w.heap.size, 1, none⟩ = some (.int .u64 0) := hm9.out.cell (i := 1) (by omega)
  have y2 : w9.cell? ⟨w.heap.size, 2, none⟩ = some (.int .u64 0) := hm9.out.cell (i := 2) (by omega)
  have y3 : w9.cell? ⟨w.heap.size, 3, none⟩ = some (.int .u64 0) := hm9.out.cell (i := 3) (by omega)
  have y4 : w9.cell? ⟨w.heap.size, 4, none⟩ = some (.string ⟨#[]⟩) := hm9.out.cell (i := 4) (by omega)
  have y5 : w9.cell? ⟨w.heap.size, 5, none⟩ = some (.string ⟨#[]⟩) := hm9.out.cell (i := 5) (by omega)
  have y6 : w9.cell? ⟨w.heap.size, 6, none⟩ = some (.slice none 0 0) := hm9.out.cell (i := 6) (by omega)
  have y7 : w9.cell? ⟨w.heap.size, 7, none⟩ = some (.slice none 0 0) := hm9.out.cell (i := 7) (by omega)
  have y8 : w9.cell? ⟨w.heap.size, 8, none⟩ = some (.int .i64 0) := hm9.out.cell (i := 8) (by omega)
  have y9 : w9.cell? ⟨w.heap.size, 9, none⟩ = some (.int .i64 0) := hm9.out.cell (i := 9) (by omega)
  have y10 : w9.cell? ⟨w.heap.size, 10, none⟩ = some (.int .i64 0) := hm9.out.cell (i := 10) (by omega)
  have y11 : w9.cell? ⟨w.heap.size, 11, none⟩ = some (.int .i64 0) := hm9.out.cell (i := 11) (by omega)
  have y12 : w9.cell? ⟨w.heap.size, 12, none⟩ = some (.int .i64 0) := hm9.out.cell (i := 12) (by omega)
  have y13 : w9.cell? ⟨w.heap.size, 13, none⟩ = some (.string ⟨#[]⟩) := hm9.out.cell (i := 13) (by omega)
  refine bodyPost_ret (v := .tuple #[.agg mz, .int .i64 15]) ?_ rfl hfin.out
  simp [results, Try.results20, go_sem, y0, y1, y2, y3, y4, y5, y6, y7, y8, y9, y10, y11, y12, y13]
/-- the document's Decode, of any version and any bytes -/
theorem rdecode_any (v : Int) (A : Option Addr) (c : Nat) (l : List Nat) (w : World) (hb : BL w A l.length l) (hc : l.length ≤ c) (h9 : c ≤ 9223372036854775807) (hA : l.length = 0 ∨ A = none ∨ ∃ b off, A = some ⟨b, off, none⟩ ∧ b < w.heap.size) : Calls Try.prog 20 #[.int .i64 v, .slice A l.length c] w (RdB w (dec v l)) := by
  by_cases hv : v = 1 ∨ v = 2
  · rcases hv with rfl | rfl
    · exact rdecode_1 A c l w hb hc h9 hA
    · exact rdecode_2 A c l w hb hc h9 hA
  · exact rdecode_no v hv A c l w
end Go.Proofs.Ytkbhmeajgmecoaa.wirRg
