/- The contract of the law's own move, whole; LinkOnce. -/
import Derived.Test.YthiadkpndemeeaaLnkN
import Derived.Test.YthiadkpndemeeaaLnkU
namespace Go.Proofs.Ythiadkpndemeeaa.lnkOn
open Go.ChangeShapes Go.WideShapes Go.ChangeAt Go.RowKit Go.Deep
open numM rowA byt numA numB numC lnkA lnkB lnkC lnkD lnkE lnkF lnkG lnkH lnkI lnkJ lnkP lnkL lnkQ lnkR lnkS lnkT lnkV lnkW lnkX lnkZ lnkY lnkN lnkU

theorem do_any {w0 w : World} {t : Nat} {x : Tw} {n : Nat} (m : Mv) (A : Option Addr) (c : Nat) (hT0 : TwoAt w0 w t x) (hG : GoodT x n) (hn : n < 300) (hb : BL w A m.body.length m.body) (hl : m.body.length ≤ 1048576) (hA : m.body.length = 0 ∨ ∀ y, A = some y → y.block < w0.heap.size) :
    Calls Try.prog 26 #[.pointer (some ⟨t, 0, none⟩), .agg #[.int .i64 m.kind, .int .i64 m.at_, .slice A m.body.length c]] w (Did w0 t x m n) := by
  by_cases h0 : m.kind = 0
  · exact do_send m A c hT0 hG hn hb hl hA h0
  by_cases h1 : m.kind = 1
  · exact do_out m A c hT0 hG hn hb hl hA h1
  by_cases h2 : m.kind = 2
  · exact do_note m A c hT0 hG hn hb hl hA h2
  by_cases h345 : m.kind = 3 ∨ m.kind = 4 ∨ m.kind = 5
  · by_cases he : x.row.length = 0
    · exact do_empty m A c hT0 hG hb hl hA h345 he
    · rcases h345 with h3 | h4 | h5
      · cases hf : (x.row.getD (pickT m.at_ x.row.length) F0).2 with
        | true => exact do_come_true m A c hT0 hG hn hb hl hA h3 he hf
        | false => exact do_come_false m A c hT0 hG hn hb hl hA h3 he hf
      · cases hf : (x.row.getD (pickT m.at_ x.row.length) F0).2 with
        | true => exact do_stay_true m A c hT0 hG hn hb hl hA h4 he hf
        | false => exact do_stay_false m A c hT0 hG hn hb hl hA h4 he hf
      · exact do_lost m A c hT0 hG hn hb hl hA h5 he
  · exact do_other m A c hT0 hG hn hb hl hA h0 h1 h2 (fun q => h345 (.inl q)) (fun q => h345 (.inr (.inl q))) (fun q => h345 (.inr (.inr q)))

/-! ### Two new ends -/
def x0 (ep : Int) : Tw := ⟨St.new ep, St.new ep, [], [], []⟩
theorem two_new {w w1 w2 : World} {ep : Int} {pa pb : Nat} (hB1 : Below w.heap.size w w1) (hB2 : Below w1.heap.size w1 w2)
    (h1 : ∀ (col : Nat → Nat) (c : Nat), (∀ i, w.heap.size ≤ i → i < w1.heap.size → col i = c) → EndAt col c w1 pa (St.new ep)) (h2 : ∀ (col : Nat → Nat) (c : Nat), (∀ i, w1.heap.size ≤ i → i < w2.heap.size → col i = c) → EndAt col c w2 pb (St.new ep)) :
    TwoAt w (w2.alloc (.cells #[.pointer (some ⟨pa, 0, none⟩), .pointer (some ⟨pb, 0, none⟩), .slice none 0 0, .slice none 0 0, .slice none 0 0] 52)) w2.heap.size (x0 ep) := by
  have hal := al0 w2 (.cells #[.pointer (some ⟨pa, 0, none⟩), .pointer (some ⟨pb, 0, none⟩), .slice none 0 0, .slice none 0 0, .slice none 0 0] 52)
  have s1 := hB1.size
  have s2 := hB2.size
  refine ⟨fun k => if w.heap.size ≤ k ∧ k < w1.heap.size then 1 else if w1.heap.size ≤ k ∧ k < w2.heap.size then 2 else if k = w2.heap.size then 3 else 0, pa, pb, .slice none 0 0, .slice none 0 0, .slice none 0 0, [], [], [], ?_, ?_, ?_, ?_, ⟨World.ownsRow_nil _ _ _ 6, fun k e => by cases e⟩, trivial, ⟨World.ownsRow_nil _ _ _ 1, fun k e => by cases e⟩, trivial, ⟨World.ownsRow_nil _ _ _ 1, fun k e => by cases e⟩, trivial, ?_, ?_, ?_⟩
  · have h := World.rowIs_alloc w2 #[.pointer (some ⟨pa, 0, none⟩), .pointer (some ⟨pb, 0, none⟩), .slice none 0 0, .slice none 0 0, .slice none 0 0] 52 (cT pa pb (.slice none 0 0) (.slice none 0 0) (.slice none 0 0)) (fun i hi => ?_)
    · exact h
    · have : i = 0 ∨ i = 1 ∨ i = 2 ∨ i = 3 ∨ i = 4 := by simp at hi; omega
      rcases this with rfl | rfl | rfl | rfl | rfl <;> rfl
  · show (if _ then _ else _) = 3
    rw [if_neg (by omega), if_neg (by omega), if_pos rfl]
  · exact ((h1 _ 1 fun i q1 q2 => if_pos ⟨q1, q2⟩).below hB2).below hal
  · exact (h2 _ 2 fun i q1 q2 => by rw [if_neg (by omega), if_pos ⟨q1, q2⟩]).below hal
  · intro k hk
    have hz : (w2.alloc (.cells #[.pointer (some ⟨pa, 0, none⟩), .pointer (some ⟨pb, 0, none⟩), .slice none 0 0, .slice none 0 0, .slice none 0 0] 52)).heap.size = w2.heap.size + 1 := by simp
    show (if _ then _ else _) = 0
    rw [if_neg (by omega), if_neg (by omega), if_neg (by omega)]
  · exact (hB1.trans (hB2.mono hB1.size)).trans (hal.mono (by omega))
  · intro i hi
    show (if _ then _ else _) = 0
    rw [if_neg (by omega), if_neg (by omega), if_neg (by omega)]
theorem two_step {w0 w w' : World} {t : Nat} {x : Tw} (h : TwoAt w0 w t x) (hB : Below w.heap.size w w') : TwoAt w0 w' t x := by
  obtain ⟨col, pa, pb, vr, vs, vc, css, xs, xc, h⟩ := h
  exact ⟨col, pa, pb, vr, vs, vc, css, xs, xc, h.below hB⟩
theorem two_bel {w0 w : World} {t : Nat} {x : Tw} (h : TwoAt w0 w t x) : Below w0.heap.size w0 w := by
  obtain ⟨col, pa, pb, vr, vs, vc, css, xs, xc, h⟩ := h
  exact h.bel
theorem bl_lt {w : World} {A : Option Addr} {n : Nat} {l : List Nat} (h : BL w A n l) : n = 0 ∨ ∀ y, A = some y → y.block < w.heap.size := by
  rcases h.2.2.2 with h0 | ⟨b, off, rfl, hlt, _⟩
  · exact .inl h0
  · exact .inr fun y e => by cases e; exact hlt
set_option maxRecDepth 100000 in
set_option maxHeartbeats 4000000 in
theorem once (ep : Int) (A : Option Addr) (n c : Nat) (ms : List Mw) (w : World) (h1 : Rs w QM 3 A n ms) :
    Calls Try.prog 4 #[.int .i64 ep, .slice A n c] w fun e w' => e = .returned (.bool true) ∧ Below w.heap.size w w' := by
  have hn9 := h1.2.1
  replace h1 := Lib.hid h1
  go_enter Try.func4, Try.ntmps4
  go_wp2_with (fail)
  refine (new_any ep w).mono ?_
  rintro e w1 ⟨pa, rfl, hB1, -, -, hc1⟩
  replace hB1 := Lib.hid hB1
  replace hc1 := Lib.hid hc1
  go_wp2_with (fail)
  refine (new_any ep w1).mono ?_
  rintro e w2 ⟨pb, rfl, hB2, -, -, hc2⟩
  have hT := Lib.hid (two_new hB1.out hB2 hc1.out hc2)
  clear hB1 hc1 hB2 hc2
  go_wp2
  go_loopw [6] (fun i wr => ∃ (k : Nat) (x : Tw), k ≤ n ∧ k ≤ 300 ∧ i = .int .i64 k ∧ Hid (TwoAt w wr w2.heap.size x) ∧ Hid (GoodT x k)) (fun i _ => n - (intOf i).toNat)
  case atStart => exact ⟨0, x0 ep, by omega, by omega, rfl, hT, GoodT.new ep⟩
  case round =>
    clear hT
    obtain ⟨k, x, hk, hk3, rfl, hT, hG⟩ := hrel
    by_cases hlt : k < n ∧ k < 300
    · obtain ⟨hlt, h300⟩ := hlt
      obtain ⟨b, off, rfl, hbl, B, cB, ⟨f0, f1, f2⟩, hbb, hbc, hbm⟩ : ∃ b off, A = some ⟨b, off, none⟩ ∧ b < w.heap.size ∧ QM w b (off + k * 3) (ms.getD k default) := by
        rcases h1.out.2.2 with h0 | ⟨b, off, e, h3, h4⟩
        · omega
        · exact ⟨b, off, e, h3, h4 k hlt⟩
      generalize ms.getD k default = M at *
      obtain ⟨kind, at_, l⟩ := M
      simp only at f0 f1 f2 hbb hbc
      have hBw := two_bel hT.out
      have ge : ∀ o, wr.cell? ⟨b, o, none⟩ = w.cell? ⟨b, o, none⟩ := fun o => hBw.cell (p := ⟨b, o, none⟩) hbl
      rw [← ge] at f0 f1 f2
      -- the body, cut
      obtain ⟨L, T, hLT, hL100, hbT, hcT⟩ : ∃ (L : Nat) (T : List Nat), T.length = L ∧ L ≤ 100 ∧ BL w B L T ∧ ((l.length ≤ 100 ∧ L = l.length) ∨ (100 < l.length ∧ L = 100)) := by
        by_cases e : l.length ≤ 100
        · exact ⟨l.length, l, rfl, e, hbb, .inl ⟨e, rfl⟩⟩
        · exact ⟨100, l.take 100, by rw [List.length_take]; omega, by omega, hbb.take 100 (by omega), .inr ⟨by omega, rfl⟩⟩
      subst hLT
      have hlt3 := Lib.hid (bl_lt hbT)
      have hbr := Lib.hid (hbT.below hBw)
      have hl9 := hbb.2.1
      obtain ⟨col, pa9, pb9, vr, vs, vc, css, xs, xc, hI⟩ := hT.out
      obtain ⟨-, -, z2, -, -⟩ := hI.cells
      obtain ⟨AR, cR, e5, -, -⟩ := own_form hI.row.1
      rw [e5] at z2
      have hrl9 := hG.out.rl
      have htl := hI.blk.lt
      clear ge hI e5 hbb hbT
      generalize hLl : l.length = Ll at *
      generalize hTl : T.length = Tl at *
      replace hTl := Lib.hid hTl
      clear hLl
      rcases hcT with ⟨c1, rfl⟩ | ⟨c1, rfl⟩
      all_goals
        by_cases hr4 : 400 < x.row.length ∧ kind ≠ 3 ∧ kind ≠ 5
        · obtain ⟨r1, r2, r3⟩ := hr4
          have b3 := bne_iff_ne.2 r2
          have b5 := bne_iff_ne.2 r3
          have hT' := Lib.hid (fun w' (hB : Below wr.heap.size wr w') => two_step hT.out hB)
          have hG' := Lib.hid (hG.out.more (Nat.le_succ k))
          have hal := Lib.hid (fun v => al0 wr (.cells #[.int .i64 kind, .int .i64 at_, v] 54))
          clear hT hG hbr r2 r3
          go_wp2
          go_roundw
          case rel => exact ⟨k + 1, x, by omega, by omega, by go_num, hT'.out _ (hal.out _), hG'⟩
          case measure => simp [intOf]; omega
        · have hq : x.row.length ≤ 400 ∨ (400 < x.row.length ∧ kind = 3) ∨ (400 < x.row.length ∧ kind ≠ 3 ∧ kind = 5) := by omega
          rcases hq with q1 | ⟨q1, rfl⟩ | ⟨q1, q2, rfl⟩
          all_goals
            try
              have b3 := bne_iff_ne.2 q2
              clear q2
            have hal := Lib.hid (fun (kd : Int) v => al0 wr (.cells #[.int .i64 kd, .int .i64 at_, v] 54))
            clear hr4
            go_wp2_with (fail)
            rw [← hTl.out]
            refine (do_any ⟨_, at_, T⟩ B cB (two_step hT.out (hal.out _ _)) hG.out (by omega) (by rw [hTl.out]; exact hbr.out.below (hal.out _ _)) (by rw [hTl.out]; omega) (by rw [hTl.out]; exact hlt3.out)).mono ?_
            rintro e w5 ⟨rfl, hT5, hG5⟩
            replace hT5 := Lib.hid hT5
            replace hG5 := Lib.hid hG5
            clear hT hG hbr hal hTl
            go_wp2
            go_roundw
            case rel => exact ⟨k + 1, _, by omega, by omega, by go_num, hT5, hG5⟩
            case measure => simp [intOf]; omega
    · have hq : k = n ∨ (k = 300 ∧ 300 < n) := by omega
      have hB9 := Lib.hid (two_bel hT.out)
      clear hT hG hlt
      rcases hq with q | ⟨q, q2⟩
      all_goals
        subst q
        go_wp2_with (fail)
        refine (awake_any wr).mono ?_
        rintro e w9 ⟨rfl, hB10⟩
        have hB11 := Lib.hid (hB9.out.trans (hB10.mono hB9.out.size))
        clear hB9 hB10
        go_wp2
        go_ret
        exact ⟨rfl, hB11.out⟩
end Go.Proofs.Ythiadkpndemeeaa.lnkOn
