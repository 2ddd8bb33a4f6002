/- The walks of the statements FramePacks, FrameCuts and FrameBack. -/
import Derived.Test.YtganbpocpppabaaFraI
namespace Go.Proofs.Ytganbpocpppabaa.fraJ
open Go.ChangeShapes Go.WideShapes Go.ChangeAt Go.RowKit Go.Deep
open numM numN rowA byt numA numB numC numD fraM fraB fraC fraD fraE fraG fraH fraI

/-- A frame's cells at block b. -/
def FB (W : World) (b : Nat) (f : Fm) (A : Option Addr) (c : Nat) : Prop := W.rowIs b 24 5 (fun i => (cf f A c).getD i undef)
theorem FB.new (w : World) (f : Fm) (A : Option Addr) (c : Nat) : FB (w.alloc (.cells (cf f A c) 24)) w.heap.size f A c := cfrow w f A c
theorem FB.below {w w1 : World} {b : Nat} {f : Fm} {A : Option Addr} {c : Nat} (h : FB w b f A c) (hB : Below w.heap.size w w1) : FB w1 b f A c := World.rowIs.of_block h (hB.block b (World.rowIs.lt h))
theorem FB.alloc {w : World} {b : Nat} {f : Fm} {A : Option Addr} {c : Nat} (h : FB w b f A c) (o : Obj) : FB (w.alloc o) b f A c := World.rowIs.alloc h o
theorem FB.lt {w : World} {b : Nat} {f : Fm} {A : Option Addr} {c : Nat} (h : FB w b f A c) : b < w.heap.size := World.rowIs.lt h
theorem FB.cells {W : World} {b : Nat} {f : Fm} {A : Option Addr} {c : Nat} (h : FB W b f A c) :
    W.cell? ⟨b, 0, none⟩ = some (.int .i64 f.v) ∧ W.cell? ⟨b, 1, none⟩ = some (.int .i64 f.e) ∧ W.cell? ⟨b, 2, none⟩ = some (.int .i64 f.s) ∧ W.cell? ⟨b, 3, none⟩ = some (.int .i64 f.a) ∧ W.cell? ⟨b, 4, none⟩ = some (.slice A f.body.length c) :=
  ⟨World.rowIs.cell h (i := 0) (by omega), World.rowIs.cell h (i := 1) (by omega), World.rowIs.cell h (i := 2) (by omega), World.rowIs.cell h (i := 3) (by omega), World.rowIs.cell h (i := 4) (by omega)⟩
theorem al0 (w : World) (o : Obj) : Below w.heap.size w (w.alloc o) := (Below.refl _ _).alloc (Nat.le_refl _) o

theorem pkE_ok {f : Fm} (h : pkE f = 0) : f.ok = true ∧ f.body.length ≤ 1048576 ∧ pkL f = pk f := by
  cases hk : f.ok
  · unfold pkE at h; rw [hk] at h; simp at h
  · by_cases hl : 1048576 < f.body.length
    · unfold pkE at h; rw [hk, if_pos rfl, if_pos hl] at h; omega
    · exact ⟨rfl, by omega, by unfold pkL; rw [hk, if_pos rfl, if_neg hl]⟩
theorem pkE_no {f : Fm} (h : pkE f ≠ 0) : pkL f = [] := by
  cases hk : f.ok
  · unfold pkL; rw [hk]; rfl
  · by_cases hl : 1048576 < f.body.length
    · unfold pkL; rw [hk, if_pos rfl, if_pos hl]
    · exact absurd (by unfold pkE; rw [hk, if_pos rfl, if_neg hl]) h

set_option maxRecDepth 100000 in
theorem packs (f : Fm) (A : Option Addr) (c : Nat) (w : World) (hb : BL w A f.body.length f.body) :
    Calls Try.prog 3 #[.agg (cf f A c)] w fun e w' => e = .returned (.bool true) ∧ Below w.heap.size w w' := by
  have hF := Lib.hid (FB.new w f A c)
  have hW := Lib.hid (al0 w (.cells (cf f A c) 24))
  have hb0 := Lib.hid (hb.below hW.out)
  clear hb
  go_enter Try.func3, Try.ntmps3
  go_wp2_with (fail)
  generalize w.alloc (.cells (cf f A c) 24) = W at *
  refine (pack_any f A c W hb0.out).mono ?_
  rintro e w1 ⟨A1, c1, rfl, ho1, hB1⟩
  have hl1 := Lib.hid (own_bl ho1)
  have hF1 := Lib.hid (hF.out.below hB1)
  have hb1 := Lib.hid (hb0.out.below hB1)
  have hW1 := Lib.hid (trans0 hW.out hB1)
  obtain ⟨q0, q1, q2, q3, q4⟩ := hF1.out.cells
  clear ho1 hB1 hF hW hb0
  go_wp2_with (fail)
  refine (rpack_any f A c w1 hb1.out).mono ?_
  rintro e w2 ⟨A2, c2, rfl, ho2, hB2⟩
  have hl2 := Lib.hid (own_bl ho2)
  have hl1' := Lib.hid (hl1.out.below hB2)
  have hW2 := Lib.hid (trans0 hW1.out hB2)
  clear ho2 hB2 q0 q1 q2 q3 q4 hF1 hb1 hW1 hl1
  generalize pkE f = E at *
  generalize pkL f = L at *
  go_wp2_with (fail)
  refine (awake_any w2).mono ?_
  rintro e w3 ⟨rfl, hB3⟩
  have hl2' := Lib.hid (hl2.out.below hB3)
  have hl1'' := Lib.hid (hl1'.out.below hB3)
  have hW3 := Lib.hid (trans0 hW2.out hB3)
  clear hB3 hl2 hl1' hW2
  go_wp2_with (fail)
  refine (same_any A1 L.length c1 L A2 L.length c2 w3 hl1''.out hl2'.out).mono ?_
  rintro e w4 ⟨rfl, rfl⟩
  go_wp2
  go_ret
  exact ⟨rfl, hW3.out⟩

set_option maxRecDepth 100000 in
theorem cuts (f : Fm) (A : Option Addr) (c : Nat) (x : Int) (w : World) (hb : BL w A f.body.length f.body) (hx : -9223372036854775808 ≤ x ∧ x ≤ 9223372036854775807) :
    Calls Try.prog 7 #[.agg (cf f A c), .int .i64 x] w fun e w' => e = .returned (.bool true) ∧ Below w.heap.size w w' := by
  obtain ⟨hx1, hx2⟩ := hx
  have hW := Lib.hid (al0 w (.cells (cf f A c) 24))
  have hb0 := Lib.hid (hb.below hW.out)
  clear hb
  go_enter Try.func7, Try.ntmps7
  go_wp2_with (fail)
  generalize w.alloc (.cells (cf f A c) 24) = W at *
  refine (pack_any f A c W hb0.out).mono ?_
  rintro e w1 ⟨A1, c1, rfl, ho1, hB1⟩
  have hl1 := Lib.hid (own_bl ho1)
  obtain ⟨_, _, e0, hcl, hc9, _, _, _⟩ := ho1.form
  cases e0
  have hW1 := Lib.hid (trans0 hW.out hB1)
  clear ho1 hB1 hW
  by_cases hE : pkE f = 0
  · have hne : ((pkE f : Int) != 0) = false := by rw [bne_eq_false_iff_eq]; omega
    have hok := pkE_ok hE
    have hbl := Lib.hid hb0.out.2.2.1
    have hln := pk_len f
    have hcut := Lib.hid (fun k hk => un_cut hok.1 hok.2.1 (k := k) hk)
    have hLe := hok.2.2
    generalize pkL f = L at *
    generalize hEe : pkE f = E at *
    subst hLe
    have hlm : (pk f).length ≤ 1048597 := by omega
    have hlp : 0 < (pk f).length := by omega
    replace hln := Lib.hid hln
    replace hok := Lib.hid hok
    generalize pk f = L at *
    obtain ⟨k, hmod, hkl⟩ : ∃ k : Nat, (IntKind.u64.wrap x).tmod (L.length : Int) = (k : Int) ∧ k < L.length := by
      have h0 : 0 ≤ IntKind.u64.wrap x := by rw [IntKind.wrap_u64]; omega
      obtain ⟨y, hy⟩ := Int.eq_ofNat_of_zero_le h0
      rw [hy]
      exact ⟨y % L.length, by rw [Int.tmod_eq_emod_of_nonneg (by omega)]; exact (Int.natCast_emod y L.length).symm, Nat.mod_lt _ hlp⟩
    have hk9 : k ≤ 1048597 := by omega
    have hkc : k ≤ c1 := by omega
    have htk := Lib.hid (hl1.out.take k (by omega))
    have hun := Lib.hid (hcut.out k hkl)
    clear hcut
    replace hkl := Lib.hid hkl
    go_wp2_with (fail)
    refine (unpack_any A1 k c1 (L.take k) w1 htk.out hkc hc9).mono ?_
    rintro e w2 ⟨A2, c2, rfl, ho2, hB2⟩
    rw [hun.out.1, hun.out.2]
    rw [hun.out.2] at ho2
    have hW2 := Lib.hid (trans0 hW1.out hB2)
    have hb2 := Lib.hid (own_bl ho2)
    have hlt2 : w2.heap.size = w2.heap.size := rfl
    clear ho2 hB2 hlt2 hmod
    go_wp2_with (fail)
    refine (awake_any _).mono ?_
    rintro e w3 ⟨rfl, hB3⟩
    have hF3 := (FB.new w2 Fm.zero A2 c2).below hB3
    obtain ⟨q0, q1, q2, q3, q4⟩ := hF3.cells
    have hb3 := Lib.hid ((hb2.out.below (al0 _ _)).below hB3)
    have hW3 := Lib.hid (trans0 (trans0 hW2.out (al0 _ _)) hB3)
    clear hB3 hF3
    go_wp2_with (fail)
    refine (same5 Fm.zero A2 c2 none 0 w3 hb3.out (BL.none_ _ _)).mono ?_
    rintro e w4 ⟨rfl, hB4⟩
    have hW4 := Lib.hid (trans0 hW3.out hB4)
    clear hB4 q0 q1 q2 q3 q4
    go_wp2
    go_ret
    exact ⟨rfl, hW4.out⟩
  · have hne : ((pkE f : Int) != 0) = true := by rw [bne_iff_ne]; omega
    go_wp2_with (fail)
    refine (awake_any w1).mono ?_
    rintro e w3 ⟨rfl, hB3⟩
    have hW3 := Lib.hid (trans0 hW1.out hB3)
    clear hB3
    go_wp2
    go_ret
    exact ⟨rfl, hW3.out⟩
end Go.Proofs.Ytganbpocpppabaa.fraJ
