/- The document's Send and Look. -/
import Derived.Test.YtggoaglcffdcnaaNetQ
namespace Go.Proofs.Ytggoaglcffdcnaa.netR
open Go.ChangeShapes Go.WideShapes Go.ChangeAt Go.RowKit Go.Deep
open numM rowA byt numA numB numC netA netB netC netE netG netS netL netP netQ

theorem stand_bl {w : World} {A : Option Addr} {n : Nat} {l : List Nat} (h : BL w A n l) : Stand w A n (ub l) := by
  rcases h.2.2.2 with h0 | ⟨b, off, rfl, _, h3⟩
  · exact .inl h0
  · refine .inr ⟨_, rfl, fun j u hu => ?_⟩
    have hj : j < l.length := by
      have := (List.getElem?_eq_some_iff.1 hu).1
      rwa [ub_len] at this
    rw [ub_get l hj] at hu
    cases hu
    rw [add_plain]
    exact h3 j (by have := h.1; omega)
theorem infoK : (Try.prog.info? 66).map (fun i => (i.zero, i.size, i.bytes)) = some (some (.agg #[.int .i64 0, .int .i64 0, .slice none 0 0, .bool false]), 4, 48) := by kernel_rfl
section
variable {col : Nat → Nat} {c : Nat} {w w1 w2 w4 : World} {q : Nat} {v : Value} {ds : List DP} {lost : Nat} {d : Dn} {f t : Int}
def DDid (col : Nat → Nat) (c q : Nat) (E : Nat) (d' : Dn) (w : World) (e : Ending) (w' : World) : Prop := e = .returned (.int .i64 E) ∧ Cg (fun b => col b = c) w w' ∧ DocAt (recol col w c) c w' q d'
/-- A packet stands last. -/
theorem doc_add (h : DocIs col c w q v ds d.lost) (hk : ds.map DP.k = d.row) (m : DP) (hg : w.grownBy w4 v.ownBlock) {v' : Value}
    (hrow : w4.ownsRow 0 66 4 v' (ds.length + 1) (fl DP.cs ds ++ m.cs)) (hv : ∀ b, v'.ownBlock = some b → v.ownBlock = some b ∨ w.heap.size ≤ b)
    (ho : Own w4 0 m.v m.k.b.length m.k.b) (hc : ∀ b, m.v.ownBlock = some b → w.heap.size ≤ b ∨ col b = c) (hw : m.k.f ≤ 20 ∧ m.k.t ≤ 20 ∧ m.k.f ≠ m.k.t) (hl : m.k.b.length ≤ 100000) (hn : ds.length < 100000) :
    Cg (fun b => col b = c) w (w4.setCell ⟨q, 0, none⟩ v') ∧ DocAt (recol col w c) c (w4.setCell ⟨q, 0, none⟩ v') q (addD d m.k) := by
  obtain ⟨h1, h2⟩ := h.put hg (ds' := ds ++ [m]) (by rw [fl_app, fl_one, List.length_append]; exact hrow) hv (fun x hx => by
      rcases List.mem_append.1 hx with hx | hx
      · exact own_blk (h.byt x hx) fun b e => hg.block b (h.blt hx e) (fun e2 => own_apart h.own (h.byt x hx).2.2.2 (by decide) e2.symm e)
      · rw [List.mem_singleton.1 hx]; exact ho) (fun x hx b e => by
      rcases List.mem_append.1 hx with hx | hx
      · exact .inr (h.cb x hx b e)
      · rw [List.mem_singleton.1 hx] at e; exact hc b e) (fun x hx => by
      rcases List.mem_append.1 hx with hx | hx
      · exact h.ok x hx
      · rw [List.mem_singleton.1 hx]; exact hw) (by rw [List.length_append]; simp; omega) (fun x hx => by
      rcases List.mem_append.1 hx with hx | hx
      · exact h.bl x hx
      · rw [List.mem_singleton.1 hx]; exact hl)
  exact ⟨h1, v', ds ++ [m], h2, by rw [List.map_append, hk]; rfl⟩
theorem doc_lost (h : DocAt col c w q d) : Cg (fun b => col b = c) w (w.setCell ⟨q, 1, none⟩ (.int .i64 (d.lost + 1 : Nat))) ∧ DocAt (recol col w c) c (w.setCell ⟨q, 1, none⟩ (.int .i64 (d.lost + 1 : Nat))) q (lostD d) := by
  obtain ⟨v, ds, h, e⟩ := h
  obtain ⟨h1, h2⟩ := h.setLost (d.lost + 1)
  exact ⟨h1, v, ds, h2.ext fun k hk => rec_ext col w c k (by rwa [World.size_setCell] at hk), e⟩
set_option maxRecDepth 100000 in
theorem dsend_bad (p : Value) (f t : Int) (b : Value) (w : World) (h : ¬ IsWay f t) : Calls Try.prog 26 #[p, .int .i64 f, .int .i64 t, b] w fun e w' => e = .returned (.int .i64 1) ∧ w = w' := by
  go_enter Try.func26, Try.ntmps26
  go_wp2_with (go_at_call 19; ((with_reducible refine (right_no f t _ h).mono ?_); rintro e w' ⟨rfl, rfl⟩))
  go_ret
  exact ⟨rfl, rfl⟩
def sndDE (d : Dn) (f t : Int) : Nat := if 48 ≤ cnt f t d.row then 9 else 0
def sndD (d : Dn) (f t : Int) (x : Dk) : Dn := if 48 ≤ cnt f t d.row then lostD d else addD d x
set_option maxRecDepth 100000 in
set_option maxHeartbeats 1000000 in
theorem dsend_ok (a b : Nat) (A : Option Addr) (cap : Nat) (l : List Nat) (w : World) (h : DocAt col c w q d) (hw : IsWay a b) (hb : BL w A l.length l) (hl : l.length ≤ 100000) (hcn : d.lost < 1000000) (hrn : d.row.length < 100000) :
    Calls Try.prog 26 #[.pointer (some ⟨q, 0, none⟩), .int .i64 a, .int .i64 b, .slice A l.length cap] w (DDid col c q (sndDE d a b) (sndD d a b ⟨a, b, l, false⟩) w) := by
  have hri := Lib.hid (right_yes a b w hw)
  have hle := Lib.hid (dlen_any a b w h)
  have hcc := cnt_le a b d.row
  have hwn : a ≤ 20 ∧ b ≤ 20 ∧ a ≠ b := by unfold IsWay at hw; omega
  clear hw
  by_cases hfull : 48 ≤ cnt a b d.row
  · have hfI : (48 : Int) ≤ (cnt a b d.row : Int) := by omega
    have hS := Lib.hid (doc_lost h)
    have hE : Hid (sndDE d a b = 9 ∧ sndD d a b ⟨a, b, l, false⟩ = lostD d) := Lib.hid ⟨if_pos hfull, if_pos hfull⟩
    obtain ⟨v, ds, hI, hk⟩ := h
    obtain ⟨-, k1, -, k3, -⟩ := hI.cells
    have e1 : Hid (((d.lost + 1 : Nat) : Int) = (d.lost : Int) + 1) := Lib.hid (by omega)
    clear hI hk hb hfull hwn hcc
    generalize d.lost = n at *
    generalize cnt a b d.row = N at *
    go_enter Try.func26, Try.ntmps26
    go_wp2_with (first
      | (go_at_call 19; ((with_reducible refine (hri.out).mono ?_); rintro e w' ⟨rfl, rfl⟩))
      | (go_at_call 13; ((with_reducible refine (hle.out).mono ?_); rintro e w' ⟨rfl, rfl⟩)))
    go_ret
    obtain ⟨q1, q2⟩ := hE.out
    refine ⟨by rw [q1]; rfl, ?_⟩
    rw [q2, ← e1.out]
    exact hS.out
  · have hfI : ¬ (48 : Int) ≤ (cnt a b d.row : Int) := by omega
    obtain ⟨i0, hi0, hz0, hz1, hz2⟩ := info_parts infoK
    obtain ⟨i1, hi1, hy0, hy1, hy2⟩ := info_parts bytes8
    have hE : Hid (sndDE d a b = 0 ∧ sndD d a b ⟨a, b, l, false⟩ = addD d ⟨a, b, l, false⟩) := Lib.hid ⟨if_neg hfull, if_neg hfull⟩
    obtain ⟨v, ds, hI, hk⟩ := h
    obtain ⟨k0, -, k2, -, A0, c0, rfl, k4, k5⟩ := hI.cells
    have hdl : d.row.length = ds.length := by rw [← hk, List.length_map]
    rw [hdl] at hrn hcc
    have hql := hI.row.lt
    have hO : Hid (∀ w2, Below w.heap.size w w2 → w2.ownsRow 0 66 4 (.slice A0 ds.length c0) ds.length (fl DP.cs ds)) := Lib.hid fun w2 hB => (hI.below hB).own
    have hfar : Hid (∀ w2 w9, Below w.heap.size w w2 → w2.grownBy w9 (Value.slice A0 ds.length c0).ownBlock → w9.cell? ⟨q, 0, none⟩ = some (.slice A0 ds.length c0) ∧ w9.frozen? ⟨q, 0, none⟩ = false) := Lib.hid fun w2 w9 hB hg => by
      have h2 := hI.below hB
      have hr : w9.rowIs q 28 2 (cQ (.slice A0 ds.length c0) d.lost) := h2.row.of_block (hg.block q h2.row.lt (fun e => row_apart h2.row h2.own (by decide) e.symm))
      exact ⟨hr.cell (i := 0) (by omega), hr.frozen 0⟩
    have hS : Hid (∀ w3 w9 A3 c3 A9 c9, Below w.heap.size w w3 → w3.ownsRow w.heap.size 5 1 (.slice A3 (0 + l.length) c3) (0 + l.length) ([] ++ ub l) → w9.ownsRow 0 66 4 (.slice A9 (ds.length + 1) c9) (ds.length + 1) (fl DP.cs ds ++ [.int .i64 a, .int .i64 b, .slice A3 l.length c3, .bool false]) →
        (w3.alloc (.cells #[.int .i64 a, .int .i64 b, .slice A3 l.length c3, .bool false] 66)).grownBy w9 (Value.slice A0 ds.length c0).ownBlock →
        ((Value.slice A9 (ds.length + 1) c9).ownBlock = (Value.slice A0 ds.length c0).ownBlock ∨ (Value.slice A9 (ds.length + 1) c9).ownBlock = some (w3.alloc (.cells #[.int .i64 a, .int .i64 b, .slice A3 l.length c3, .bool false] 66)).heap.size) →
        DDid col c q (sndDE d a b) (sndD d a b ⟨a, b, l, false⟩) w (.returned (.int .i64 0)) (w9.setCell ⟨q, 0, none⟩ (.slice A9 (ds.length + 1) c9))) := Lib.hid fun w3 w9 A3 c3 A9 c9 hB hr3 hr hg hat => by
      obtain ⟨q1, q2⟩ := hE.out
      refine ⟨by rw [q1]; rfl, ?_⟩
      rw [q2]
      rw [Nat.zero_add, List.nil_append] at hr3
      have hown : Own w3 w.heap.size (.slice A3 l.length c3) l.length l := ⟨rfl, hb.2.2.1, hb.2.1, hr3⟩
      have hBa := trans0 hB (al0 w3 (.cells #[.int .i64 a, .int .i64 b, .slice A3 l.length c3, .bool false] 66))
      have hsz : w3.heap.size ≤ (w3.alloc (.cells #[.int .i64 a, .int .i64 b, .slice A3 l.length c3, .bool false] 66)).heap.size := (al0 _ _).size
      have hapart : ∀ b, (Value.slice A3 l.length c3).ownBlock = some b → some b ≠ (Value.slice A0 ds.length c0).ownBlock := fun b e e2 => by
        have := (own_ge hown e).1
        have := hI.vlt e2.symm
        omega
      refine doc_add hI hk ⟨⟨a, b, l, false⟩, A3, c3⟩ (grown_of hBa hg) hr (fun b e => ?_) (own_blk (own_lo hown) fun b e => ?_) (fun b e => .inl (own_ge hown e).1) hwn hl (by omega)
      · rcases hat with h1 | h1
        · rw [h1] at e; exact .inl e
        · rw [h1] at e; cases e; exact .inr hBa.size
      · exact (hg.block b (Nat.lt_of_lt_of_le (own_ge hown e).2 hsz) (hapart b e)).trans ((al0 w3 _).block b (own_ge hown e).2)
    have hls := Lib.hid (show ds.length + 1 ≤ maxLen by unfold maxLen; omega)
    have hbb : Hid (∀ w2, Below w.heap.size w w2 → Stand w2 A l.length (ub l)) := Lib.hid fun w2 h => stand_bl (hb.below h)
    have hulen := Lib.hid (show (ub l).length = l.length * 1 by rw [ub_len]; omega)
    have hE0 : Hid ((w.drew.alloc (.cells #[] 5)).ownsRow w.heap.size 5 1 (.slice (some ⟨w.heap.size, 0, none⟩) 0 0) 0 []) := Lib.hid (World.ownsRow_made w.drew #[] 0 (Nat.le_refl _) (by decide) rfl)
    have hB0 : Hid (Below w.heap.size w (w.drew.alloc (.cells #[] 5))) := Lib.hid ((below_drew w).alloc (Nat.le_refl _) _)
    clear hI hk hfull hE hdl hb hwn hcc
    generalize ds.length = n at *
    generalize fl DP.cs ds = xs at *
    generalize cnt a b d.row = N at *
    have hl0 : l.length ≤ 100000 := hl
    go_enter Try.func26, Try.ntmps26
    go_wp2_with (first
      | (go_at_call 19; ((with_reducible refine (hri.out).mono ?_); rintro e w' ⟨rfl, rfl⟩))
      | (go_at_call 13; ((with_reducible refine (hle.out).mono ?_); rintro e w' ⟨rfl, rfl⟩)))
    go_region_law (first
      | (refine step_gen rfl (.tmp 32) (.tmp 33) 30 rfl w.heap.size 5 i1 _ 1 1 Try.underlying30 hi1 hy0 hy1 hy2 rfl (by decide) (.slice (some ⟨w.heap.size, 0, none⟩) 0 0) 0 [] (by rfl) hE0.out A l.length cap (ub l) (by rfl) hulen.out (hbb.out _ hB0.out) (ub_one l) (by unfold maxLen; omega) (by omega) (by simp) ?_; intro A3 c3 w3 hr3 hg3 hat3; have hr3' := Lib.hid hr3; have hB3 := Lib.hid (hB0.out.grown hg3 (by simp) (fun k e => by cases e; exact Nat.le_refl _)); have q9 := (hB3.out.cell (p := ⟨q, 0, none⟩) hql).trans k0; have l9 := Nat.lt_of_lt_of_le hql hB3.out.size; clear hr3 hg3 hat3)
      | (refine step_gen rfl (.tmp 29) (.tmp 36) 26 rfl 0 66 i0 _ 4 48 Try.underlying26 hi0 hz0 hz1 hz2 rfl (by decide) _ n xs (by rfl) (hO.out _ (trans0 hB3.out (al0 _ _))) (some ⟨_, 0, none⟩) 1 1 [_, _, _, _] (by rfl) rfl (stand_new _ _ _ _) (by intro u hu; simp only [List.mem_cons, List.not_mem_nil, or_false] at hu; rcases hu with rfl | rfl | rfl | rfl <;> rfl) hls.out (by omega) (Nat.zero_le _) ?_; intro A9 c9 w9 hr9 hg9 hat9; obtain ⟨q2, q3⟩ := hfar.out _ _ (trans0 hB3.out (al0 _ _)) hg9))
    all_goals
      go_wp2
      go_ret
      exact hS.out _ _ _ _ _ _ hB3.out (by have h := hr3'.out; exact h) hr9 hg9 hat9
end
end Go.Proofs.Ytggoaglcffdcnaa.netR
