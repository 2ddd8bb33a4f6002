/- The contracts of Back and Spoil, where they do it. -/
import Derived.Test.YtggoaglcffdcnaaNetG
namespace Go.Proofs.Ytggoaglcffdcnaa.netS
open Go.ChangeShapes Go.WideShapes Go.ChangeAt Go.RowKit Go.Deep
open numM rowA byt numA numB numC netA netB netC netD netE netG

section
variable {col : Nat → Nat} {c : Nat} {w w2 w9 : World} {p : Nat} {vs : Nat → Value} {ms : Nat → List MP} {lost : Nat} {s : Ns} {f t : Int}
/-- A packet that was taken out stands last. -/
theorem net_back (h : NetIs col c w p vs ms lost) {k : Nat} (hk : k < 441) (m : MP) (hg : w.grownBy w9 (vs k).ownBlock) {v' : Value}
    (hrow : w9.ownsRow 0 45 2 v' ((ms k).length + 1) (fl MP.cs (ms k) ++ m.cs)) (hv : ∀ b, v'.ownBlock = some b → (vs k).ownBlock = some b ∨ w.heap.size ≤ b)
    (ho : Own w 0 m.v m.b.length m.b) (hcol : ∀ b, m.v.ownBlock = some b → col b = c ∧ ∀ j, j < 441 → b ∉ blks (ms j)) (hl : m.b.length ≤ 100000) (hn : (ms k).length < 48) :
    Cg (fun b => col b = c) w (w9.setCell ⟨p, k, none⟩ v') ∧ NetIs (recol col w c) c (w9.setCell ⟨p, k, none⟩ v') p (upd vs k v') (upd ms k (ms k ++ [m])) lost := by
  have hkeep : ∀ (x : MP), Own w 0 x.v x.b.length x.b → Own w9 0 x.v x.b.length x.b := fun x hx => own_blk hx fun b e => hg.block b (own_ge hx e).2 (fun e2 => own_apart (h.own k hk) hx.2.2.2 (by decide) e2.symm e)
  refine h.put hk hg (l' := ms k ++ [m]) ?_ hv ?_ ?_ ?_ ?_ ?_
  · rw [fl_app, fl_one, List.length_append]; exact hrow
  · intro x hx
    rcases List.mem_append.1 hx with hx | hx
    · exact hkeep x (h.byt k hk x hx)
    · rw [List.mem_singleton.1 hx]; exact hkeep m ho
  · intro b hb
    rw [blks_app, List.mem_append] at hb
    rcases hb with hb | hb
    · exact h.mine hk hb
    · obtain ⟨h1, h2⟩ := hcol b ((blks_one m).1 hb)
      exact ⟨.inr h1, fun j hj _ => h2 j hj⟩
  · exact nodup_snoc (h.sb k hk) fun b e hb => (hcol b e).2 k hk hb
  · rw [List.length_append]; simp; omega
  · intro x hx
    rcases List.mem_append.1 hx with hx | hx
    · exact h.bl k hk x hx
    · rw [List.mem_singleton.1 hx]; exact hl
def backS (s : Ns) (k i : Nat) : Ns := addS (delS s k i) k (pkt s k i)
theorem at_back {w3 wa : World} (hI : NetIs col c w p vs ms s.lost) (he : ∀ j, j < 441 → (ms j).map MP.pk = s.row j) {k i : Nat} (hk : k < 441) {m : MP} (hm : (ms k)[i]? = some m) (hpk : pkt s k i = (m.b, m.sp)) {e : Ending}
    (hT : Taken col c p vs ms s.lost k i m w e w3) (hB : Below w3.heap.size w3 wa) :
    ∃ A' c', wa.cell? ⟨p, k, none⟩ = some (.slice A' ((ms k).length - 1) c') ∧ p < wa.heap.size ∧ wa.ownsRow 0 45 2 (.slice A' ((ms k).length - 1) c') ((ms k).length - 1) (fl MP.cs ((ms k).eraseIdx i)) ∧
      (∀ wb w9, Below wa.heap.size wa wb → wb.grownBy w9 (Value.slice A' ((ms k).length - 1) c').ownBlock → w9.cell? ⟨p, k, none⟩ = some (.slice A' ((ms k).length - 1) c') ∧ w9.frozen? ⟨p, k, none⟩ = false) ∧
      ∀ wb w9 A9 c9, Below wa.heap.size wa wb → w9.ownsRow 0 45 2 (.slice A9 ((ms k).length - 1 + 1) c9) ((ms k).length - 1 + 1) (fl MP.cs ((ms k).eraseIdx i) ++ m.cs) → wb.grownBy w9 (Value.slice A' ((ms k).length - 1) c').ownBlock →
        ((Value.slice A9 ((ms k).length - 1 + 1) c9).ownBlock = (Value.slice A' ((ms k).length - 1) c').ownBlock ∨ (Value.slice A9 ((ms k).length - 1 + 1) c9).ownBlock = some wb.heap.size) →
        Did col c p 0 (backS s k i) w (.returned (.int .i64 (0 : Nat))) (w9.setCell ⟨p, k, none⟩ (.slice A9 ((ms k).length - 1 + 1) c9)) := by
  obtain ⟨-, q1, ⟨v', q2⟩, q3⟩ := hT
  have hi := (List.getElem?_eq_some_iff.1 hm).1
  have hle := hI.le k hk
  have hbl := hI.bl k hk m (List.mem_of_getElem? hm)
  have hg0 := fun b e => gone hI hk hm (b := b) e
  have hl3 : (upd ms k ((ms k).eraseIdx i) k).length = (ms k).length - 1 := by rw [upd_same, List.length_eraseIdx, if_pos hi]
  obtain ⟨k1, k2, A', c', k3, k4, k5⟩ := q2.cell hk
  rw [upd_same] at k1 k3
  rw [hl3] at k3
  subst k3
  have ha := q2.below hB
  have ho := ha.own k hk
  rw [hl3, upd_same, upd_same] at ho
  refine ⟨A', c', (hB.cell (p := ⟨p, k, none⟩) q2.row.lt).trans k1, ha.row.lt, ho, fun wb w9 hb hg => ?_, fun wb w9 A9 c9 hb hr hg hat => ?_⟩
  · have h2 := ha.below hb
    have hr : w9.rowIs p 64 442 _ := h2.row.of_block (hg.block p h2.row.lt (fun e => row_apart h2.row (h2.own k hk) (by decide) (by rw [upd_same]; exact e.symm)))
    refine ⟨?_, hr.frozen k⟩
    rw [hr.cell (i := k) (by omega)]
    unfold cN; rw [if_neg (by omega), upd_same]
  · have hb3 := trans0 hB hb
    have hg3 : w3.grownBy w9 (Value.slice A' ((ms k).length - 1) c').ownBlock := grown_of hb3 hg
    obtain ⟨r1, r2⟩ := net_back q2 hk m (by rw [upd_same]; exact hg3) (v' := .slice A9 ((ms k).length - 1 + 1) c9) (by rw [hl3, upd_same]; exact hr) (fun b e => by
        rw [upd_same]
        rcases hat with h1 | h1
        · rw [h1] at e; exact .inl e
        · rw [h1] at e; cases e; exact .inr hb3.size) q3 (fun b e => by
        obtain ⟨h1, h2, h3⟩ := hg0 b e
        exact ⟨(rec_ext col w c b h2).trans h1, h3⟩) hbl (by rw [hl3]; omega)
    refine ⟨rfl, q1.trans r1 (fun b hb e => by rwa [rec_ext col w c b hb] at e), _, _, r2.recolor fun b hb e => ?_, fun j hj => ?_⟩
    · by_cases h1 : b < w.heap.size
      · have h2 : b < w3.heap.size := Nat.lt_of_lt_of_le h1 q1.size
        rw [rec_ext (recol col w c) w3 c b h2] at e
        exact e
      · exact rec_new (by omega)
    · rw [map_upd (map_del he hk i) k _ j hj, upd_same, List.map_append]
      have h3 := map_del he hk i k hk
      rw [upd_same] at h3
      rw [h3]
      show _ = upd _ k _ j
      rw [hpk]; rfl
set_option maxRecDepth 100000 in
set_option maxHeartbeats 1000000 in
theorem back_ok (i : Nat) (w : World) (h : NetAt col c w p s) (hw : IsWay f t) (hi : i < (s.row (wn f t)).length) :
    Calls Try.prog 22 #[.pointer (some ⟨p, 0, none⟩), .int .i64 f, .int .i64 t, .int .i64 i] w (Did col c p 0 (backS s (wn f t) i) w) := by
  have hwi := Lib.hid (with_ok i _ h hw hi)
  have hk := wn_lt hw
  generalize wn f t = k at *
  obtain ⟨vs, ms, m, hI, he, hm, hpk, -⟩ := at_open h hk hi
  obtain ⟨i0, hi0, hz0, hz1, hz2⟩ := info_parts infoP
  have hto := Lib.hid (takeOut_is hI hk hm)
  have hle := hI.le k hk
  have hS := Lib.hid (fun w3 e (hT : Taken col c p vs ms s.lost k i m w e w3) => at_back hI he hk hm hpk hT (al0 w3 (.cells #[.slice m.A m.b.length m.c, .bool m.sp] 45)))
  have hls := Lib.hid (show (ms k).length - 1 + 1 ≤ maxLen by unfold maxLen; omega)
  clear hI h hm hi he hpk
  generalize hn : (ms k).length - 1 = n at *
  have hn48 : n ≤ 48 := by omega
  clear hn hle
  go_enter Try.func22, Try.ntmps22
  go_wp2_with (first
    | (go_at_call 35; ((with_reducible refine (hwi.out).mono ?_); rintro e w' ⟨rfl, rfl⟩))
    | (go_at_call 39; ((with_reducible refine (hto.out).mono ?_); rintro e w3 hT; obtain rfl := hT.1; obtain ⟨A', c', z0, zl, zo, zf, zd⟩ := hS.out _ _ hT; have zo' := Lib.hid zo; have zf' := Lib.hid zf; have zd' := Lib.hid zd; clear hT zo zf zd)))
  have hb2 := World.rowIs_alloc w3 #[.slice m.A m.b.length m.c, .bool m.sp] 45 (fun i => if i = 0 then .slice m.A m.b.length m.c else .bool m.sp) (fun i hi => by
    have : i = 0 ∨ i = 1 := by simp at hi; omega
    rcases this with rfl | rfl <;> rfl)
  have y0 := hb2.cell (i := 0) (by simp)
  have y1 := hb2.cell (i := 1) (by simp)
  clear hb2 hS hto hwi
  generalize w3.alloc (.cells #[.slice m.A m.b.length m.c, .bool m.sp] 45) = wa at *
  simp only [if_true] at y0
  rw [if_neg (by decide)] at y1
  have y2 := World.block_lt_of_cell? _ _ y0
  generalize w3.heap.size = b3 at *
  go_region_law (refine step_gen rfl (.tmp 29) (.tmp 31) 60 rfl 0 45 i0 _ 2 32 Try.underlying60 hi0 hz0 hz1 hz2 rfl (by decide) _ n _ (by rfl) (World.ownsRow.alloc zo'.out _) (some ⟨_, 0, none⟩) 1 1 [_, _] (by rfl) rfl (stand_new _ _ _ _) (by intro u hu; simp only [List.mem_cons, List.not_mem_nil, or_false] at hu; rcases hu with rfl | rfl <;> rfl) hls.out (by omega) (Nat.zero_le _) ?_; intro A9 c9 w9 hr9 hg9 hat9; obtain ⟨q2, q3⟩ := zf'.out _ _ (al0 _ _) (undrewG hg9))
  all_goals
    go_wp2
    go_ret
    exact zd'.out _ _ _ _ (al0 _ _) hr9 (undrewG hg9) hat9

/-! ### Spoil -/
def turned (l : List Nat) (a y : Nat) : List Nat := l.set a (nth l a ^^^ y)
def spE (x : List Nat × Bool) (a mask : Int) : Nat := if a < 0 ∨ (x.1.length : Int) ≤ a ∨ mask = 0 then 1 else if x.2 = true then 8 else 0
def setS (s : Ns) (k i : Nat) (x : List Nat × Bool) : Ns := ⟨upd s.row k ((s.row k).set i x), s.lost⟩
def spS (s : Ns) (k i : Nat) (a mask : Int) : Ns := if spE (pkt s k i) a mask = 0 then setS s k i (turned (pkt s k i).1 a.toNat mask.toNat, true) else s
theorem blks_set {ls : List MP} {i : Nat} {m m' : MP} (hm : ls[i]? = some m) (e : m'.v.ownBlock = m.v.ownBlock) : blks (ls.set i m') = blks ls := by
  have hi := (List.getElem?_eq_some_iff.1 hm).1
  have h0 := (List.getElem?_eq_some_iff.1 hm).2
  have e1 : ls = ls.take i ++ (m :: ls.drop (i + 1)) := by rw [← h0, ← List.drop_eq_getElem_cons hi, List.take_append_drop]
  have e2 : ls.set i m' = ls.take i ++ (m' :: ls.drop (i + 1)) := by rw [List.set_eq_take_append_cons_drop, if_pos hi]
  rw [e2]
  conv => rhs; rw [e1]
  rw [blks_app, blks_app]
  congr 1
  unfold blks
  rw [List.filterMap_cons, List.filterMap_cons, e]
theorem fl_set (ls : List MP) {i : Nat} {m m' : MP} (hm : ls[i]? = some m) (hv : m'.v = m.v) : fl MP.cs (ls.set i m') = (fl MP.cs ls).set (i * 2 + 1) (.bool m'.sp) := by
  have hi := (List.getElem?_eq_some_iff.1 hm).1
  have h0 := (List.getElem?_eq_some_iff.1 hm).2
  have e1 : ls = ls.take i ++ (m :: ls.drop (i + 1)) := by rw [← h0, ← List.drop_eq_getElem_cons hi, List.take_append_drop]
  have e2 : ls.set i m' = ls.take i ++ (m' :: ls.drop (i + 1)) := by rw [List.set_eq_take_append_cons_drop, if_pos hi]
  have e3 : (fl MP.cs (ls.take i)).length = i * 2 := by rw [fl_len MP.cs_len, List.length_take, Nat.min_eq_left (by omega)]
  rw [e2]
  conv => rhs; rw [e1]
  rw [fl_app, fl_app, List.set_append_right _ _ (by omega), e3, show i * 2 + 1 - i * 2 = 1 by omega]
  rw [fl_cons, fl_cons]
  have h4 : m'.cs = [m.v, .bool m'.sp] := by rw [← hv]; rfl
  have h5 : m.cs = [m.v, .bool m.sp] := rfl
  rw [h4, h5]; rfl
theorem ub_set (l : List Nat) (a y : Nat) : ub (l.set a y) = (ub l).set a (.int .u8 y) := by unfold ub; rw [List.map_set]
/-- A byte of a packet is another one. -/
theorem net_spoil (h : NetIs col c w p vs ms lost) {k i : Nat} (hk : k < 441) {m : MP} (hm : (ms k)[i]? = some m) {g cp : Nat} (hv : vs k = .slice (some ⟨g, 0, none⟩) (ms k).length cp) {gb : Nat} (hA : m.A = some ⟨gb, 0, none⟩) (a y : Nat) (hy : y < 256) :
    Cg (fun b => col b = c) w ((w.setCell ⟨gb, a, none⟩ (.int .u8 y)).setCell ⟨g, i * 2 + 1, none⟩ (.bool true)) ∧
    NetIs col c ((w.setCell ⟨gb, a, none⟩ (.int .u8 y)).setCell ⟨g, i * 2 + 1, none⟩ (.bool true)) p vs (upd ms k ((ms k).set i ⟨m.b.set a y, true, m.A, m.c⟩)) lost := by
  have hi := (List.getElem?_eq_some_iff.1 hm).1
  have hmem := List.mem_of_getElem? hm
  have hgo : (vs k).ownBlock = some g := by rw [hv]; rfl
  have hgb : m.v.ownBlock = some gb := by show (Value.slice m.A _ _).ownBlock = _; rw [hA]; rfl
  have hgg : g ≠ gb := fun e => own_apart (h.own k hk) (h.byt k hk m hmem).2.2.2 (by decide) hgo (by rw [hgb, e])
  have hc1 := h.cv k hk g hgo
  have hc2 := h.cb k hk m hmem gb hgb
  have hset : ∀ b, b ≠ g → b ≠ gb → ((w.setCell ⟨gb, a, none⟩ (.int .u8 y)).setCell ⟨g, i * 2 + 1, none⟩ (.bool true)).heap[b]? = w.heap[b]? := fun b h1 h2 =>
    (Below.heap_setCell _ ⟨g, i * 2 + 1, none⟩ _ b h1).trans (Below.heap_setCell _ ⟨gb, a, none⟩ _ b h2)
  have hbl : ∀ j, blks (upd ms k ((ms k).set i ⟨m.b.set a y, true, m.A, m.c⟩) j) = blks (ms j) := fun j => by
    by_cases e : j = k
    · subst e
      rw [upd_same]
      exact blks_set hm (by show (Value.slice m.A _ _).ownBlock = (Value.slice m.A _ _).ownBlock; rw [hA]; rfl)
    · rw [upd_other _ _ e]
  have hother : ∀ j, j < 441 → ∀ x ∈ ms j, x.v.ownBlock ≠ some gb → Own ((w.setCell ⟨gb, a, none⟩ (.int .u8 y)).setCell ⟨g, i * 2 + 1, none⟩ (.bool true)) 0 x.v x.b.length x.b := fun j hj x hx hne =>
    own_blk (h.byt j hj x hx) fun b e => hset b (fun e2 => own_apart (h.own k hk) (h.byt j hj x hx).2.2.2 (by decide) hgo (by rw [e, e2])) (fun e2 => hne (by rw [e, e2]))
  have hnew : Own ((w.setCell ⟨gb, a, none⟩ (.int .u8 y)).setCell ⟨g, i * 2 + 1, none⟩ (.bool true)) 0 (.slice m.A (m.b.set a y).length m.c) (m.b.set a y).length (m.b.set a y) := by
    have ho := h.byt k hk m hmem
    obtain ⟨o1, o2, o3, o4⟩ := ho
    rw [List.length_set]
    refine own_blk (w := w.setCell ⟨gb, a, none⟩ (.int .u8 y)) ⟨by rw [List.length_set], fun x hx => ?_, o3, ?_⟩ fun b e => Below.heap_setCell _ ⟨g, i * 2 + 1, none⟩ _ b (fun e2 => ?_)
    · rcases List.mem_or_eq_of_mem_set hx with hx | rfl
      · exact o2 x hx
      · exact hy
    · rw [ub_set]
      have o5 : w.ownsRow 0 5 1 (.slice (some ⟨gb, 0, none⟩) m.b.length m.c) m.b.length (ub m.b) := by rw [← hA]; exact o4
      rw [hA]
      exact (o5.stored a (.int .u8 y)).1
    · rw [hA] at e
      cases e
      exact hgg e2.symm
  have hlen : ((ms k).set i ⟨m.b.set a y, true, m.A, m.c⟩).length = (ms k).length := List.length_set ..
  refine ⟨((Cg.refl _ _).setCell hc2 _).setCell hc1 _, ?_⟩
  exact
    { row := h.row.of_block (hset p (fun e => row_apart h.row (h.own k hk) (by decide) (by rw [hgo, e])) (fun e => row_apart h.row (h.byt k hk m hmem).2.2.2 (by decide) (by rw [hgb, e])))
      own := fun j hj => by
        by_cases e : j = k
        · subst e
          rw [upd_same, hlen, fl_set (ms j) hm (by show Value.slice m.A (m.b.set a y).length m.c = Value.slice m.A m.b.length m.c; rw [List.length_set])]
          have o1 : (w.setCell ⟨gb, a, none⟩ (.int .u8 y)).ownsRow 0 45 2 (vs j) (ms j).length (fl MP.cs (ms j)) := own_block (h.own j hj) fun b e => Below.heap_setCell _ ⟨gb, a, none⟩ _ b (fun e2 => by rw [hgo] at e; cases e; exact hgg e2)
          rw [hv] at o1 ⊢
          exact (o1.stored (i * 2 + 1) (.bool true)).1
        · rw [upd_other _ _ e]
          exact own_block (h.own j hj) fun b eb => hset b (fun e2 => h.sv k j hk hj (Ne.symm e) g hgo (by rw [eb, e2])) (fun e2 => own_apart (h.own j hj) (h.byt k hk m hmem).2.2.2 (by decide) eb (by rw [hgb, e2]))
      byt := fun j hj x hx => by
        by_cases e : j = k
        · subst e
          rw [upd_same] at hx
          obtain ⟨q, hq, hxq⟩ := List.getElem_of_mem hx
          rw [List.getElem_set] at hxq
          by_cases e2 : i = q
          · rw [if_pos e2] at hxq
            subst hxq
            exact hnew
          · rw [if_neg e2] at hxq
            have hq2 : q < (ms j).length := by rw [List.length_set] at hq; exact hq
            have hx2 : (ms j)[q]? = some x := by rw [List.getElem?_eq_getElem hq2, hxq]
            refine hother j hj x (List.mem_of_getElem? hx2) fun e3 => ?_
            have hg := (gone h hj hm hgb).2.2 j hj
            rw [upd_same, erase_eq _ hi] at hg
            refine hg (mem_blks.2 ⟨x, ?_, e3⟩)
            rw [List.mem_append]
            rcases Nat.lt_or_gt_of_ne e2 with h1 | h1
            · right
              refine List.mem_of_getElem? (i := q - (i + 1)) ?_
              rw [List.getElem?_drop, show i + 1 + (q - (i + 1)) = q by omega]; exact hx2
            · left
              refine List.mem_of_getElem? (i := q) ?_
              rw [List.getElem?_take_of_lt h1]; exact hx2
        · rw [upd_other _ _ e] at hx
          exact hother j hj x hx fun e3 => h.sk k j hk hj (Ne.symm e) gb (mem_blks.2 ⟨m, hmem, hgb⟩) (mem_blks.2 ⟨x, hx, e3⟩)
      cp := h.cp
      cv := h.cv
      cb := fun j hj x hx b e => by
        have hb : b ∈ blks (ms j) := by rw [← hbl j]; exact mem_blks.2 ⟨x, hx, e⟩
        obtain ⟨x', hx', e'⟩ := mem_blks.1 hb
        exact h.cb j hj x' hx' b e'
      sv := h.sv
      sb := fun j hj => by rw [hbl]; exact h.sb j hj
      sk := fun i' j hi' hj hne b hb => by rw [hbl] at hb ⊢; exact h.sk i' j hi' hj hne b hb
      le := fun j hj => by
        by_cases e : j = k
        · subst e; rw [upd_same, hlen]; exact h.le j hj
        · rw [upd_other _ _ e]; exact h.le j hj
      bl := fun j hj x hx => by
        by_cases e : j = k
        · subst e
          rw [upd_same] at hx
          rcases List.mem_or_eq_of_mem_set hx with hx | rfl
          · exact h.bl j hj x hx
          · show (m.b.set a y).length ≤ _
            rw [List.length_set]; exact h.bl j hj m hmem
        · rw [upd_other _ _ e] at hx; exact h.bl j hj x hx }
end
end Go.Proofs.Ytggoaglcffdcnaa.netS
