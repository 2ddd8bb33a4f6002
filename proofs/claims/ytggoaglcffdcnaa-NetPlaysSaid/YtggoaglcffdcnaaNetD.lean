/- The contracts of slices.Delete at packets, of without and of takeOut. -/
import Derived.Test.YtggoaglcffdcnaaNetC
namespace Go.Proofs.Ytggoaglcffdcnaa.netD
open Go.ChangeShapes Go.WideShapes Go.ChangeAt Go.RowKit Go.Deep
open numM rowA byt numA numB numC netA netB netC

/-! ### Rows by index -/
theorem rowIs_setCells {b : Nat} {t : TypeId} {n : Nat} : ∀ (vs : List Value) (o : Nat) (w : World) (f : Nat → Value), w.rowIs b t n f →
    (w.setCells b o vs).rowIs b t n (fun j => if o ≤ j ∧ j < o + vs.length then vs.getD (j - o) undef else f j)
  | [], o, w, f, h => h.congr fun i _ => by rw [if_neg (by simp)]
  | v :: r, o, w, f, h => by
    refine (rowIs_setCells r (o + 1) _ _ (h.set o v)).congr fun i _ => ?_
    by_cases h1 : i = o
    · subst h1
      rw [if_neg (by omega), if_pos rfl, if_pos (by simp)]
      simp
    · by_cases h2 : o ≤ i ∧ i < o + (v :: r).length
      · have h3 : o + 1 ≤ i ∧ i < o + 1 + r.length := by simp at h2; omega
        rw [if_pos h2, if_pos h3]
        obtain ⟨d, rfl⟩ : ∃ d, i = o + 1 + d := ⟨i - (o + 1), by omega⟩
        rw [show o + 1 + d - (o + 1) = d by omega, show o + 1 + d - o = d + 1 by omega]
        simp
      · have h3 : ¬ (o + 1 ≤ i ∧ i < o + 1 + r.length) := by simp at h2 ⊢; omega
        rw [if_neg h2, if_neg h3, if_neg h1]
theorem row_of_own {w : World} {base n cap g sz : Nat} {t : TypeId} {xs : List Value} (h : w.ownsRow base t sz (.slice (some ⟨g, 0, none⟩) n cap) n xs) :
    ∃ f, w.rowIs g t (cap * sz) f ∧ n ≤ cap ∧ cap ≤ maxLen ∧ ∀ i, i < n * sz → xs[i]? = some (f i) := by
  rcases h.2 with ⟨e, _⟩ | ⟨g', cap', cur, e, h1, h2, h3, h4, h5, h6⟩
  · cases e
  · cases e
    have hm : n * sz ≤ cap * sz := Nat.mul_le_mul_right _ h3
    refine ⟨fun i => cur.getD i undef, ⟨cur, h2, h5, fun i hi => ?_⟩, h3, h4, fun i hi => ?_⟩
    · have : i < cur.size := by omega
      simp [this]
    · have : i < cur.size := by omega
      rw [← h6, List.getElem?_take_of_lt hi]
      simp [this]
theorem own_of_row {w : World} {n cap g sz : Nat} {t : TypeId} {xs : List Value} {f : Nat → Value} (h : w.rowIs g t (cap * sz) f) (hn : n ≤ cap) (hm : cap ≤ maxLen) (hl : xs.length = n * sz) (hx : ∀ i, i < n * sz → xs[i]? = some (f i)) :
    w.ownsRow 0 t sz (.slice (some ⟨g, 0, none⟩) n cap) n xs := by
  obtain ⟨cs, h1, h2, h3⟩ := h
  have hm2 : n * sz ≤ cap * sz := Nat.mul_le_mul_right _ hn
  refine ⟨hl, .inr ⟨g, cap, cs, rfl, Nat.zero_le _, h1, hn, hm, h2, ?_⟩⟩
  apply List.ext_getElem?
  intro i
  by_cases hi : i < n * sz
  · rw [List.getElem?_take_of_lt hi, hx i hi, Array.getElem?_toList, h3 i (by omega)]
  · rw [List.getElem?_eq_none (by simp; omega), List.getElem?_eq_none (by omega)]
theorem tape_setCells (g : Nat) : ∀ (vs : List Value) (o : Nat) (w : World), (w.setCells g o vs).tape = w.tape ∧ (w.setCells g o vs).heap.size = w.heap.size
  | [], _, _ => ⟨rfl, rfl⟩
  | v :: r, o, w => by
    have h := tape_setCells g r (o + 1) (w.setCell ⟨g, o, none⟩ v)
    exact ⟨h.1.trans rfl, h.2.trans (World.size_setCell ..)⟩
theorem grown_setCells (w : World) (g o : Nat) (vs : List Value) : w.grownBy (w.setCells g o vs) (some g) :=
  ⟨World.os_setCells w g o vs, (tape_setCells g vs o w).1, World.output_setCells w g o vs, Nat.le_of_eq (tape_setCells g vs o w).2.symm, fun k hk hne => World.heap_setCells_other w g o vs hk (fun e => hne (by rw [e]))⟩
/-- clear of one element of two cells -/
theorem run_clear_two {P : Program} (w : World) (t e ty : TypeId) (z : Value) (x y : Value) (ht : P.underlying t = some (.slice e)) (hv : ∀ w, (zeroValue e).run P w = .ok z w) (hz : z.cells = #[x, y]) (h1 : x.oneCell' = true) (h2 : y.oneCell' = true) (b o c : Nat)
    (hc : ∀ j, j < 2 → (w.cell? ⟨b, o + j, none⟩).isSome = true) (hf : ∀ j, j < 2 → w.frozen? ⟨b, o + j, none⟩ = false) :
    (Builtin.clear_ #[t] ty #[.slice (some ⟨b, o, none⟩) 1 c]).run P w = .ok (.tuple #[]) (w.setCells b o [x, y]) := by
  have hzc : (Builtin.zeroCells z.cells 1).toList = [x, y] := by
    rw [hz]
    simp [Builtin.zeroCells, Array.range]
  have hst := run_storeCells_cells (P := P) b o [x, y] 0 w (by simpa using hc) (by simpa using hf) (by intro v hv'; simp at hv'; rcases hv' with rfl | rfl <;> assumption)
  simp only [Nat.add_zero] at hst
  simp [Builtin.clear_, run_underlying ht, hv, hzc, hst]

/-! ### Delete -/
theorem erase_eq (ms : List MP) {i : Nat} (_ : i < ms.length) : ms.eraseIdx i = ms.take i ++ ms.drop (i + 1) := by rw [List.eraseIdx_eq_take_drop_succ]
/-- What Delete answers. -/
def Deld (g n cap : Nat) (ls : List MP) (w : World) (e : Ending) (w' : World) : Prop :=
  e = .returned (.slice (some ⟨g, 0, none⟩) (n - 1) cap) ∧ w'.ownsRow 0 45 2 (.slice (some ⟨g, 0, none⟩) (n - 1) cap) (n - 1) (fl MP.cs ls) ∧ w.grownBy w' (some g)
set_option maxRecDepth 100000 in
set_option maxHeartbeats 1000000 in
theorem del_any (g n cap i j : Nat) (ms : List MP) (w : World) (h : w.ownsRow 0 45 2 (.slice (some ⟨g, 0, none⟩) n cap) n (fl MP.cs ms)) (hl : ms.length = n) (hi : i < n) (hj : j = i + 1) (hn : n ≤ 48) :
    Calls Try.prog 43 #[.slice (some ⟨g, 0, none⟩) n cap, .int .i64 i, .int .i64 j] w (Deld g n cap (ms.eraseIdx i) w) := by
  obtain ⟨f, hr, hnc, hcm, hx⟩ := row_of_own h
  obtain ⟨i0, hi0, hz0, hz1, hz2⟩ := info_parts infoP
  have hc9 : cap ≤ 9223372036854775807 := hcm
  have hnl : (fl MP.cs (ms.drop j)).length = (n - j) * 2 := by rw [fl_len MP.cs_len, List.length_drop, hl]
  have hnews : ∀ t, t < (n - j) * 2 → (fl MP.cs (ms.drop j))[t]? = some (f (j * 2 + t)) := by
    intro t ht
    rw [fl_drop MP.cs_len, List.getElem?_drop, hx _ (by omega)]
  obtain ⟨A, hA, hsrc⟩ : ∃ A : Addr, (if cap = j then some (⟨g, 0, none⟩ : Addr) else some ⟨g, j * 2, none⟩) = some A ∧ Hid (∀ t u, (fl MP.cs (ms.drop j))[t]? = some u → w.drew.cell? (A.add t) = some u) := by
    by_cases e : cap = j
    · refine ⟨⟨g, 0, none⟩, by simp [e], fun t u hu => ?_⟩
      have := (List.getElem?_eq_some_iff.1 hu).1
      omega
    · refine ⟨⟨g, j * 2, none⟩, by simp [e], fun t u hu => ?_⟩
      have ht := (List.getElem?_eq_some_iff.1 hu).1
      rw [hnews t (by omega)] at hu
      rw [add_plain, ← hu]
      exact hr.cell (i := j * 2 + t) (by omega)
  have s1 : Hid ((fl MP.cs (ms.drop j)).length = (n - j) * 2) := Lib.hid hnl
  have s2 : Hid (∀ u ∈ fl MP.cs (ms.drop j), u.oneCell' = true) := Lib.hid (fl_all MP.cs_one _)
  have s3 : Hid (∀ t, t < (fl MP.cs (ms.drop j)).length → (w.drew.cell? ⟨g, 0 + i * 2 + t, none⟩).isSome = true ∧ w.drew.frozen? ⟨g, 0 + i * 2 + t, none⟩ = false) := by
    intro t ht
    rw [Nat.zero_add]
    have := hr.cell (i := i * 2 + t) (by omega)
    exact ⟨by show (w.cell? _).isSome = true; rw [this]; rfl, hr.frozen _⟩
  obtain ⟨W1, hW1⟩ : ∃ W1, W1 = w.drew.setCells g (0 + i * 2) (fl MP.cs (ms.drop j)) := ⟨_, rfl⟩
  have hr1 : W1.rowIs g 45 (cap * 2) (fun q => if 0 + i * 2 ≤ q ∧ q < 0 + i * 2 + (fl MP.cs (ms.drop j)).length then (fl MP.cs (ms.drop j)).getD (q - (0 + i * 2)) undef else f q) := by rw [hW1]; exact rowIs_setCells _ _ _ _ hr
  have hcl : ∀ ty, (Builtin.clear_ #[60] ty #[.slice (some ⟨g, (n - 1) * 2, none⟩) 1 (cap - (n - 1))]).run Try.prog W1 = .ok (.tuple #[]) (W1.setCells g ((n - 1) * 2) [.slice none 0 0, .bool false]) :=
    fun ty => run_clear_two W1 60 45 ty (.agg #[.slice none 0 0, .bool false]) _ _ Try.underlying60 (fun w => by kernel_rfl) rfl rfl rfl g ((n - 1) * 2) _ (fun t ht => by rw [hr1.cell (i := (n - 1) * 2 + t) (by omega)]; rfl) (fun t ht => hr1.frozen _)
  have hel : (fl MP.cs (ms.eraseIdx i)).length = (n - 1) * 2 := by rw [fl_len MP.cs_len, List.length_eraseIdx, if_pos (by omega), hl]
  have hfin : Hid (Deld g n cap (ms.eraseIdx i) w (.returned (.slice (some ⟨g, 0, none⟩) (n - 1) cap)) (W1.setCells g ((n - 1) * 2) [.slice none 0 0, .bool false])) := by
    refine ⟨rfl, own_of_row (rowIs_setCells _ _ _ _ hr1) (by omega) hcm hel (fun q hq => ?_), ?_⟩
    · rw [if_neg (by omega), erase_eq ms (by omega), fl_app, ← hj]
      by_cases h1 : q < i * 2
      · rw [if_neg (by omega), List.getElem?_append_left (by rw [fl_take MP.cs_len, List.length_take, fl_len MP.cs_len]; omega), fl_take MP.cs_len, List.getElem?_take_of_lt h1, hx q (by omega)]
      · have e1 : (fl MP.cs (ms.take i)).length = i * 2 := by rw [fl_len MP.cs_len, List.length_take, Nat.min_eq_left (by omega)]
        have e2 := hnews (q - i * 2) (by omega)
        rw [if_pos (by omega), List.getElem?_append_right (by omega), e1, Nat.zero_add, e2, List.getD_eq_getElem?_getD, e2]
        rfl
    · have g1 : w.grownBy W1 (some g) := by
        rw [hW1]
        have := grown_setCells w.drew g (0 + i * 2) (fl MP.cs (ms.drop j))
        exact ⟨this.os, this.tape, this.output, this.size, this.block⟩
      exact g1.trans (grown_setCells W1 g _ _)
  have hW : Hid (W1 = w.drew.setCells g (0 + i * 2) (fl MP.cs (ms.drop j))) := Lib.hid hW1
  have hjc : j ≤ cap := by omega
  have hic : i ≤ cap := by omega
  have hij : i < j := by omega
  have hjn : j ≤ n := by omega
  have e8 : i + (n - j) = n - 1 := by omega
  have e9 : n - (n - 1) = 1 := by omega
  clear hW1 hr1 hr hnews hnl hx h hl hcm hel hj
  replace e8 := Lib.hid e8
  go_enter Try.func43, Try.ntmps43
  go_wp2_with fail
  go_region_law (refine step_append_room rfl (.tmp 22) (.tmp 25) 60 rfl 45 i0 2 Try.underlying60 hi0 hz1 g 0 i cap (by simp [Act.eval, Act.put]) A (n - j) (cap - j) (fl MP.cs (ms.drop j)) (by simp [Act.eval, Act.put]) s1.out hsrc.out s2.out (by omega) s3.out ?_; rw [← hW.out, e8.out])
  go_wp2
  go_ret
  exact hfin.out
set_option maxRecDepth 100000 in
theorem without_any (g n cap i : Nat) (ms : List MP) (w : World) (h : w.ownsRow 0 45 2 (.slice (some ⟨g, 0, none⟩) n cap) n (fl MP.cs ms)) (hl : ms.length = n) (hi : i < n) (hn : n ≤ 48) :
    Calls Try.prog 42 #[.slice (some ⟨g, 0, none⟩) n cap, .int .i64 i] w (Deld g n cap (ms.eraseIdx i) w) := by
  have hd := Lib.hid (del_any g n cap i (i + 1) ms w h hl hi rfl hn)
  have e1 := wrap_in ((i : Int) + 1) (by omega) (by omega)
  have e2 : ((i + 1 : Nat) : Int) = (i : Int) + 1 := by omega
  rw [e2] at hd
  clear h hl e1 e2
  go_enter Try.func42, Try.ntmps42
  go_wp2_with (go_at_call 43; ((with_reducible refine (hd.out).mono ?_); rintro e w' ⟨rfl, ho, hg⟩; have ho' := Lib.hid ho; have hg' := Lib.hid hg; clear ho hg))
  go_ret
  exact ⟨rfl, ho'.out, hg'.out⟩

/-! ### takeOut -/
section
variable {col : Nat → Nat} {c : Nat} {w w2 : World} {p : Nat} {vs : Nat → Value} {ms : Nat → List MP} {lost : Nat} {s : Ns}
theorem blks_erase {ls : List MP} (i : Nat) (h : (blks ls).Nodup) : (blks (ls.eraseIdx i)).Nodup ∧ ∀ b ∈ blks (ls.eraseIdx i), b ∈ blks ls := by
  have hs : (ls.eraseIdx i).Sublist ls := List.eraseIdx_sublist ls i
  exact ⟨List.Nodup.sublist (hs.filterMap _) h, fun b hb => (hs.filterMap _).subset hb⟩
/-- what a walk loads of a packet -/
theorem NetIs_at (h : NetIs col c w p vs ms lost) {k i : Nat} (hk : k < 441) {m : MP} (hm : (ms k)[i]? = some m) :
    ∃ g cp, vs k = .slice (some ⟨g, 0, none⟩) (ms k).length cp ∧ g < w.heap.size ∧ (ms k).length ≤ cp ∧ cp ≤ 9223372036854775807 ∧ w.cell? ⟨g, i * 2, none⟩ = some (.slice m.A m.b.length m.c) ∧ w.cell? ⟨g, i * 2 + 1, none⟩ = some (.bool m.sp) ∧ (∀ j, w.frozen? ⟨g, j, none⟩ = false) ∧ g ≠ p ∧ (vs k).ownBlock = some g := by
  have hi := (List.getElem?_eq_some_iff.1 hm).1
  have ho := h.own k hk
  have hap := row_apart h.row ho (by decide)
  have hlt := ho.lt
  rcases ho.2 with ⟨_, e⟩ | ⟨g, cp, cur, e, _, h1, h2, h3, h4, h5⟩
  · omega
  · rw [e] at ho hap
    obtain ⟨F, hr, _, _, hx⟩ := row_of_own ho
    have e0 := hx (i * 2) (by omega)
    have e1 := hx (i * 2 + 1) (by omega)
    have g0 := fl_get (f := MP.cs) MP.cs_len (j := 0) hm (u := .slice m.A m.b.length m.c) rfl
    have g1 := fl_get (f := MP.cs) MP.cs_len (j := 1) hm (u := .bool m.sp) rfl
    rw [Nat.add_zero, e0] at g0
    rw [e1] at g1
    refine ⟨g, cp, e, (hlt g (by rw [e]; rfl)).2, h2, h3, ?_, ?_, fun j => hr.frozen j, fun e2 => hap (by rw [e2]; rfl), by rw [e]; rfl⟩
    · rw [hr.cell (i := i * 2) (by omega)]; exact g0
    · rw [hr.cell (i := i * 2 + 1) (by omega)]; exact g1
/-- A packet is gone. -/
theorem net_del (h : NetIs col c w p vs ms lost) {k i : Nat} (hk : k < 441) {m : MP} (hm : (ms k)[i]? = some m) (hg : w.grownBy w2 (vs k).ownBlock) {v' : Value} (hv : v'.ownBlock = (vs k).ownBlock)
    (ho : w2.ownsRow 0 45 2 v' ((ms k).length - 1) (fl MP.cs ((ms k).eraseIdx i))) :
    Cg (fun b => col b = c) w (w2.setCell ⟨p, k, none⟩ v') ∧ NetIs (recol col w c) c (w2.setCell ⟨p, k, none⟩ v') p (upd vs k v') (upd ms k ((ms k).eraseIdx i)) lost ∧ Own (w2.setCell ⟨p, k, none⟩ v') 0 m.v m.b.length m.b := by
  have hi := (List.getElem?_eq_some_iff.1 hm).1
  have hmem := List.mem_of_getElem? hm
  have hsub : ∀ x ∈ (ms k).eraseIdx i, x ∈ ms k := fun x hx => List.mem_of_mem_eraseIdx hx
  have hkeep : ∀ x ∈ ms k, Own w2 0 x.v x.b.length x.b := fun x hx => own_blk (h.byt k hk x hx) fun b e => hg.block b (h.blt hk hx e) (fun e2 => own_apart (h.own k hk) (h.byt k hk x hx).2.2.2 (by decide) e2.symm e)
  obtain ⟨n1, n2⟩ := blks_erase i (h.sb k hk)
  have hle := h.le k hk
  obtain ⟨h1, h2⟩ := h.put hk hg (l' := (ms k).eraseIdx i) (by rw [List.length_eraseIdx, if_pos hi]; exact ho) (fun b e => .inl (by rw [← hv]; exact e)) (fun x hx => hkeep x (hsub x hx)) (fun b hb => h.mine hk (n2 b hb)) n1
    (by rw [List.length_eraseIdx, if_pos hi]; omega) (fun x hx => h.bl k hk x (hsub x hx))
  refine ⟨h1, h2, own_blk (hkeep m hmem) fun b e => Below.heap_setCell w2 ⟨p, k, none⟩ v' b (fun e2 => ?_)⟩
  have hr : w2.rowIs p 64 442 (cN vs lost) := h.row.of_block (hg.block p h.row.lt (fun e => row_apart h.row (h.own k hk) (by decide) e.symm))
  exact row_apart hr (hkeep m hmem).2.2.2 (by decide) (by rw [e, e2])
def Taken (col : Nat → Nat) (c p : Nat) (vs : Nat → Value) (ms : Nat → List MP) (lost k i : Nat) (m : MP) (w : World) (e : Ending) (w' : World) : Prop :=
  e = .returned (.agg #[.slice m.A m.b.length m.c, .bool m.sp]) ∧ Cg (fun b => col b = c) w w' ∧ (∃ v', NetIs (recol col w c) c w' p (upd vs k v') (upd ms k ((ms k).eraseIdx i)) lost) ∧ Own w' 0 m.v m.b.length m.b
/-- Who is taken out is nobody's any more. -/
theorem gone (h : NetIs col c w p vs ms lost) {k i : Nat} (hk : k < 441) {m : MP} (hm : (ms k)[i]? = some m) {b : Nat} (e : m.v.ownBlock = some b) : col b = c ∧ b < w.heap.size ∧ ∀ j, j < 441 → b ∉ blks (upd ms k ((ms k).eraseIdx i) j) := by
  have hmem := List.mem_of_getElem? hm
  have hi := (List.getElem?_eq_some_iff.1 hm).1
  refine ⟨h.cb k hk m hmem b e, h.blt hk hmem e, fun j hj hb => ?_⟩
  by_cases hj2 : j = k
  · subst hj2
    rw [upd_same, erase_eq _ hi, blks_app, List.mem_append] at hb
    have e0 : ms j = (ms j).take i ++ (m :: (ms j).drop (i + 1)) := by
      have : (ms j)[i] = m := (List.getElem?_eq_some_iff.1 hm).2
      rw [← this, ← List.drop_eq_getElem_cons hi, List.take_append_drop]
    have hn := h.sb j hj
    rw [e0, blks_app, show m :: (ms j).drop (i + 1) = [m] ++ (ms j).drop (i + 1) from rfl, blks_app, List.nodup_append, List.nodup_append] at hn
    obtain ⟨_, ⟨_, _, n3⟩, n4⟩ := hn
    rcases hb with hb | hb
    · exact n4 b hb b (List.mem_append.2 (.inl ((blks_one m).2 e))) rfl
    · exact n3 b ((blks_one m).2 e) b hb rfl
  · rw [upd_other _ _ hj2] at hb
    exact h.sk k j hk hj (Ne.symm hj2) b (mem_blks.2 ⟨m, hmem, e⟩) hb
set_option maxRecDepth 100000 in
set_option maxHeartbeats 1000000 in
theorem takeOut_is (h : NetIs col c w p vs ms lost) {k i : Nat} (hk : k < 441) {m : MP} (hm : (ms k)[i]? = some m) :
    Calls Try.prog 39 #[.pointer (some ⟨p, k, none⟩), .int .i64 i] w (Taken col c p vs ms lost k i m w) := by
  have hi := (List.getElem?_eq_some_iff.1 hm).1
  obtain ⟨g, cp, hv, hglt, hnc, hc9, c0, c1, -, hgp, hgo⟩ := NetIs_at h hk hm
  obtain ⟨k1, k2, -⟩ := h.cell hk
  have hle := h.le k hk
  rw [hv] at k1
  have hplt := h.row.lt
  have hal : Below w.heap.size w ((w.alloc (.cells #[.slice none 0 0, .bool false] 45)).alloc (.cells #[.slice m.A m.b.length m.c, .bool m.sp] 45)) := trans0 (al0 _ _) (al0 _ _)
  have hwo := without_any g (ms k).length cp i (ms k) _ (by have := (h.below hal).own k hk; rw [hv] at this; exact this) rfl hi hle
  have hfar : Hid (∀ w3, ((w.alloc (.cells #[.slice none 0 0, .bool false] 45)).alloc (.cells #[.slice m.A m.b.length m.c, .bool m.sp] 45)).grownBy w3 (some g) →
      w3.cell? ⟨p, k, none⟩ = some (.slice (some ⟨g, 0, none⟩) (ms k).length cp) ∧ w3.frozen? ⟨p, k, none⟩ = false ∧ w3.cell? ⟨w.heap.size + 1, 0, none⟩ = some (.slice m.A m.b.length m.c) ∧ w3.cell? ⟨w.heap.size + 1, 1, none⟩ = some (.bool m.sp) ∧
      w3.cell? ⟨w.heap.size, 0, none⟩ = some (.slice none 0 0) ∧ w3.cell? ⟨w.heap.size, 1, none⟩ = some (.bool false) ∧ w3.frozen? ⟨w.heap.size, 0, none⟩ = false ∧ w3.frozen? ⟨w.heap.size, 1, none⟩ = false ∧ w.heap.size + 1 < w3.heap.size ∧ w.heap.size ≠ p ∧ w.heap.size + 1 ≠ p) := Lib.hid fun w3 hg => by
    have h2 := h.below hal
    obtain ⟨q1, q2, -⟩ := h2.cell hk
    rw [hv] at q1
    have hsz : ((w.alloc (.cells #[.slice none 0 0, .bool false] 45)).alloc (.cells #[.slice m.A m.b.length m.c, .bool m.sp] 45)).heap.size = w.heap.size + 1 + 1 := by simp
    have hz0 : Z2 w.heap.size ((w.alloc (.cells #[.slice none 0 0, .bool false] 45)).alloc (.cells #[.slice m.A m.b.length m.c, .bool m.sp] 45)) := (Z2.new w).below (al0 _ _)
    have hz1 : ((w.alloc (.cells #[.slice none 0 0, .bool false] 45)).alloc (.cells #[.slice m.A m.b.length m.c, .bool m.sp] 45)).rowIs (w.heap.size + 1) 45 2 (fun i => if i = 0 then .slice m.A m.b.length m.c else .bool m.sp) := by
      have h := World.rowIs_alloc (w.alloc (.cells #[.slice none 0 0, .bool false] 45)) #[.slice m.A m.b.length m.c, .bool m.sp] 45 (fun i => if i = 0 then .slice m.A m.b.length m.c else .bool m.sp) (fun i hi => by
        have : i = 0 ∨ i = 1 := by simp at hi; omega
        rcases this with rfl | rfl <;> rfl)
      rw [World.size_alloc] at h; exact h
    have z0 : Z2 w.heap.size w3 := hz0.of_block (hg.block _ (by omega) (fun e => by cases e; omega))
    have z1 := hz1.of_block (hg.block (w.heap.size + 1) (by omega) (fun e => by cases e; omega))
    obtain ⟨a0, a1, a2, a3⟩ := z0.cells
    refine ⟨?_, ?_, z1.cell (i := 0) (by omega), z1.cell (i := 1) (by omega), a0, a1, a2, a3, z1.lt, by omega, by omega⟩
    · rw [World.cell?_of_block (a := ⟨p, k, none⟩) (hg.block p (by omega) (fun e => by cases e; exact hgp rfl))]; exact q1
    · rw [World.frozen?_of_block (a := ⟨p, k, none⟩) (hg.block p (by omega) (fun e => by cases e; exact hgp rfl))]; exact q2
  have hS : Hid (∀ w3, w3.ownsRow 0 45 2 (.slice (some ⟨g, 0, none⟩) ((ms k).length - 1) cp) ((ms k).length - 1) (fl MP.cs ((ms k).eraseIdx i)) →
      ((w.alloc (.cells #[.slice none 0 0, .bool false] 45)).alloc (.cells #[.slice m.A m.b.length m.c, .bool m.sp] 45)).grownBy w3 (some g) →
      Taken col c p vs ms lost k i m w (.returned (.agg #[.slice m.A m.b.length m.c, .bool m.sp])) (((w3.setCell ⟨p, k, none⟩ (.slice (some ⟨g, 0, none⟩) ((ms k).length - 1) cp)).setCell ⟨w.heap.size, 0, none⟩ (.slice m.A m.b.length m.c)).setCell ⟨w.heap.size, 1, none⟩ (.bool m.sp))) := Lib.hid fun w3 ho hg => by
    obtain ⟨q1, q2, q3⟩ := net_del (h.mid hal) hk hm (by rw [hgo]; exact hg) (by rw [hgo]; rfl) ho
    have hM : Cg (fun b => b = w.heap.size) (w3.setCell ⟨p, k, none⟩ (.slice (some ⟨g, 0, none⟩) ((ms k).length - 1) cp)) (((w3.setCell ⟨p, k, none⟩ (.slice (some ⟨g, 0, none⟩) ((ms k).length - 1) cp)).setCell ⟨w.heap.size, 0, none⟩ (.slice m.A m.b.length m.c)).setCell ⟨w.heap.size, 1, none⟩ (.bool m.sp)) :=
      Cg.setCell (M := fun b => b = w.heap.size) (Cg.setCell (M := fun b => b = w.heap.size) (Cg.refl _ _) (p := ⟨w.heap.size, 0, none⟩) rfl _) (p := ⟨w.heap.size, 1, none⟩) rfl _
    have hsz : w.heap.size < ((w.alloc (.cells #[.slice none 0 0, .bool false] 45)).alloc (.cells #[.slice m.A m.b.length m.c, .bool m.sp] 45)).heap.size := by simp; omega
    refine ⟨rfl, (mid_cg hal q1).trans hM (fun b hb e => by omega), ⟨_, mid_back hal.size (q2.other hM (fun b hb hc e => ?_) (Ext.refl _ _))⟩, own_blk q3 fun b e => hM.block b (own_ge q3 e).2 ?_⟩
    · subst e
      rw [rec_ext _ _ _ _ hsz] at hc
      exact mid_ne (Nat.le_refl _) hc
    · have := h.blt hk (List.mem_of_getElem? hm) e
      omega
  replace hwo := Lib.hid hwo
  have hmn : (i : Int) < ((ms k).length : Int) := by omega
  have hm0 : (0 : Int) ≤ (i : Int) := by omega
  clear hal hv h hm
  generalize (ms k).length = n at *
  go_enter Try.func39, Try.ntmps39
  go_wp2_with (go_at_call 42; ((with_reducible refine (hwo.out).mono ?_); rintro e w3 ⟨rfl, ho, hg⟩; obtain ⟨f1, f2, f3, f4, f5, f6, f7, f8, f9, f10, f11⟩ := hfar.out _ hg; have ho' := Lib.hid ho; have hg' := Lib.hid hg; clear ho hg))
  refine bodyPost_ret (v := .agg #[.slice m.A m.b.length m.c, .bool m.sp]) ?_ rfl (hS.out _ ho'.out hg'.out)
  clear f3 f4 f7 f8
  simp [results, Try.results39, go_sem, f5, f6]
end
end Go.Proofs.Ytggoaglcffdcnaa.netD
