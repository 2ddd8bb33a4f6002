/- The program's reader of messages by version 2. (gennew.py) -/
import Derived.Test.YtkbhmeajgmecoaaWirDg
import Derived.Deep.CutRange
namespace Go.Proofs.Ytkbhmeajgmecoaa.wirDh
open Go.ChangeShapes Go.WideShapes Go.ChangeAt Go.RowKit Go.Deep
open numM rowA byt numA numB numC numN numD numE wirM wirA wirL wirP wirQ wirR wirDa wirDb wirDc wirDd wirDe wirDf wirDg

/-! ### A message in a block of the call's own -/
structure MB (W : World) (mb : Nat) (m : Ms) (t : At) : Prop where
  row : W.rowIs mb 28 14 (fun i => (cm m t).getD i undef)
  vers : vRow (mb + 1) W (.slice t.va m.vers.length t.vc) m.vers
  vec : nRow (mb + 1) W (.slice t.na m.vec.length t.nc) m.vec
theorem own_low {W : World} {base base' size n : Nat} {e : TypeId} {v : Value} {xs : List Value} (h : W.ownsRow base e size v n xs) (hb : base' ≤ base) : W.ownsRow base' e size v n xs := by
  refine ⟨h.1, ?_⟩
  rcases h.2 with h | ⟨g, cap, cur, h1, h2, h3⟩
  · exact .inl h
  · exact .inr ⟨g, cap, cur, h1, by omega, h3⟩
section
variable {W W' : World} {mb u : Nat} {m m' : Ms} {t : At}
theorem MB.gr (h : MB W mb m t) (hg : Gr u W W') (hu : u < mb) : MB W' mb m t := ⟨row_gr h.row hg (by omega), own_gr h.vers hg (by omega), own_gr h.vec hg (by omega)⟩
theorem own_mb {n sz : Nat} {T : TypeId} {v : Value} {xs : List Value} (h : W.ownsRow (mb + 1) T sz v n xs) (j : Nat) (x : Value) : (W.setCell ⟨mb, j, none⟩ x).ownsRow (mb + 1) T sz v n xs := by
  have hlt := h.lt
  exact own_put h (fun e => by have := (hlt mb e).1; omega) x
theorem MB.set (h : MB W mb m t) {j : Nat} (hj : j < 14) (x : Value) (hc : (cm m t).setIfInBounds j x = cm m' t) (h1 : m'.vers = m.vers) (h2 : m'.vec = m.vec) : MB (W.setCell ⟨mb, j, none⟩ x) mb m' t := by
  refine ⟨?_, by rw [h1]; exact own_mb h.vers j x, by rw [h2]; exact own_mb h.vec j x⟩
  have := row_set h.row rfl hj x
  rw [hc] at this
  exact this
theorem MB.setVers (h : MB W mb m t) {A : Option Addr} {c : Nat} {xs : List Vr} (hv : vRow (mb + 1) W (.slice A xs.length c) xs) : MB (W.setCell ⟨mb, 6, none⟩ (.slice A xs.length c)) mb { m with vers := xs } { t with va := A, vc := c } := by
  have hr := row_set h.row rfl (show 6 < 14 by omega) (.slice A xs.length c)
  exact ⟨hr, own_mb hv 6 _, own_mb h.vec 6 _⟩
theorem MB.setVec (h : MB W mb m t) {A : Option Addr} {c : Nat} {xs : List Nat} (hv : nRow (mb + 1) W (.slice A xs.length c) xs) : MB (W.setCell ⟨mb, 7, none⟩ (.slice A xs.length c)) mb { m with vec := xs } { t with na := A, nc := c } := by
  have hr := row_set h.row rfl (show 7 < 14 by omega) (.slice A xs.length c)
  exact ⟨hr, own_mb h.vers 7 _, own_mb hv 7 _⟩
def put6 (W : World) (mb : Nat) (c : Cm) : World :=
  (((((W.setCell ⟨mb, 8, none⟩ (.int .i64 c.kind)).setCell ⟨mb, 9, none⟩ (.int .i64 c.dc)).setCell ⟨mb, 10, none⟩ (.int .i64 c.shard)).setCell ⟨mb, 11, none⟩ (.int .i64 c.node)).setCell ⟨mb, 12, none⟩ (.int .i64 c.mode)).setCell ⟨mb, 13, none⟩ (.string c.key)
theorem MB.setCmd (h : MB W mb m t) (c : Cm) : MB (put6 W mb c) mb { m with cmd := c } t := by
  unfold put6
  have h1 := h.set (m' := { m with cmd := { m.cmd with kind := c.kind } }) (j := 8) (by omega) (.int .i64 c.kind) rfl rfl rfl
  have h2 := h1.set (m' := { m with cmd := { m.cmd with kind := c.kind, dc := c.dc } }) (j := 9) (by omega) (.int .i64 c.dc) rfl rfl rfl
  have h3 := h2.set (m' := { m with cmd := { m.cmd with kind := c.kind, dc := c.dc, shard := c.shard } }) (j := 10) (by omega) (.int .i64 c.shard) rfl rfl rfl
  have h4 := h3.set (m' := { m with cmd := { m.cmd with kind := c.kind, dc := c.dc, shard := c.shard, node := c.node } }) (j := 11) (by omega) (.int .i64 c.node) rfl rfl rfl
  have h5 := h4.set (m' := { m with cmd := { m.cmd with kind := c.kind, dc := c.dc, shard := c.shard, node := c.node, mode := c.mode } }) (j := 12) (by omega) (.int .i64 c.mode) rfl rfl rfl
  exact h5.set (m' := { m with cmd := c }) (j := 13) (by omega) (.string c.key) rfl rfl rfl
end
/-- the cells of a message's nought -/
abbrev mz : Array Value := #[.int .i64 0, .int .u64 0, .int .u64 0, .int .u64 0, .string ⟨#[]⟩, .string ⟨#[]⟩, .slice none 0 0, .slice none 0 0, .int .i64 0, .int .i64 0, .int .i64 0, .int .i64 0, .int .i64 0, .string ⟨#[]⟩]
def T0 : At := ⟨none, 0, none, 0⟩
/-- what a reader of messages keeps -/
structure MI (w : World) (u rb mb : Nat) (wx : World) (m : Ms) (t : At) (l : List Nat) : Prop where
  mm : MB wx mb m t
  rr : wx.rowIs rb 28 14 (fun i => mz.getD i undef)
  uu : UAt wx u l
  gg : Gr u w wx
section
variable {w wx w' : World} {u rb mb : Nat} {m m' : Ms} {t t' : At} {l l' : List Nat}
/-- Something was read. -/
theorem MI.read (h : MI w u rb mb wx m t l) (hu : u < mb) (hb : u < rb) (hU : UAt w' u l') (hg : Gr u wx w') : MI w u rb mb w' m t l' := ⟨h.mm.gr hg hu, row_gr h.rr hg (by omega), hU, h.gg.trans hg⟩
/-- A cell of it is laid down. -/
theorem MI.put (h : MI w u rb mb wx m t l) (hu : u < mb) (hr : rb ≠ mb) (hw : w.heap.size ≤ mb) {j : Nat} {x : Value} (hm : MB (wx.setCell ⟨mb, j, none⟩ x) mb m' t') : MI w u rb mb (wx.setCell ⟨mb, j, none⟩ x) m' t' l :=
  ⟨hm, row_put (p := ⟨mb, j, none⟩) h.rr hr x, h.uu.put (p := ⟨mb, j, none⟩) hu x, h.gg.put (p := ⟨mb, j, none⟩) hw x⟩
theorem MI.cmd (h : MI w u rb mb wx m t l) (hu : u < mb) (hr : rb ≠ mb) (hw : w.heap.size ≤ mb) (c : Cm) : MI w u rb mb (put6 wx mb c) { m with cmd := c } t l := by
  refine ⟨h.mm.setCmd c, ?_, ?_, ?_⟩
  · unfold put6
    exact row_put (p := ⟨mb, 13, none⟩) (row_put (p := ⟨mb, 12, none⟩) (row_put (p := ⟨mb, 11, none⟩) (row_put (p := ⟨mb, 10, none⟩) (row_put (p := ⟨mb, 9, none⟩) (row_put (p := ⟨mb, 8, none⟩) h.rr hr _) hr _) hr _) hr _) hr _) hr _
  · unfold put6
    exact (((((h.uu.put (p := ⟨mb, 8, none⟩) hu _).put (p := ⟨mb, 9, none⟩) hu _).put (p := ⟨mb, 10, none⟩) hu _).put (p := ⟨mb, 11, none⟩) hu _).put (p := ⟨mb, 12, none⟩) hu _).put (p := ⟨mb, 13, none⟩) hu _
  · unfold put6
    exact (((((h.gg.put (p := ⟨mb, 8, none⟩) hw _).put (p := ⟨mb, 9, none⟩) hw _).put (p := ⟨mb, 10, none⟩) hw _).put (p := ⟨mb, 11, none⟩) hw _).put (p := ⟨mb, 12, none⟩) hw _).put (p := ⟨mb, 13, none⟩) hw _
theorem MI.cell (h : MI w u rb mb wx m t l) (j : Nat) (hj : j < 14) : wx.cell? ⟨mb, j, none⟩ = some ((cm m t).getD j undef) := h.mm.row.cell (i := j) hj
theorem MI.froz (h : MI w u rb mb wx m t l) (j : Nat) : wx.frozen? ⟨mb, j, none⟩ = false := h.mm.row.frozen j
theorem MI.rcell (h : MI w u rb mb wx m t l) (j : Nat) (hj : j < 14) : wx.cell? ⟨rb, j, none⟩ = some (mz.getD j undef) := h.rr.cell (i := j) hj
theorem MI.rfroz (h : MI w u rb mb wx m t l) (j : Nat) : wx.frozen? ⟨rb, j, none⟩ = false := h.rr.frozen j
end
/-- What a reader of messages answers. -/
def RdM (u : Nat) (w : World) (r : Except Nat (Ms × List Nat)) (e : Ending) (w' : World) : Prop :=
  match r with
  | .ok (m, l) => ∃ t, e = .returned (.agg (cm m t)) ∧ vRow w.heap.size w' (.slice t.va m.vers.length t.vc) m.vers ∧ nRow w.heap.size w' (.slice t.na m.vec.length t.nc) m.vec ∧ UAt w' u l ∧ Gr u w w'
  | .error k => e = .panicked (NM k) ∧ Gr u w w'
theorem rdm_err {u : Nat} {w w' : World} {r : Except Nat (Ms × List Nat)} {k : Nat} (h : r = .error k) (hg : Gr u w w') : RdM u w r (.panicked (NM k)) w' := by subst h; exact ⟨rfl, hg⟩
theorem rdm_ok {u : Nat} {w w' : World} {r : Except Nat (Ms × List Nat)} {m : Ms} {t : At} {l : List Nat} (h : r = .ok (m, l)) (hv : vRow w.heap.size w' (.slice t.va m.vers.length t.vc) m.vers) (hn : nRow w.heap.size w' (.slice t.na m.vec.length t.nc) m.vec) (hU : UAt w' u l) (hg : Gr u w w') : RdM u w r (.returned (.agg (cm m t))) w' := by subst h; exact ⟨t, rfl, hv, hn, hU, hg⟩
/-- all fourteen cells of the result are laid down -/
def put14 (W : World) (b : Nat) (cs : Array Value) : Nat → World
  | 0 => W
  | j + 1 => (put14 W b cs j).setCell ⟨b, j, none⟩ (cs.getD j undef)
theorem MI.done {w wx : World} {u rb mb : Nat} {m : Ms} {t : At} {l : List Nat} (h : MI w u rb mb wx m t l) (hu : u < rb) (hr : rb < mb) (hw : w.heap.size ≤ rb) (cs : Array Value) : ∀ j, vRow w.heap.size (put14 wx rb cs j) (.slice t.va m.vers.length t.vc) m.vers ∧ nRow w.heap.size (put14 wx rb cs j) (.slice t.na m.vec.length t.nc) m.vec ∧ UAt (put14 wx rb cs j) u l ∧ Gr u w (put14 wx rb cs j) ∧ vRow (mb + 1) (put14 wx rb cs j) (.slice t.va m.vers.length t.vc) m.vers ∧ nRow (mb + 1) (put14 wx rb cs j) (.slice t.na m.vec.length t.nc) m.vec
  | 0 => ⟨own_low h.mm.vers (by omega), own_low h.mm.vec (by omega), h.uu, h.gg, h.mm.vers, h.mm.vec⟩
  | j + 1 => by
    obtain ⟨a1, a2, a3, a4, a5, a6⟩ := h.done hu hr hw cs j
    have l5 := a5.lt
    have l6 := a6.lt
    have b5 := own_put (p := ⟨rb, j, none⟩) a5 (fun e => by have := (l5 _ e).1; simp at this; omega) (cs.getD j undef)
    have b6 := own_put (p := ⟨rb, j, none⟩) a6 (fun e => by have := (l6 _ e).1; simp at this; omega) (cs.getD j undef)
    exact ⟨own_low b5 (by omega), own_low b6 (by omega), a3.put (p := ⟨rb, j, none⟩) hu _, a4.put (p := ⟨rb, j, none⟩) hw _, b5, b6⟩
/-! ### The parts of version 2, plainly -/
section
variable (kind : Int) (b : Nat) (id n ts : Nat) (lo hi : ByteArray) (vers : List Vr) (vec : List Nat)
def nr8 : R Ms := (rOpt (bit b 7) rCC Cm.nought).seq fun cmd => R.ret ⟨kind, id, n, ts, lo, hi, vers, vec, cmd⟩
def nr7 : R Ms := (rOpt (bit b 6) (rList (rCN 32) (fun _ => 0) (fun _ => rShort)) []).seq fun vec => nr8 kind b id n ts lo hi vers vec
def nr6 : R Ms := (rOpt (bit b 5) (rList (rCN 4096) Vr.ts rVer2) []).seq fun vers => nr7 kind b id n ts lo hi vers
def nr5 : R Ms := (rOpt (bit b 4) (rTN 16) wirR.mt).seq fun hi => nr6 kind b id n ts lo hi
def nr4 : R Ms := (rOpt (bit b 3) (rTN 16) wirR.mt).seq fun lo => nr5 kind b id n ts lo
def nr3 : R Ms := (rOpt (bit b 2) rNN 0).seq fun ts => nr4 kind b id n ts
def nr2 : R Ms := (rOpt (bit b 1) rNN 0).seq fun n => nr3 kind b id n
def nr1 : R Ms := (rOpt (bit b 0) rNN 0).seq fun id => nr2 kind b id
end
theorem newer_eq : rNewer = rKind.seq fun kind => (rWide 1).seq fun b => nr1 kind b := rfl
theorem opt_no {α : Type} {b : Bool} {r : R α} {z : α} {l : List Nat} (h : b = false) : rOpt b r z l = .ok (z, l) := by subst h; rfl
theorem opt_yes {α : Type} {b : Bool} {r : R α} {z : α} {l : List Nat} (h : b = true) : rOpt b r z l = r l := by subst h; rfl

theorem and_0 : ∀ b, b < 256 → ((bits .and .u64 ((b : Nat) : Int) 1) != 0) = bit b 0 := by decide +kernel
theorem and_1 : ∀ b, b < 256 → ((bits .and .u64 ((b : Nat) : Int) 2) != 0) = bit b 1 := by decide +kernel
theorem and_2 : ∀ b, b < 256 → ((bits .and .u64 ((b : Nat) : Int) 4) != 0) = bit b 2 := by decide +kernel
theorem and_3 : ∀ b, b < 256 → ((bits .and .u64 ((b : Nat) : Int) 8) != 0) = bit b 3 := by decide +kernel
theorem and_4 : ∀ b, b < 256 → ((bits .and .u64 ((b : Nat) : Int) 16) != 0) = bit b 4 := by decide +kernel
theorem and_5 : ∀ b, b < 256 → ((bits .and .u64 ((b : Nat) : Int) 32) != 0) = bit b 5 := by decide +kernel
theorem and_6 : ∀ b, b < 256 → ((bits .and .u64 ((b : Nat) : Int) 64) != 0) = bit b 6 := by decide +kernel
theorem and_7 : ∀ b, b < 256 → ((bits .and .u64 ((b : Nat) : Int) 128) != 0) = bit b 7 := by decide +kernel

set_option maxRecDepth 100000 in
set_option maxHeartbeats 4000000 in
theorem rnewer_any {u : Nat} {l : List Nat} (w : World) (h : UAt w u l) : Calls Try.prog 38 #[.pointer (some ⟨u, 0, none⟩)] w (RdM u w (rNewer l)) := by
  have hul := h.lt
  rw [newer_eq]
  have hρ : Hid ((rKind.seq fun kind => (rWide 1).seq fun b => nr1 kind b) l = (rKind.seq fun kind => (rWide 1).seq fun b => nr1 kind b) l) := Lib.hid rfl
  generalize hρ0 : (rKind.seq fun kind => (rWide 1).seq fun b => nr1 kind b) l = ρ at hρ ⊢
  replace hρ : Hid (ρ = (rKind.seq fun kind => (rWide 1).seq fun b => nr1 kind b) l) := Lib.hid hρ0.symm
  clear hρ0
  have hU0 := Lib.hid (h.alloc (.cells mz 28))
  have hG0 := Lib.hid ((Gr.refl u w).alloc (.cells mz 28))
  have hr0 := Lib.hid (row_new w mz 28)
  clear h
  go_enter Try.func38, Try.ntmps38
  go_wp2_with (fail)
  generalize hrb : w.heap.size = rb at *
  replace hrb := Lib.hid hrb
  generalize w.alloc (.cells mz 28) = W0 at *
  refine (kind_any W0 hU0.out).mono ?_
  rintro e w1 hh
  rcases hq : rKind l with k | ⟨kind, t1⟩
  · rw [hq] at hh
    obtain ⟨rfl, hg⟩ := hh
    exact ⟨rfl, rdm_err (hρ.out.trans (seq_err hq)) (hG0.out.trans hg)⟩
  rw [hq] at hh
  obtain ⟨rfl, hU1, hg1⟩ := hh
  replace hρ := Lib.hid (hρ.out.trans (seq_ok hq))
  have hr1 := row_gr hr0.out hg1 (show rb ≠ u by omega)
  have hrlt := hr1.lt
  unfold vI
  have hMI : Hid (MI w u rb w1.heap.size (w1.alloc (.cells #[.int .i64 kind, .int .u64 0, .int .u64 0, .int .u64 0, .string ⟨#[]⟩, .string ⟨#[]⟩, .slice none 0 0, .slice none 0 0, .int .i64 0, .int .i64 0, .int .i64 0, .int .i64 0, .int .i64 0, .string ⟨#[]⟩] 28)) ⟨kind, 0, 0, 0, wirR.mt, wirR.mt, [], [], Cm.nought⟩ T0 t1) := Lib.hid
    ⟨⟨row_new w1 (cm ⟨kind, 0, 0, 0, wirR.mt, wirR.mt, [], [], Cm.nought⟩ T0) 28, World.ownsRow_nil _ _ _ 6, World.ownsRow_nil _ _ _ 1⟩, hr1.of_block (Below.heap_alloc _ _ _ hrlt), hU1.alloc _, (hG0.out.trans hg1).alloc _⟩
  have hmw : Hid (w.heap.size ≤ w1.heap.size) := Lib.hid (hG0.out.trans hg1).size
  clear hq hU1 hg1 hU0 hG0 hr0 hr1
  go_wp2_with (fail)
  generalize w1.alloc (.cells #[.int .i64 kind, .int .u64 0, .int .u64 0, .int .u64 0, .string ⟨#[]⟩, .string ⟨#[]⟩, .slice none 0 0, .slice none 0 0, .int .i64 0, .int .i64 0, .int .i64 0, .int .i64 0, .int .i64 0, .string ⟨#[]⟩] 28) = W1 at *
  have hmb : u < w1.heap.size := by omega
  have hrm : rb < w1.heap.size := hrlt
  clear hrlt
  generalize hmbe : w1.heap.size = mb at *
  clear hmbe
  refine (wide_any 1 _ hMI.out.uu (by omega) (by omega)).mono ?_
  rintro e w2 hh
  rcases hq : rWide 1 t1 with k | ⟨b, t2⟩
  · rw [hq] at hh
    obtain ⟨rfl, hg⟩ := hh
    exact ⟨rfl, rdm_err (hρ.out.trans (seq_err hq)) (hMI.out.gg.trans hg)⟩
  rw [hq] at hh
  obtain ⟨rfl, hU, hg⟩ := hh
  have hb := wide1_lt hMI.out.uu.lt256 hq
  replace hρ := Lib.hid (hρ.out.trans (seq_ok hq))
  replace hMI := Lib.hid (hMI.out.read hmb hul hU hg)
  unfold vU
  clear hq hU hg

  have a0 := and_0 b hb
  obtain ⟨y0, hy0⟩ : ∃ y, bit b 0 = y := ⟨_, rfl⟩
  rw [hy0] at a0
  replace hy0 := Lib.hid hy0
  have a1 := and_1 b hb
  obtain ⟨y1, hy1⟩ : ∃ y, bit b 1 = y := ⟨_, rfl⟩
  rw [hy1] at a1
  replace hy1 := Lib.hid hy1
  have a2 := and_2 b hb
  obtain ⟨y2, hy2⟩ : ∃ y, bit b 2 = y := ⟨_, rfl⟩
  rw [hy2] at a2
  replace hy2 := Lib.hid hy2
  have a3 := and_3 b hb
  obtain ⟨y3, hy3⟩ : ∃ y, bit b 3 = y := ⟨_, rfl⟩
  rw [hy3] at a3
  replace hy3 := Lib.hid hy3
  have a4 := and_4 b hb
  obtain ⟨y4, hy4⟩ : ∃ y, bit b 4 = y := ⟨_, rfl⟩
  rw [hy4] at a4
  replace hy4 := Lib.hid hy4
  have a5 := and_5 b hb
  obtain ⟨y5, hy5⟩ : ∃ y, bit b 5 = y := ⟨_, rfl⟩
  rw [hy5] at a5
  replace hy5 := Lib.hid hy5
  have a6 := and_6 b hb
  obtain ⟨y6, hy6⟩ : ∃ y, bit b 6 = y := ⟨_, rfl⟩
  rw [hy6] at a6
  replace hy6 := Lib.hid hy6
  have a7 := and_7 b hb
  obtain ⟨y7, hy7⟩ : ∃ y, bit b 7 = y := ⟨_, rfl⟩
  rw [hy7] at a7
  replace hy7 := Lib.hid hy7
  clear hb
  go_upto_if 12 with fail
  go_cut [12] from 13 to 15 (fun v wx => Hid (∃ x t', ρ = nr2 kind b  x t' ∧ MI w u rb mb wx ⟨kind, x, 0, 0, wirR.mt, wirR.mt, [], [], Cm.nought⟩ T0 t'))
  case first =>
    cases y0
    case false =>
      have hX := Lib.hid (hρ.out.trans (seq_ok (opt_no hy0.out)))
      clear hρ
      go_wp2
      go_meet
      exact Lib.hid ⟨0, _, hX.out, hMI.out⟩
    case true =>
      go_wp2_with (fail)
      refine (nn_any _ hMI.out.uu).mono ?_
      rintro e w3 hh
      rcases hq : (rNN) t2 with k | ⟨x, t'⟩
      · rw [hq] at hh
        obtain ⟨rfl, hg⟩ := hh
        exact ⟨rfl, rdm_err (hρ.out.trans (seq_err ((opt_yes hy0.out).trans hq))) (hMI.out.gg.trans hg)⟩
      rw [hq] at hh
      obtain ⟨rfl, hU, hg⟩ := hh
      have hM2 := hMI.out.read hmb hul hU hg
      have q : w3.cell? ⟨mb, 1, none⟩ = some (.int .u64 0) := hM2.cell 1 (by omega)
      have qf := hM2.froz 1
      have hX := Lib.hid (hρ.out.trans (seq_ok ((opt_yes hy0.out).trans hq)))
      have hM3 := Lib.hid (hM2.put hmb (show rb ≠ mb by omega) (by rw [hrb.out]; omega) (hM2.mm.set (m' := ⟨kind, x, 0, 0, wirR.mt, wirR.mt, [], [], Cm.nought⟩) (j := 1) (by omega) (.int .u64 x) rfl rfl rfl))
      clear hM2 hU hg hq hρ hMI
      unfold vU
      go_wp2
      go_meet
      exact Lib.hid ⟨_, _, hX.out, hM3.out⟩
  case rest =>
  obtain ⟨x0, t3, hρ1, hM1⟩ := hcut.out
  replace hρ := Lib.hid hρ1
  replace hMI := Lib.hid hM1
  clear hcut hρ1 hM1 hy0 a0
  go_upto_if 18 with fail
  go_cut [18] from 19 to 21 (fun v wx => Hid (∃ x t', ρ = nr3 kind b x0 x t' ∧ MI w u rb mb wx ⟨kind, x0, x, 0, wirR.mt, wirR.mt, [], [], Cm.nought⟩ T0 t'))
  case first =>
    cases y1
    case false =>
      have hX := Lib.hid (hρ.out.trans (seq_ok (opt_no hy1.out)))
      clear hρ
      go_wp2
      go_meet
      exact Lib.hid ⟨0, _, hX.out, hMI.out⟩
    case true =>
      go_wp2_with (fail)
      refine (nn_any _ hMI.out.uu).mono ?_
      rintro e w3 hh
      rcases hq : (rNN) t3 with k | ⟨x, t'⟩
      · rw [hq] at hh
        obtain ⟨rfl, hg⟩ := hh
        exact ⟨rfl, rdm_err (hρ.out.trans (seq_err ((opt_yes hy1.out).trans hq))) (hMI.out.gg.trans hg)⟩
      rw [hq] at hh
      obtain ⟨rfl, hU, hg⟩ := hh
      have hM2 := hMI.out.read hmb hul hU hg
      have q : w3.cell? ⟨mb, 2, none⟩ = some (.int .u64 0) := hM2.cell 2 (by omega)
      have qf := hM2.froz 2
      have hX := Lib.hid (hρ.out.trans (seq_ok ((opt_yes hy1.out).trans hq)))
      have hM3 := Lib.hid (hM2.put hmb (show rb ≠ mb by omega) (by rw [hrb.out]; omega) (hM2.mm.set (m' := ⟨kind, x0, x, 0, wirR.mt, wirR.mt, [], [], Cm.nought⟩) (j := 2) (by omega) (.int .u64 x) rfl rfl rfl))
      clear hM2 hU hg hq hρ hMI
      unfold vU
      go_wp2
      go_meet
      exact Lib.hid ⟨_, _, hX.out, hM3.out⟩
  case rest =>
  obtain ⟨x1, t4, hρ1, hM1⟩ := hcut.out
  replace hρ := Lib.hid hρ1
  replace hMI := Lib.hid hM1
  clear hcut hρ1 hM1 hy1 a1
  go_upto_if 24 with fail
  go_cut [24] from 25 to 27 (fun v wx => Hid (∃ x t', ρ = nr4 kind b x0 x1 x t' ∧ MI w u rb mb wx ⟨kind, x0, x1, x, wirR.mt, wirR.mt, [], [], Cm.nought⟩ T0 t'))
  case first =>
    cases y2
    case false =>
      have hX := Lib.hid (hρ.out.trans (seq_ok (opt_no hy2.out)))
      clear hρ
      go_wp2
      go_meet
      exact Lib.hid ⟨0, _, hX.out, hMI.out⟩
    case true =>
      go_wp2_with (fail)
      refine (nn_any _ hMI.out.uu).mono ?_
      rintro e w3 hh
      rcases hq : (rNN) t4 with k | ⟨x, t'⟩
      · rw [hq] at hh
        obtain ⟨rfl, hg⟩ := hh
        exact ⟨rfl, rdm_err (hρ.out.trans (seq_err ((opt_yes hy2.out).trans hq))) (hMI.out.gg.trans hg)⟩
      rw [hq] at hh
      obtain ⟨rfl, hU, hg⟩ := hh
      have hM2 := hMI.out.read hmb hul hU hg
      have q : w3.cell? ⟨mb, 3, none⟩ = some (.int .u64 0) := hM2.cell 3 (by omega)
      have qf := hM2.froz 3
      have hX := Lib.hid (hρ.out.trans (seq_ok ((opt_yes hy2.out).trans hq)))
      have hM3 := Lib.hid (hM2.put hmb (show rb ≠ mb by omega) (by rw [hrb.out]; omega) (hM2.mm.set (m' := ⟨kind, x0, x1, x, wirR.mt, wirR.mt, [], [], Cm.nought⟩) (j := 3) (by omega) (.int .u64 x) rfl rfl rfl))
      clear hM2 hU hg hq hρ hMI
      unfold vU
      go_wp2
      go_meet
      exact Lib.hid ⟨_, _, hX.out, hM3.out⟩
  case rest =>
  obtain ⟨x2, t5, hρ1, hM1⟩ := hcut.out
  replace hρ := Lib.hid hρ1
  replace hMI := Lib.hid hM1
  clear hcut hρ1 hM1 hy2 a2
  go_upto_if 30 with fail
  go_cut [30] from 31 to 33 (fun v wx => Hid (∃ x t', ρ = nr5 kind b x0 x1 x2 x t' ∧ MI w u rb mb wx ⟨kind, x0, x1, x2, x, wirR.mt, [], [], Cm.nought⟩ T0 t'))
  case first =>
    cases y3
    case false =>
      have hX := Lib.hid (hρ.out.trans (seq_ok (opt_no hy3.out)))
      clear hρ
      go_wp2
      go_meet
      exact Lib.hid ⟨wirR.mt, _, hX.out, hMI.out⟩
    case true =>
      go_wp2_with (fail)
      refine (tn_any _ hMI.out.uu).mono ?_
      rintro e w3 hh
      rcases hq : (rTN 16) t5 with k | ⟨x, t'⟩
      · rw [hq] at hh
        obtain ⟨rfl, hg⟩ := hh
        exact ⟨rfl, rdm_err (hρ.out.trans (seq_err ((opt_yes hy3.out).trans hq))) (hMI.out.gg.trans hg)⟩
      rw [hq] at hh
      obtain ⟨rfl, hU, hg⟩ := hh
      have hM2 := hMI.out.read hmb hul hU hg
      have q : w3.cell? ⟨mb, 4, none⟩ = some (.string ⟨#[]⟩) := hM2.cell 4 (by omega)
      have qf := hM2.froz 4
      have hX := Lib.hid (hρ.out.trans (seq_ok ((opt_yes hy3.out).trans hq)))
      have hM3 := Lib.hid (hM2.put hmb (show rb ≠ mb by omega) (by rw [hrb.out]; omega) (hM2.mm.set (m' := ⟨kind, x0, x1, x2, x, wirR.mt, [], [], Cm.nought⟩) (j := 4) (by omega) (.string x) rfl rfl rfl))
      clear hM2 hU hg hq hρ hMI
      unfold vS
      go_wp2
      go_meet
      exact Lib.hid ⟨_, _, hX.out, hM3.out⟩
  case rest =>
  obtain ⟨x3, t6, hρ1, hM1⟩ := hcut.out
  replace hρ := Lib.hid hρ1
  replace hMI := Lib.hid hM1
  clear hcut hρ1 hM1 hy3 a3
  go_upto_if 36 with fail
  go_cut [36] from 37 to 39 (fun v wx => Hid (∃ x t', ρ = nr6 kind b x0 x1 x2 x3 x t' ∧ MI w u rb mb wx ⟨kind, x0, x1, x2, x3, x, [], [], Cm.nought⟩ T0 t'))
  case first =>
    cases y4
    case false =>
      have hX := Lib.hid (hρ.out.trans (seq_ok (opt_no hy4.out)))
      clear hρ
      go_wp2
      go_meet
      exact Lib.hid ⟨wirR.mt, _, hX.out, hMI.out⟩
    case true =>
      go_wp2_with (fail)
      refine (tn_any _ hMI.out.uu).mono ?_
      rintro e w3 hh
      rcases hq : (rTN 16) t6 with k | ⟨x, t'⟩
      · rw [hq] at hh
        obtain ⟨rfl, hg⟩ := hh
        exact ⟨rfl, rdm_err (hρ.out.trans (seq_err ((opt_yes hy4.out).trans hq))) (hMI.out.gg.trans hg)⟩
      rw [hq] at hh
      obtain ⟨rfl, hU, hg⟩ := hh
      have hM2 := hMI.out.read hmb hul hU hg
      have q : w3.cell? ⟨mb, 5, none⟩ = some (.string ⟨#[]⟩) := hM2.cell 5 (by omega)
      have qf := hM2.froz 5
      have hX := Lib.hid (hρ.out.trans (seq_ok ((opt_yes hy4.out).trans hq)))
      have hM3 := Lib.hid (hM2.put hmb (show rb ≠ mb by omega) (by rw [hrb.out]; omega) (hM2.mm.set (m' := ⟨kind, x0, x1, x2, x3, x, [], [], Cm.nought⟩) (j := 5) (by omega) (.string x) rfl rfl rfl))
      clear hM2 hU hg hq hρ hMI
      unfold vS
      go_wp2
      go_meet
      exact Lib.hid ⟨_, _, hX.out, hM3.out⟩
  case rest =>
  obtain ⟨x4, t7, hρ1, hM1⟩ := hcut.out
  replace hρ := Lib.hid hρ1
  replace hMI := Lib.hid hM1
  clear hcut hρ1 hM1 hy4 a4
  go_upto_if 42 with fail
  go_cut [42] from 43 to 45 (fun v wx => Hid (∃ x A c t', ρ = nr7 kind b x0 x1 x2 x3 x4 x t' ∧ MI w u rb mb wx ⟨kind, x0, x1, x2, x3, x4, x, [], Cm.nought⟩ ⟨A, c, none, 0⟩ t'))
  case first =>
    cases y5
    case false =>
      have hX := Lib.hid (hρ.out.trans (seq_ok (opt_no hy5.out)))
      clear hρ
      go_wp2
      go_meet
      exact Lib.hid ⟨[], none, 0, _, hX.out, hMI.out⟩
    case true =>
      go_wp2_with (fail)
      refine (nvers_any _ hMI.out.uu).mono ?_
      rintro e w3 hh
      rcases hq : (rList (rCN 4096) Vr.ts rVer2) t7 with k | ⟨x, t'⟩
      · rw [hq] at hh
        obtain ⟨rfl, hg⟩ := hh
        exact ⟨rfl, rdm_err (hρ.out.trans (seq_err ((opt_yes hy5.out).trans hq))) (hMI.out.gg.trans hg)⟩
      rw [hq] at hh
      obtain ⟨v, rfl, hv, hU, hg⟩ := hh
      have hlo := hMI.out.mm.row.lt
      obtain ⟨A, c, rfl, -, -⟩ := own_form hv
      have hv2 := own_low hv (show mb + 1 ≤ _ from hlo)
      have hM2 := hMI.out.read hmb hul hU hg
      have q : w3.cell? ⟨mb, 6, none⟩ = some (.slice none 0 0) := hM2.cell 6 (by omega)
      have qf := hM2.froz 6
      have hX := Lib.hid (hρ.out.trans (seq_ok ((opt_yes hy5.out).trans hq)))
      have hM3 := Lib.hid (hM2.put hmb (show rb ≠ mb by omega) (by rw [hrb.out]; omega) (hM2.mm.setVers hv2))
      clear hM2 hU hg hq hρ hMI hv hv2
      go_wp2
      go_meet
      exact Lib.hid ⟨_, _, _, _, hX.out, hM3.out⟩
  case rest =>
  obtain ⟨x5, A5, c5, t8, hρ1, hM1⟩ := hcut.out
  replace hρ := Lib.hid hρ1
  replace hMI := Lib.hid hM1
  clear hcut hρ1 hM1 hy5 a5
  go_upto_if 48 with fail
  go_cut [48] from 49 to 51 (fun v wx => Hid (∃ x A c t', ρ = nr8 kind b x0 x1 x2 x3 x4 x5 x t' ∧ MI w u rb mb wx ⟨kind, x0, x1, x2, x3, x4, x5, x, Cm.nought⟩ ⟨A5, c5, A, c⟩ t'))
  case first =>
    cases y6
    case false =>
      have hX := Lib.hid (hρ.out.trans (seq_ok (opt_no hy6.out)))
      clear hρ
      go_wp2
      go_meet
      exact Lib.hid ⟨[], none, 0, _, hX.out, hMI.out⟩
    case true =>
      go_wp2_with (fail)
      refine (nvec_any _ hMI.out.uu).mono ?_
      rintro e w3 hh
      rcases hq : (rList (rCN 32) (fun _ => 0) (fun _ => rShort)) t8 with k | ⟨x, t'⟩
      · rw [hq] at hh
        obtain ⟨rfl, hg⟩ := hh
        exact ⟨rfl, rdm_err (hρ.out.trans (seq_err ((opt_yes hy6.out).trans hq))) (hMI.out.gg.trans hg)⟩
      rw [hq] at hh
      obtain ⟨v, rfl, hv, hU, hg⟩ := hh
      have hlo := hMI.out.mm.row.lt
      obtain ⟨A, c, rfl, -, -⟩ := own_form hv
      have hv2 := own_low hv (show mb + 1 ≤ _ from hlo)
      have hM2 := hMI.out.read hmb hul hU hg
      have q : w3.cell? ⟨mb, 7, none⟩ = some (.slice none 0 0) := hM2.cell 7 (by omega)
      have qf := hM2.froz 7
      have hX := Lib.hid (hρ.out.trans (seq_ok ((opt_yes hy6.out).trans hq)))
      have hM3 := Lib.hid (hM2.put hmb (show rb ≠ mb by omega) (by rw [hrb.out]; omega) (hM2.mm.setVec hv2))
      clear hM2 hU hg hq hρ hMI hv hv2
      go_wp2
      go_meet
      exact Lib.hid ⟨_, _, _, _, hX.out, hM3.out⟩
  case rest =>
  obtain ⟨x6, A6, c6, t9, hρ1, hM1⟩ := hcut.out
  replace hρ := Lib.hid hρ1
  replace hMI := Lib.hid hM1
  clear hcut hρ1 hM1 hy6 a6
  go_upto_if 54 with fail
  go_cut [54] from 55 to 57 (fun v wx => Hid (∃ x t', ρ = R.ret ⟨kind, x0, x1, x2, x3, x4, x5, x6, x⟩ t' ∧ MI w u rb mb wx ⟨kind, x0, x1, x2, x3, x4, x5, x6, x⟩ ⟨A5, c5, A6, c6⟩ t'))
  case first =>
    cases y7
    case false =>
      have hX := Lib.hid (hρ.out.trans (seq_ok (opt_no hy7.out)))
      clear hρ
      go_wp2
      go_meet
      exact Lib.hid ⟨Cm.nought, _, hX.out, hMI.out⟩
    case true =>
      go_wp2_with (fail)
      refine (ncmd_any _ hMI.out.uu).mono ?_
      rintro e w3 hh
      rcases hq : (rCC) t9 with k | ⟨x, t'⟩
      · rw [hq] at hh
        obtain ⟨rfl, hg⟩ := hh
        exact ⟨rfl, rdm_err (hρ.out.trans (seq_err ((opt_yes hy7.out).trans hq))) (hMI.out.gg.trans hg)⟩
      rw [hq] at hh
      obtain ⟨rfl, hU, hg⟩ := hh
      have hM2 := hMI.out.read hmb hul hU hg
      have q0 : w3.cell? ⟨mb, 8, none⟩ = some (.int .i64 0) := hM2.cell 8 (by omega)
      have qf0 := hM2.froz 8
      have q1 : w3.cell? ⟨mb, 9, none⟩ = some (.int .i64 0) := hM2.cell 9 (by omega)
      have qf1 := hM2.froz 9
      have q2 : w3.cell? ⟨mb, 10, none⟩ = some (.int .i64 0) := hM2.cell 10 (by omega)
      have qf2 := hM2.froz 10
      have q3 : w3.cell? ⟨mb, 11, none⟩ = some (.int .i64 0) := hM2.cell 11 (by omega)
      have qf3 := hM2.froz 11
      have q4 : w3.cell? ⟨mb, 12, none⟩ = some (.int .i64 0) := hM2.cell 12 (by omega)
      have qf4 := hM2.froz 12
      have q5 : w3.cell? ⟨mb, 13, none⟩ = some (.string ⟨#[]⟩) := hM2.cell 13 (by omega)
      have qf5 := hM2.froz 13
      have hX := Lib.hid (hρ.out.trans (seq_ok ((opt_yes hy7.out).trans hq)))
      have hM3 := Lib.hid (hM2.cmd hmb (show rb ≠ mb by omega) (by rw [hrb.out]; omega) x)
      clear hM2 hU hg hq hρ hMI
      unfold vC
      go_wp2
      go_meet
      exact Lib.hid ⟨_, _, hX.out, hM3.out⟩
  case rest =>
  obtain ⟨x7, t10, hρ1, hM1⟩ := hcut.out
  replace hρ := Lib.hid hρ1
  replace hMI := Lib.hid hM1
  clear hcut hρ1 hM1 hy7 a7
  have hD := Lib.hid (hMI.out.done hul hrm (by rw [hrb.out]; omega) (cm ⟨kind, x0, x1, x2, x3, x4, x5, x6, x7⟩ ⟨A5, c5, A6, c6⟩) 14)
  have z0 : wc.cell? ⟨mb, 0, none⟩ = some (.int .i64 kind) := hMI.out.cell 0 (by omega)
  have y0 : wc.cell? ⟨rb, 0, none⟩ = some (.int .i64 0) := hMI.out.rcell 0 (by omega)
  have yf0 := hMI.out.rfroz 0
  have z1 : wc.cell? ⟨mb, 1, none⟩ = some (.int .u64 x0) := hMI.out.cell 1 (by omega)
  have y1 : wc.cell? ⟨rb, 1, none⟩ = some (.int .u64 0) := hMI.out.rcell 1 (by omega)
  have yf1 := hMI.out.rfroz 1
  have z2 : wc.cell? ⟨mb, 2, none⟩ = some (.int .u64 x1) := hMI.out.cell 2 (by omega)
  have y2 : wc.cell? ⟨rb, 2, none⟩ = some (.int .u64 0) := hMI.out.rcell 2 (by omega)
  have yf2 := hMI.out.rfroz 2
  have z3 : wc.cell? ⟨mb, 3, none⟩ = some (.int .u64 x2) := hMI.out.cell 3 (by omega)
  have y3 : wc.cell? ⟨rb, 3, none⟩ = some (.int .u64 0) := hMI.out.rcell 3 (by omega)
  have yf3 := hMI.out.rfroz 3
  have z4 : wc.cell? ⟨mb, 4, none⟩ = some (.string x3) := hMI.out.cell 4 (by omega)
  have y4 : wc.cell? ⟨rb, 4, none⟩ = some (.string ⟨#[]⟩) := hMI.out.rcell 4 (by omega)
  have yf4 := hMI.out.rfroz 4
  have z5 : wc.cell? ⟨mb, 5, none⟩ = some (.string x4) := hMI.out.cell 5 (by omega)
  have y5 : wc.cell? ⟨rb, 5, none⟩ = some (.string ⟨#[]⟩) := hMI.out.rcell 5 (by omega)
  have yf5 := hMI.out.rfroz 5
  have z6 : wc.cell? ⟨mb, 6, none⟩ = some (.slice A5 x5.length c5) := hMI.out.cell 6 (by omega)
  have y6 : wc.cell? ⟨rb, 6, none⟩ = some (.slice none 0 0) := hMI.out.rcell 6 (by omega)
  have yf6 := hMI.out.rfroz 6
  have z7 : wc.cell? ⟨mb, 7, none⟩ = some (.slice A6 x6.length c6) := hMI.out.cell 7 (by omega)
  have y7 : wc.cell? ⟨rb, 7, none⟩ = some (.slice none 0 0) := hMI.out.rcell 7 (by omega)
  have yf7 := hMI.out.rfroz 7
  have z8 : wc.cell? ⟨mb, 8, none⟩ = some (.int .i64 x7.kind) := hMI.out.cell 8 (by omega)
  have y8 : wc.cell? ⟨rb, 8, none⟩ = some (.int .i64 0) := hMI.out.rcell 8 (by omega)
  have yf8 := hMI.out.rfroz 8
  have z9 : wc.cell? ⟨mb, 9, none⟩ = some (.int .i64 x7.dc) := hMI.out.cell 9 (by omega)
  have y9 : wc.cell? ⟨rb, 9, none⟩ = some (.int .i64 0) := hMI.out.rcell 9 (by omega)
  have yf9 := hMI.out.rfroz 9
  have z10 : wc.cell? ⟨mb, 10, none⟩ = some (.int .i64 x7.shard) := hMI.out.cell 10 (by omega)
  have y10 : wc.cell? ⟨rb, 10, none⟩ = some (.int .i64 0) := hMI.out.rcell 10 (by omega)
  have yf10 := hMI.out.rfroz 10
  have z11 : wc.cell? ⟨mb, 11, none⟩ = some (.int .i64 x7.node) := hMI.out.cell 11 (by omega)
  have y11 : wc.cell? ⟨rb, 11, none⟩ = some (.int .i64 0) := hMI.out.rcell 11 (by omega)
  have yf11 := hMI.out.rfroz 11
  have z12 : wc.cell? ⟨mb, 12, none⟩ = some (.int .i64 x7.mode) := hMI.out.cell 12 (by omega)
  have y12 : wc.cell? ⟨rb, 12, none⟩ = some (.int .i64 0) := hMI.out.rcell 12 (by omega)
  have yf12 := hMI.out.rfroz 12
  have z13 : wc.cell? ⟨mb, 13, none⟩ = some (.string x7.key) := hMI.out.cell 13 (by omega)
  have y13 : wc.cell? ⟨rb, 13, none⟩ = some (.string ⟨#[]⟩) := hMI.out.rcell 13 (by omega)
  have yf13 := hMI.out.rfroz 13
  clear hMI
  go_wp2
  refine bodyPost_ret (v := .agg (cm ⟨kind, x0, x1, x2, x3, x4, x5, x6, x7⟩ ⟨A5, c5, A6, c6⟩)) ?_ rfl (rdm_ok hρ.out hD.out.1 hD.out.2.1 hD.out.2.2.1 hD.out.2.2.2.1)
  simp [results, Try.results38, go_sem, y0, y1, y2, y3, y4, y5, y6, y7, y8, y9, y10, y11, y12, y13]
end Go.Proofs.Ytkbhmeajgmecoaa.wirDh
