/- The document's net in memory; Len and find. -/
import Derived.Test.YtggoaglcffdcnaaNetP
import Derived.Test.YtggoaglcffdcnaaNetL
namespace Go.Proofs.Ytggoaglcffdcnaa.netQ
open Go.ChangeShapes Go.WideShapes Go.ChangeAt Go.RowKit Go.Deep
open numM rowA byt numA numB numC netA netB netC netE netG netS netL netP

structure DP where
  k : Dk
  A : Option Addr
  c : Nat
def DP.v (m : DP) : Value := .slice m.A m.k.b.length m.c
def DP.cs (m : DP) : List Value := [.int .i64 m.k.f, .int .i64 m.k.t, .slice m.A m.k.b.length m.c, .bool m.k.sp]
theorem DP.cs_len (m : DP) : m.cs.length = 4 := rfl
theorem DP.cs_one (m : DP) : ∀ u ∈ m.cs, u.oneCell' = true := by
  intro u hu
  simp only [DP.cs, List.mem_cons, List.not_mem_nil, or_false] at hu
  rcases hu with rfl | rfl | rfl | rfl <;> rfl
def cQ (v : Value) (lost : Nat) (i : Nat) : Value := if i = 0 then v else .int .i64 lost
structure DocIs (col : Nat → Nat) (c : Nat) (w : World) (q : Nat) (v : Value) (ds : List DP) (lost : Nat) : Prop where
  row : w.rowIs q 28 2 (cQ v lost)
  own : w.ownsRow 0 66 4 v ds.length (fl DP.cs ds)
  byt : ∀ m ∈ ds, Own w 0 m.v m.k.b.length m.k.b
  cq : col q = c
  cv : ∀ b, v.ownBlock = some b → col b = c
  cb : ∀ m ∈ ds, ∀ b, m.v.ownBlock = some b → col b = c
  ok : ∀ m ∈ ds, m.k.f ≤ 20 ∧ m.k.t ≤ 20 ∧ m.k.f ≠ m.k.t
  le : ds.length ≤ 100000
  bl : ∀ m ∈ ds, m.k.b.length ≤ 100000
section
variable {col col' : Nat → Nat} {c : Nat} {w w' w2 : World} {q : Nat} {v : Value} {ds : List DP} {lost : Nat} {d : Dn}
theorem DocIs.vlt (h : DocIs col c w q v ds lost) {b : Nat} (e : v.ownBlock = some b) : b < w.heap.size := (h.own.lt b e).2
theorem DocIs.blt (h : DocIs col c w q v ds lost) {m : DP} (hm : m ∈ ds) {b : Nat} (e : m.v.ownBlock = some b) : b < w.heap.size := ((h.byt m hm).2.2.2.lt b e).2
theorem DocIs.recolor (h : DocIs col c w q v ds lost) (he : ∀ k, k < w.heap.size → col k = c → col' k = c) : DocIs col' c w q v ds lost where
  row := h.row
  own := h.own
  byt := h.byt
  cq := he q h.row.lt h.cq
  cv := fun b e => he b (h.vlt e) (h.cv b e)
  cb := fun m hm b e => he b (h.blt hm e) (h.cb m hm b e)
  ok := h.ok
  le := h.le
  bl := h.bl
theorem DocIs.other {M : Nat → Prop} (h : DocIs col c w q v ds lost) (hg : Cg M w w') (hM : ∀ k, k < w.heap.size → col k = c → ¬ M k) (he : Ext w col col') : DocIs col' c w' q v ds lost := by
  have h2 := h.recolor (col' := col') (fun k hk e => (he k hk).trans e)
  exact
    { row := h.row.of_block (hg.block q h.row.lt (hM q h.row.lt h.cq))
      own := own_block h.own fun b e => hg.block b (h.vlt e) (hM b (h.vlt e) (h.cv b e))
      byt := fun m hm => own_blk (h.byt m hm) fun b e => hg.block b (h.blt hm e) (hM b (h.blt hm e) (h.cb m hm b e))
      cq := h2.cq
      cv := h2.cv
      cb := h2.cb
      ok := h.ok
      le := h.le
      bl := h.bl }
theorem DocIs.below (h : DocIs col c w q v ds lost) (hB : Below w.heap.size w w') : DocIs col c w' q v ds lost := h.other (Cg.of_below (fun _ => False) hB) (fun _ _ _ e => e) (Ext.refl _ _)
theorem DocIs.ext (h : DocIs col c w q v ds lost) (he : Ext w col col') : DocIs col' c w q v ds lost := h.other (Cg.refl (fun _ => False) w) (fun _ _ _ e => e) he
theorem DocIs.mid (h : DocIs col c w q v ds lost) (hB : Below w.heap.size w w') : DocIs (mid col w c) c w' q v ds lost := (h.ext (rec_ext col w (c + 1))).below hB
theorem dmid_back {w2 : World} (hs : w.heap.size ≤ w2.heap.size) (h : DocIs (recol (mid col w c) w2 c) c w' q v ds lost) : DocIs (recol col w c) c w' q v ds lost := h.recolor fun k _ e => by
  by_cases h1 : k < w.heap.size
  · rw [rec_ext col w c k h1]
    unfold recol at e
    rw [if_pos (Nat.lt_of_lt_of_le h1 hs)] at e
    unfold netA.mid at e
    rwa [rec_ext col w (c + 1) k h1] at e
  · exact rec_new (by omega)
/-- The row is another one, and is laid into its cell. -/
theorem DocIs.put (h : DocIs col c w q v ds lost) (hg : w.grownBy w2 v.ownBlock) {v' : Value} {ds' : List DP}
    (ho : w2.ownsRow 0 66 4 v' ds'.length (fl DP.cs ds')) (hv : ∀ b, v'.ownBlock = some b → v.ownBlock = some b ∨ w.heap.size ≤ b)
    (hb : ∀ m ∈ ds', Own w2 0 m.v m.k.b.length m.k.b) (hc : ∀ m ∈ ds', ∀ b, m.v.ownBlock = some b → w.heap.size ≤ b ∨ col b = c) (hw : ∀ m ∈ ds', m.k.f ≤ 20 ∧ m.k.t ≤ 20 ∧ m.k.f ≠ m.k.t) (hl : ds'.length ≤ 100000) (hx : ∀ m ∈ ds', m.k.b.length ≤ 100000) :
    Cg (fun b => col b = c) w (w2.setCell ⟨q, 0, none⟩ v') ∧ DocIs (recol col w c) c (w2.setCell ⟨q, 0, none⟩ v') q v' ds' lost := by
  have hqv : v.ownBlock ≠ some q := row_apart h.row h.own (by decide)
  have hr2 : w2.rowIs q 28 2 (cQ v lost) := h.row.of_block (hg.block q h.row.lt (fun e => hqv e.symm))
  have hset : ∀ b, b ≠ q → (w2.setCell ⟨q, 0, none⟩ v').heap[b]? = w2.heap[b]? := fun b hb => Below.heap_setCell w2 ⟨q, 0, none⟩ v' b hb
  have hg1 : Cg (fun b => col b = c) w w2 := (Cg.grown hg).mono fun b _ e => h.cv b e
  refine ⟨hg1.setCell h.cq v', ?_⟩
  exact
    { row := (hr2.set 0 v').congr (fun i hi => by
        unfold cQ
        by_cases h1 : i = 0
        · rw [if_pos h1, if_pos h1]
        · rw [if_neg h1, if_neg h1, if_neg h1])
      own := own_block ho fun b e => hset b (fun e2 => row_apart hr2 ho (by decide) (by rw [e, e2]))
      byt := fun m hm => own_blk (hb m hm) fun b e => hset b (fun e2 => row_apart hr2 (hb m hm).2.2.2 (by decide) (by rw [e, e2]))
      cq := (rec_ext col w c q h.row.lt).trans h.cq
      cv := fun b e => by
        rcases hv b e with h1 | h1
        · exact (rec_ext col w c b (h.vlt h1)).trans (h.cv b h1)
        · exact rec_new h1
      cb := fun m hm b e => by
        by_cases h1 : b < w.heap.size
        · rw [rec_ext col w c b h1]
          rcases hc m hm b e with h2 | h2
          · omega
          · exact h2
        · exact rec_new (by omega)
      ok := hw
      le := hl
      bl := hx }
theorem DocIs.setLost (h : DocIs col c w q v ds lost) (n : Nat) : Cg (fun b => col b = c) w (w.setCell ⟨q, 1, none⟩ (.int .i64 n)) ∧ DocIs col c (w.setCell ⟨q, 1, none⟩ (.int .i64 n)) q v ds n := by
  have hset : ∀ b, b ≠ q → (w.setCell ⟨q, 1, none⟩ (.int .i64 n)).heap[b]? = w.heap[b]? := fun b hb => Below.heap_setCell w ⟨q, 1, none⟩ _ b hb
  refine ⟨(Cg.refl _ _).setCell h.cq _, ?_⟩
  exact
    { row := (h.row.set 1 (.int .i64 n)).congr (fun i hi => by
        have : i = 0 ∨ i = 1 := by omega
        rcases this with rfl | rfl <;> rfl)
      own := own_block h.own fun b e => hset b (fun e2 => row_apart h.row h.own (by decide) (by rw [e, e2]))
      byt := fun m hm => own_blk (h.byt m hm) fun b e => hset b (fun e2 => row_apart h.row (h.byt m hm).2.2.2 (by decide) (by rw [e, e2]))
      cq := h.cq, cv := h.cv, cb := h.cb, ok := h.ok, le := h.le, bl := h.bl }
theorem DocIs.cells (h : DocIs col c w q v ds lost) : w.cell? ⟨q, 0, none⟩ = some v ∧ w.cell? ⟨q, 1, none⟩ = some (.int .i64 lost) ∧ w.frozen? ⟨q, 0, none⟩ = false ∧ w.frozen? ⟨q, 1, none⟩ = false ∧ ∃ A cp, v = .slice A ds.length cp ∧ ds.length ≤ cp ∧ cp ≤ 9223372036854775807 :=
  ⟨h.row.cell (i := 0) (by omega), h.row.cell (i := 1) (by omega), h.row.frozen 0, h.row.frozen 1, own_form h.own⟩
/-- what a walk loads of a packet -/
theorem DocIs.at_ (h : DocIs col c w q v ds lost) {j : Nat} {m : DP} (hm : ds[j]? = some m) :
    ∃ g cp, v = .slice (some ⟨g, 0, none⟩) ds.length cp ∧ g < w.heap.size ∧ w.cell? ⟨g, j * 4, none⟩ = some (.int .i64 m.k.f) ∧ w.cell? ⟨g, j * 4 + 1, none⟩ = some (.int .i64 m.k.t) ∧ w.cell? ⟨g, j * 4 + 2, none⟩ = some (.slice m.A m.k.b.length m.c) ∧ w.cell? ⟨g, j * 4 + 3, none⟩ = some (.bool m.k.sp) ∧ g ≠ q ∧ ds.length ≤ cp ∧ cp ≤ 9223372036854775807 := by
  have hi := (List.getElem?_eq_some_iff.1 hm).1
  have ho := h.own
  have hap := row_apart h.row ho (by decide)
  have hlt := ho.lt
  rcases ho.2 with ⟨_, e⟩ | ⟨g, cp, cur, e, _, h1, h2, h3, h4, h5⟩
  · omega
  · rw [e] at ho hap
    have hc : ∀ t u, t < 4 → m.cs[t]? = some u → w.cell? ⟨g, j * 4 + t, none⟩ = some u := fun t u ht hu => by
      rw [ho.cellAt (j * 4 + t) (by omega)]
      exact fl_get (f := DP.cs) DP.cs_len hm hu
    exact ⟨g, cp, e, (hlt g (by rw [e]; rfl)).2, hc 0 _ (by omega) rfl, hc 1 _ (by omega) rfl, hc 2 _ (by omega) rfl, hc 3 _ (by omega) rfl, fun e2 => hap (by rw [e2]; rfl), h2, h3⟩
end
def DocAt (col : Nat → Nat) (c : Nat) (w : World) (q : Nat) (d : Dn) : Prop := ∃ v ds, DocIs col c w q v ds d.lost ∧ ds.map DP.k = d.row
section
variable {col col' : Nat → Nat} {c : Nat} {w w' w2 : World} {q : Nat} {d : Dn} {f t : Int}
theorem DocAt.other {M : Nat → Prop} (h : DocAt col c w q d) (hg : Cg M w w') (hM : ∀ k, k < w.heap.size → col k = c → ¬ M k) (he : Ext w col col') : DocAt col' c w' q d := by
  obtain ⟨v, ds, h, e⟩ := h
  exact ⟨v, ds, h.other hg hM he, e⟩
theorem DocAt.below (h : DocAt col c w q d) (hB : Below w.heap.size w w') : DocAt col c w' q d := by
  obtain ⟨v, ds, h, e⟩ := h
  exact ⟨v, ds, h.below hB, e⟩
theorem DocAt.ext (h : DocAt col c w q d) (he : Ext w col col') : DocAt col' c w q d := by
  obtain ⟨v, ds, h, e⟩ := h
  exact ⟨v, ds, h.ext he, e⟩
theorem DocAt.lt (h : DocAt col c w q d) : q < w.heap.size := by
  obtain ⟨v, ds, h, e⟩ := h
  exact h.row.lt
theorem DocAt.lost (h : DocAt col c w q d) : w.cell? ⟨q, 1, none⟩ = some (.int .i64 d.lost) := by
  obtain ⟨v, ds, h, e⟩ := h
  exact h.cells.2.1
theorem getk {ds : List DP} {j : Nat} {m : DP} (h : ds[j]? = some m) : (ds.map DP.k)[j]? = some m.k := by rw [List.getElem?_map, h]; rfl
/-! ### Len -/
set_option maxRecDepth 100000 in
set_option maxHeartbeats 1000000 in
theorem dlen_any (f t : Int) (w : World) (h : DocAt col c w q d) : Calls Try.prog 13 #[.pointer (some ⟨q, 0, none⟩), .int .i64 f, .int .i64 t] w fun e w' => e = .returned (.int .i64 (cnt f t d.row)) ∧ w = w' := by
  obtain ⟨v, ds, hI, hk⟩ := h
  obtain ⟨k0, k1, -, -, A, cp, rfl, hcp, -⟩ := hI.cells
  have hle := hI.le
  rw [← hk]
  replace hI := Lib.hid hI
  clear k1 hk
  go_enter Try.func13, Try.ntmps13
  go_wp2
  go_loop [7, 8] (fun n i => ∃ k : Nat, k ≤ ds.length ∧ i = .int .i64 k ∧ n = .int .i64 (cnt f t ((ds.map DP.k).take k))) (fun _ i => ds.length - (intOf i).toNat)
  case atStart => exact ⟨0, by omega, rfl, rfl⟩
  case round =>
    obtain ⟨k, hk, rfl, rfl⟩ := hrel
    have hc := cnt_le f t ((ds.map DP.k).take k)
    rw [List.length_take, List.length_map] at hc
    by_cases hlt : k < ds.length
    · obtain ⟨m, hm⟩ : ∃ m, ds[k]? = some m := ⟨ds[k], List.getElem?_eq_getElem hlt⟩
      obtain ⟨g, cp', e, hgl, c0, c1, c2, c3, -, -, -⟩ := hI.out.at_ hm
      cases e
      have hst := Lib.hid (cnt_step f t (ds.map DP.k) (getk hm))
      have hm2 := Lib.hid (@mt_iff f t m.k)
      have hkI : (k : Int) < (ds.length : Int) := by omega
      generalize hN : cnt f t ((ds.map DP.k).take k) = N at *
      replace hN := Lib.hid hN
      have hN0 : (0 : Int) ≤ (N : Int) := by omega
      have hN9 : (N : Int) ≤ 100000 := by omega
      clear hI hm c2 c3 hc
      by_cases e1 : (m.k.f : Int) = f
      · have e1' : ((m.k.f : Int) == f) = true := by rw [beq_iff_eq]; exact e1
        by_cases e2 : (m.k.t : Int) = t
        · have e2' : ((m.k.t : Int) == t) = true := by rw [beq_iff_eq]; exact e2
          have hst' := Lib.hid (hst.out.trans (by rw [if_pos (hm2.out.2 ⟨e1, e2⟩)]))
          replace e1 := Lib.hid e1
          replace e2 := Lib.hid e2
          clear hst
          go_wp2
          go_round
          case rel => exact ⟨k + 1, by omega, by go_num, by rw [hst'.out]; go_num⟩
          case measure => simp [intOf]; omega
        · have e2' : ((m.k.t : Int) == t) = false := by rw [beq_eq_false_iff_ne]; exact e2
          have hst' := Lib.hid (hst.out.trans (by rw [if_neg (fun c => e2 (hm2.out.1 c).2)]))
          replace e1 := Lib.hid e1
          clear hst e2
          go_wp2
          go_round
          case rel => exact ⟨k + 1, by omega, by go_num, by rw [hst'.out]; go_num⟩
          case measure => simp [intOf]; omega
      · have e1' : ((m.k.f : Int) == f) = false := by rw [beq_eq_false_iff_ne]; exact e1
        have hst' := Lib.hid (hst.out.trans (by rw [if_neg (fun c => e1 (hm2.out.1 c).1)]))
        clear hst e1
        go_wp2
        go_round
        case rel => exact ⟨k + 1, by omega, by go_num, by rw [hst'.out]; go_num⟩
        case measure => simp [intOf]; omega
    · obtain rfl : k = ds.length := by omega
      have hfin := Lib.hid (show (ds.map DP.k).take ds.length = ds.map DP.k from List.take_of_length_le (by simp))
      generalize hN : cnt f t ((ds.map DP.k).take ds.length) = N at *
      replace hN := Lib.hid hN
      clear hI hc
      go_wp2
      go_ret
      have e9 : cnt f t (ds.map DP.k) = N := by rw [← hN.out, hfin.out]
      rw [e9]
      exact ⟨rfl, rfl⟩

/-! ### find -/
theorem wrap_step (x : Int) : IntKind.i64.wrap (IntKind.i64.wrap x - 1) = IntKind.i64.wrap (x - 1) := by
  rw [IntKind.wrap_i64, IntKind.wrap_i64, IntKind.wrap_i64]
  omega
theorem wrap_no {a : Int} {n : Nat} (h1 : -9223372036854775808 ≤ a) (h2 : a < 0) (hn : n ≤ 100000) : IntKind.i64.wrap (a - n) ≠ 0 := by
  rw [IntKind.wrap_i64]
  omega
def errF : Option Nat → Value
  | some j => .tuple #[.int .i64 j, .int .i64 0]
  | none => .tuple #[.int .i64 0, .int .i64 7]
set_option maxRecDepth 100000 in
theorem find_bad (f t a : Int) (p : Value) (w : World) (hw : ¬ IsWay f t) : Calls Try.prog 40 #[p, .int .i64 f, .int .i64 t, .int .i64 a] w fun e w' => e = .returned (.tuple #[.int .i64 0, .int .i64 1]) ∧ w = w' := by
  go_enter Try.func40, Try.ntmps40
  go_wp2_with (go_at_call 19; ((with_reducible refine (right_no f t _ hw).mono ?_); rintro e w' ⟨rfl, rfl⟩))
  go_ret2
  exact ⟨rfl, rfl⟩
set_option maxRecDepth 100000 in
set_option maxHeartbeats 1000000 in
theorem find_neg (f t a : Int) (w : World) (hw : IsWay f t) (h : DocAt col c w q d) (ha : a < 0) (ha9 : -9223372036854775808 ≤ a) : Calls Try.prog 40 #[.pointer (some ⟨q, 0, none⟩), .int .i64 f, .int .i64 t, .int .i64 a] w fun e w' => e = .returned (.tuple #[.int .i64 0, .int .i64 7]) ∧ w = w' := by
  obtain ⟨v, ds, hI, hk⟩ := h
  obtain ⟨k0, k1, -, -, A, cp, rfl, hcp, -⟩ := hI.cells
  have hle := hI.le
  replace hI := Lib.hid hI
  have hw0 : IntKind.i64.wrap a = a := wrap_in a ha9 (by omega)
  replace hw0 := Lib.hid hw0
  replace ha := Lib.hid ha
  replace ha9 := Lib.hid ha9
  clear k1 hk
  go_enter Try.func40, Try.ntmps40
  go_wp2_with (go_at_call 19; ((with_reducible refine (right_yes f t _ hw).mono ?_); rintro e w' ⟨rfl, rfl⟩))
  go_loop [3, 10] (fun z i => ∃ k : Nat, k ≤ ds.length ∧ i = .int .i64 k ∧ ∃ n : Nat, n ≤ k ∧ z = .int .i64 (IntKind.i64.wrap (a - n))) (fun _ i => ds.length - (intOf i).toNat)
  case atStart => exact ⟨0, by omega, rfl, 0, by omega, by rw [show a - ((0 : Nat) : Int) = a by omega, hw0.out]⟩
  case round =>
    obtain ⟨k, hk, rfl, n, hn, rfl⟩ := hrel
    by_cases hlt : k < ds.length
    · obtain ⟨m, hm⟩ : ∃ m, ds[k]? = some m := ⟨ds[k], List.getElem?_eq_getElem hlt⟩
      obtain ⟨g, cp', e, hgl, c0, c1, c2, c3, -, -, -⟩ := hI.out.at_ hm
      cases e
      have hkI : (k : Int) < (ds.length : Int) := by omega
      have hz := wrap_no ha9.out ha.out (show n ≤ 100000 by omega)
      have hst := Lib.hid (show IntKind.i64.wrap (IntKind.i64.wrap (a - n) - 1) = IntKind.i64.wrap (a - (n + 1 : Nat)) by rw [wrap_step]; congr 1; omega)
      generalize hZ : IntKind.i64.wrap (a - n) = Z at *
      have hz' : (Z == 0) = false := by rw [beq_eq_false_iff_ne]; exact hz
      replace hZ := Lib.hid hZ
      clear hI hm c2 c3 hz
      by_cases e1 : (m.k.f : Int) = f
      · have e1' : ((m.k.f : Int) == f) = true := by rw [beq_iff_eq]; exact e1
        by_cases e2 : (m.k.t : Int) = t
        · have e2' : ((m.k.t : Int) == t) = true := by rw [beq_iff_eq]; exact e2
          replace e1 := Lib.hid e1
          replace e2 := Lib.hid e2
          go_wp2
          go_round
          case rel => exact ⟨k + 1, by omega, by go_num, n + 1, by omega, by rw [← hst.out, IntWalk.i64_left]⟩
          case measure => simp [intOf]; omega
        · have e2' : ((m.k.t : Int) == t) = false := by rw [beq_eq_false_iff_ne]; exact e2
          replace e1 := Lib.hid e1
          clear e2
          go_wp2
          go_round
          case rel => exact ⟨k + 1, by omega, by go_num, n, by omega, by rw [hZ.out]⟩
          case measure => simp [intOf]; omega
      · have e1' : ((m.k.f : Int) == f) = false := by rw [beq_eq_false_iff_ne]; exact e1
        clear e1
        go_wp2
        go_round
        case rel => exact ⟨k + 1, by omega, by go_num, n, by omega, by rw [hZ.out]⟩
        case measure => simp [intOf]; omega
    · obtain rfl : k = ds.length := by omega
      clear hI
      generalize IntKind.i64.wrap (a - n) = Z at *
      go_wp2
      go_ret2
      exact ⟨rfl, rfl⟩
set_option maxRecDepth 100000 in
set_option maxHeartbeats 1000000 in
theorem find_nat (f t : Int) (i : Nat) (w : World) (hw : IsWay f t) (h : DocAt col c w q d) (hi9 : (i : Int) ≤ 9223372036854775807) : Calls Try.prog 40 #[.pointer (some ⟨q, 0, none⟩), .int .i64 f, .int .i64 t, .int .i64 i] w fun e w' => e = .returned (errF (idx f t d.row i)) ∧ w = w' := by
  obtain ⟨v, ds, hI, hk⟩ := h
  obtain ⟨k0, k1, -, -, A, cp, rfl, hcp, -⟩ := hI.cells
  have hle := hI.le
  rw [← hk]
  replace hI := Lib.hid hI
  clear k1 hk
  go_enter Try.func40, Try.ntmps40
  go_wp2_with (go_at_call 19; ((with_reducible refine (right_yes f t _ hw).mono ?_); rintro e w' ⟨rfl, rfl⟩))
  go_loop [3, 10] (fun z i' => ∃ k : Nat, k ≤ ds.length ∧ i' = .int .i64 k ∧ ∃ n : Nat, cnt f t ((ds.map DP.k).take k) + n = i ∧ z = .int .i64 n) (fun _ i => ds.length - (intOf i).toNat)
  case atStart => exact ⟨0, by omega, rfl, i, by simp [cnt], rfl⟩
  case round =>
    obtain ⟨k, hk, rfl, n, hn, rfl⟩ := hrel
    by_cases hlt : k < ds.length
    · obtain ⟨m, hm⟩ : ∃ m, ds[k]? = some m := ⟨ds[k], List.getElem?_eq_getElem hlt⟩
      obtain ⟨g, cp', e, hgl, c0, c1, c2, c3, -, -, -⟩ := hI.out.at_ hm
      cases e
      have hst := Lib.hid (cnt_step f t (ds.map DP.k) (getk hm))
      have hm2 := Lib.hid (@mt_iff f t m.k)
      have hkI : (k : Int) < (ds.length : Int) := by omega
      have hn0 : (0 : Int) ≤ n := by omega
      have hn9 : (n : Int) ≤ 9223372036854775807 := by omega
      have hid_ := Lib.hid (fun (e1 : (m.k.f : Int) = f) (e2 : (m.k.t : Int) = t) (e3 : n = 0) => idx_of (f := f) (t := t) (i := i) (getk hm) (mt_iff.2 ⟨e1, e2⟩) (by omega))
      replace hn := Lib.hid hn
      clear hI hm c2 c3
      by_cases e1 : (m.k.f : Int) = f
      · have e1' : ((m.k.f : Int) == f) = true := by rw [beq_iff_eq]; exact e1
        by_cases e2 : (m.k.t : Int) = t
        · have e2' : ((m.k.t : Int) == t) = true := by rw [beq_iff_eq]; exact e2
          by_cases e3 : n = 0
          · have hfin := Lib.hid (hid_.out e1 e2 e3)
            subst e3
            replace e1 := Lib.hid e1
            replace e2 := Lib.hid e2
            clear hid_
            go_wp2
            go_ret2
            rw [hfin.out]
            exact ⟨rfl, rfl⟩
          · have e3' : ((n : Int) == 0) = false := by rw [beq_eq_false_iff_ne]; omega
            have hn1 : (1 : Int) ≤ n := by omega
            have hst' := Lib.hid (hst.out.trans (by rw [if_pos (hm2.out.2 ⟨e1, e2⟩)]))
            replace e1 := Lib.hid e1
            replace e2 := Lib.hid e2
            clear hst hid_ e3
            go_wp2
            go_round
            case rel => exact ⟨k + 1, by omega, by go_num, n - 1, by rw [hst'.out]; have := hn.out; omega, by rw [show ((n - 1 : Nat) : Int) = (n : Int) - 1 by omega]⟩
            case measure => simp [intOf]; omega
        · have e2' : ((m.k.t : Int) == t) = false := by rw [beq_eq_false_iff_ne]; exact e2
          have hst' := Lib.hid (hst.out.trans (by rw [if_neg (fun c => e2 (hm2.out.1 c).2)]))
          replace e1 := Lib.hid e1
          clear hst e2 hid_
          go_wp2
          go_round
          case rel => exact ⟨k + 1, by omega, by go_num, n, by rw [hst'.out]; have := hn.out; omega, rfl⟩
          case measure => simp [intOf]; omega
      · have e1' : ((m.k.f : Int) == f) = false := by rw [beq_eq_false_iff_ne]; exact e1
        have hst' := Lib.hid (hst.out.trans (by rw [if_neg (fun c => e1 (hm2.out.1 c).1)]))
        clear hst e1 hid_
        go_wp2
        go_round
        case rel => exact ⟨k + 1, by omega, by go_num, n, by rw [hst'.out]; have := hn.out; omega, rfl⟩
        case measure => simp [intOf]; omega
    · obtain rfl : k = ds.length := by omega
      have hfin : idx f t (ds.map DP.k) i = none := by
        refine idx_none ?_
        have e : (ds.map DP.k).take ds.length = ds.map DP.k := List.take_of_length_le (by simp)
        rw [e] at hn
        omega
      replace hfin := Lib.hid hfin
      clear hn hI
      go_wp2
      go_ret2
      rw [hfin.out]
      exact ⟨rfl, rfl⟩
end
end Go.Proofs.Ytggoaglcffdcnaa.netQ
