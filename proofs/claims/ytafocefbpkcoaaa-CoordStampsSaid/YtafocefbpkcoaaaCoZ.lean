/- Both tables side by side. -/
import Derived.Test.YtafocefbpkcoaaaCoJ
import Derived.Test.YtafocefbpkcoaaaCoH
import Derived.Test.YtafocefbpkcoaaaCoDe
import Derived.Test.YtafocefbpkcoaaaCoDw
set_option linter.unusedVariables false
set_option linter.unusedSimpArgs false
set_option maxRecDepth 100000
namespace Go.Proofs.Ytafocefbpkcoaaa.coZ
open Go.ChangeShapes Go.WideShapes Go.ChangeAt Go.RowKit Go.Deep
open opG opV chnM gen chnA chnR chnE ordA ordC coG coO coM coP coL coN coB coK coV coE coF coW coT coA coJ coD coDf coDv coDa coDe coDw coH

/-- the document's table, of a color of its own -/
def XD (q : Nat) (os : Ens) : Wh := fun col V => DocAt col 2 V q os
theorem st_XD {d q : Nat} {os : Ens} (hd : d ≠ 0) (h2 : 2 ≠ d) : St d (XD q os) := fun _ _ _ _ hg he h => DocAt.other h hg hd h2 he
abbrev zD (w : World) : World := w.alloc (.cells #[.slice none 0 0] TQ)
section
variable {w V V' : World} {t q B : Nat} {os ns ns' : Ens} {o : Oq} {X Z : Wh} {tx n tt low : Int}
theorem j_rot (h : J w (X2 X (X2 (XD q ns) Z)) V) : J w (X2 (XD q ns) (X2 X Z)) V := by
  obtain ⟨col, h1, h2, h3, h4⟩ := h
  exact ⟨col, h1, h3, h2, h4⟩
theorem j_rot' (h : J w (X2 (XD q ns) (X2 X Z)) V) : J w (X2 X (X2 (XD q ns) Z)) V := by
  obtain ⟨col, h1, h2, h3, h4⟩ := h
  exact ⟨col, h1, h3, h2, h4⟩
theorem j_dlv {F : FuncId} {args : Array Value} {v : Value} (h : J w (X2 (XS t os) (X2 (XD q ns) Z)) V) (hZ : St 2 Z)
    (hcall : ∀ col, Fresh col V → DocAt col 2 V q ns → Calls Try.prog F args V (fun e w' => e = .returned v ∧ DLv col 2 q ns' V w')) : Calls Try.prog F args V fun e w' => e = .returned v ∧ J w (X2 (XS t os) (X2 (XD q ns') Z)) w' := by
  have h' := j_rot h
  obtain ⟨col, h1, h2, h3⟩ := h'
  refine (hcall col h1.fr h2).mono ?_
  rintro e w' ⟨hE, col', hC, hD⟩
  exact ⟨hE, j_rot' ⟨col', h1.go hC (by decide), hD, st_X2 (st_XS (by decide) (by decide)) hZ _ _ _ _ hC.2.2 hC.1 h3⟩⟩
theorem jd_start (h : J w (X2 (XS t os) (X2 (XD q ns) Z)) V) (hZ : St 2 Z) (hn : ns.length ≤ 1000) (A : Option Addr) (c : Nat) (rs : List SR) (hr : Rd coD.shD V A c rs) (hl : rs.length ≤ 6) (hk : ∀ r ∈ rs, kSh V r) : Calls Try.prog 11 #[.pointer (some ⟨q, 0, none⟩), .int .u64 tx, .int .u64 low, .slice A rs.length c] V fun e w' =>
    e = .returned (.int .i64 (stE ns tx (rs.map SR.s))) ∧ J w (X2 (XS t os) (X2 (XD q (stS ns tx low (rs.map SR.s))) Z)) w' :=
  j_dlv h hZ fun col hf hd => dstart_at V hd (by decide) hf hn A c rs hr hl hk
theorem jd_vote (h : J w (X2 (XS t os) (X2 (XD q ns) Z)) V) (hZ : St 2 Z) (hok : ok ns) (hn : ns.length ≤ 1000) (t0 : 0 ≤ tt) (t1 : tt < 18446744073709551616) : Calls Try.prog 14 #[.pointer (some ⟨q, 0, none⟩), .int .u64 tx, .int .i64 n, .int .u64 tt] V fun e w' =>
    e = .returned (.tuple #[.int .u64 (voT ns tx n tt), .bool (voB ns tx n tt), .int .i64 (voE ns tx n tt)]) ∧ J w (X2 (XS t os) (X2 (XD q (voS ns tx n tt)) Z)) w' :=
  j_dlv h hZ fun col hf hd => dvote_at V hd (by decide) hf hok hn t0 t1
theorem jd_end (h : J w (X2 (XS t os) (X2 (XD q ns) Z)) V) (hZ : St 2 Z) (hok : ok ns) (hn : ns.length ≤ 1000) : Calls Try.prog 16 #[.pointer (some ⟨q, 0, none⟩), .int .u64 tx, .int .i64 n] V fun e w' =>
    e = .returned (.tuple #[.bool (enB ns tx n), .int .i64 (enE ns tx n)]) ∧ J w (X2 (XS t os) (X2 (XD q (enS ns tx n)) Z)) w' :=
  j_dlv h hZ fun col hf hd => dend_at V hd (by decide) hf hok hn
theorem st9d (hZ : St 9 Z) : St 9 (X2 (XS t os) (X2 (XD q ns) Z)) := st_X2 (st_XS (by decide) (by decide)) (st_X2 (st_XD (by decide) (by decide)) hZ)
theorem jd_box (h : J w (X2 (XS t os) (X2 (XD q ns) Z)) V) (hZ : St 9 Z) (o : Oq) : J w (X2 (XS t os) (X2 (XD q ns) (X2 (XB V.heap.size o) Z))) (V.alloc (.cells (cO o) 32)) := by
  obtain ⟨col, h1, h2, h3, h4, h5⟩ := j_box h (st9d hZ) o
  exact ⟨col, h1, h3, h4, h2, h5⟩
/-- .. and a row of shares -/
theorem jd_row (h : J w (X2 (XS t os) (X2 (XD q ns) Z)) V) (hZ : St 9 Z) {A : Option Addr} {c : Nat} {rs : List SR} (hG : coG.Own shS V' V.heap.size A c rs) (hB : Below V.heap.size V V') : J w (X2 (XS t os) (X2 (XD q ns) (X2 Z (XR A c rs)))) V' := by
  obtain ⟨col, h1, h2, h3, h4, h5⟩ := j_row h (st9d hZ) hG hB
  exact ⟨col, h1, h3, h4, h5, h2⟩
theorem jd_o7 (h : J w (X2 (XS t os) (X2 (XD q ns) (X2 (XB B o) Z))) V) : O7 B 0 o V := by
  obtain ⟨col, h1, h2, h3, h4, h5⟩ := h
  exact h4.1
theorem jd_o7r (h : J w (X2 (XS t os) (X2 (XD q ns) (X2 (X2 (XB B o) Z) X))) V) : O7 B 0 o V := by
  obtain ⟨col, h1, h2, h3, ⟨h4, h6⟩, h5⟩ := h
  exact h4.1
theorem jd_rd {A : Option Addr} {c : Nat} {rs : List SR} (h : J w (X2 (XS t os) (X2 (XD q ns) (X2 Z (XR A c rs)))) V) : Rd shS V A c rs := by
  obtain ⟨col, h1, h2, h3, h4, h5⟩ := h
  exact h5.1
theorem jd_unrow (h : J w (X2 (XS t os) (X2 (XD q ns) (X2 Z X))) V) : J w (X2 (XS t os) (X2 (XD q ns) Z)) V := by
  obtain ⟨col, h1, h2, h3, h4, h5⟩ := h
  exact ⟨col, h1, h2, h3, h4⟩
theorem jd_drop (h : J w (X2 (XS t os) (X2 (XD q ns) (X2 (XB B o) Z))) V) : J w (X2 (XS t os) (X2 (XD q ns) Z)) V := by
  obtain ⟨col, h1, h2, h3, h4, h5⟩ := h
  exact ⟨col, h1, h2, h3, h5⟩
theorem jd_cell (h : J w (X2 (XS t os) (X2 (XD q ns) Z)) V) : ∃ A cA, V.cell? ⟨q, 0, none⟩ = some (.slice A ns.length cA) := by
  obtain ⟨col, h1, h2, ⟨A, cA, l, h3, e⟩, h4⟩ := h
  refine ⟨A, cA, ?_⟩
  rw [e, List.length_map]
  exact h3.cell.1
theorem jd_writes (h : J w (X2 (XS t os) (X2 (XD q ns) Z)) V) (hok : ok ns) (hn : ns.length ≤ 1000) : Calls Try.prog 22 #[.pointer (some ⟨q, 0, none⟩), .int .u64 tx] V fun e w' => ∃ A c, e = .returned (.slice A (wrs ns tx).length c) ∧ GV w' V.heap.size A c (wrs ns tx) ∧ Below V.heap.size V w' := by
  obtain ⟨col, h1, h2, h3, h4⟩ := h
  exact dwrites_at V h3 hok hn
theorem jd_nodes (h : J w (X2 (XS t os) (X2 (XD q ns) Z)) V) (hok : ok ns) (hn : ns.length ≤ 1000) : Calls Try.prog 18 #[.pointer (some ⟨q, 0, none⟩), .int .u64 tx] V fun e w' => ∃ A c, e = .returned (.slice A (nos ns tx).length c) ∧ coG.Own shI w' V.heap.size A c (nos ns tx) ∧ Below V.heap.size V w' := by
  obtain ⟨col, h1, h2, h3, h4⟩ := h
  exact dnodes_at V h3 hok hn
theorem jd_touches (h : J w (X2 (XS t os) (X2 (XD q ns) Z)) V) (hok : ok ns) (hn : ns.length ≤ 1000) (lo hi : ByteArray) : Calls Try.prog 24 #[.pointer (some ⟨q, 0, none⟩), .string lo, .string hi] V fun e w' => e = .returned (.bool (tcE ns lo hi)) ∧ Below V.heap.size V w' := by
  obtain ⟨col, h1, h2, h3, h4⟩ := h
  exact dtouches_at V h3 hok hn lo hi
theorem jd_new (h : J w (X2 (XS t os) XT) V) : J w (X2 (XS t os) (X2 (XD V.heap.size []) XT)) (zD V) := by
  obtain ⟨col, h1, h2, -⟩ := h
  have hB := al0 V (.cells #[.slice none 0 0] TQ)
  have hs : (zD V).heap.size = V.heap.size + 1 := by simp
  have hE : Ext V col (fun k => if k = V.heap.size then 2 else col k) := fun k hk => if_neg (by omega)
  have hg := Chg.of_below col 9 hB
  have hr := World.rowIs_alloc V #[.slice none 0 0] TQ (fun _ => .slice none 0 0) (fun i hi => by
    have : i = 0 := by simpa using hi
    subst this; rfl)
  refine ⟨_, h1.go ⟨hE, fun k hk => ?_, hg⟩ (by decide), h2.other hg (by decide) (by decide) hE, ⟨none, 0, [], ⟨hr, coG.Own.nil_ _ _ _, fun x hx => (by cases hx), List.Pairwise.nil, if_pos rfl, fun k e => (by cases e)⟩, rfl⟩, trivial⟩
  rw [hs] at hk
  show (if k = V.heap.size then 2 else col k) = 0
  rw [if_neg (by omega)]
  exact h1.fr k (by omega)
end
/-! ### A row of calls, plainly -/
def stP (os : Ens) (o : Oq) : Ens := if o.kind = 0 then stS os o.tx o.t ((fwR o.rs).map SR.s) else if o.kind = 1 then voS os o.tx o.node o.t else enS os o.tx o.node
def rn (l : List Oq) : Nat → Ens
  | 0 => []
  | j + 1 => stP (rn l j) (nt l j)
theorem rn_len (l : List Oq) : ∀ j, (rn l j).length ≤ j
  | 0 => Nat.le_refl _
  | j + 1 => by
    have ih := rn_len l j
    show (stP (rn l j) (nt l j)).length ≤ j + 1
    unfold stP
    split
    · have := stS_len (os := rn l j) (tx := (nt l j).tx) (low := (nt l j).t) (sh := (fwR (nt l j).rs).map SR.s); omega
    · split
      · rw [voS_len]; omega
      · have := enS_len (os := rn l j) (tx := (nt l j).tx) (n := (nt l j).node); omega
theorem fwR_sv (rs : List SR) : ∀ s ∈ (fwR rs).map SR.s, s.vs.length ≤ 8 := by
  intro s hs
  obtain ⟨r, hr, rfl⟩ := List.mem_map.1 hs
  obtain ⟨q, hq, rfl⟩ := List.mem_map.1 hr
  show (q.vs.take 8).length ≤ 8
  simp
  omega
theorem rn_ok {W : World} {l : List Oq} {n : Nat} (h : ∀ i, i < n → kOp W (nt l i)) : ∀ j, j ≤ n → ok (rn l j)
  | 0, _ => ok_nil
  | j + 1, hj => by
    have ih := rn_ok h j (by omega)
    have hk := h j (by omega)
    show ok (stP (rn l j) (nt l j))
    unfold stP
    split
    · exact ok_start ih hk.x0 hk.x1 hk.t0 (by rw [List.length_map]; exact fwR_len _) (fwR_sv _)
    · split
      · exact ok_vote ih _ hk.t1
      · exact ok_end ih _ _
theorem rs_at {A : Option Addr} {n : Nat} {l : List Oq} {w : World} (h : Rs w QOp 7 A n l) (j : Nat) (hj : j < n) : ∃ b off, A = some ⟨b, off, none⟩ ∧ b < w.heap.size ∧ QOp w b (off + j * 7) (nt l j) := by
  rcases h.2.2 with h0 | ⟨b, off, e, h3, h4⟩
  · omega
  · exact ⟨b, off, e, h3, h4 j hj⟩
end Go.Proofs.Ytafocefbpkcoaaa.coZ
