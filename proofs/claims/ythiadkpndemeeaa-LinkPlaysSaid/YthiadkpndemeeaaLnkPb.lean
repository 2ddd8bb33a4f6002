/- The document's own end in memory; last, kept. -/
import Derived.Test.YthiadkpndemeeaaLnkPa
import Derived.Test.YthiadkpndemeeaaLnkT
namespace Go.Proofs.Ythiadkpndemeeaa.lnkPb
open Go.ChangeShapes Go.WideShapes Go.ChangeAt Go.RowKit Go.Deep
open numM rowA byt numA numB numC lnkA lnkB lnkC lnkD lnkE lnkF lnkG lnkH lnkI lnkL lnkQ lnkR lnkS lnkT lnkPa

/-! ### What came, by its number -/
def Cm (col : Nat → Nat) (w : World) (cs : List Value) (x : Nat × List Nat) : Prop :=
  ∃ A c, cs = [.int .i64 x.1, .slice A x.2.length c] ∧ Dat col w (.slice A x.2.length c) x.2
theorem Cm.go {col col' : Nat → Nat} {c : Nat} {w w' : World} {cs : List Value} {x : Nat × List Nat} (h : Cm col w cs x) (hg : Chg col c w w') (hc : c ≠ 0) (he : Ext w col col') : Cm col' w' cs x := by
  obtain ⟨A, cp, h1, h2⟩ := h
  exact ⟨A, cp, h1, h2.go hg hc he⟩
theorem Cm.len {col : Nat → Nat} {w : World} {cs : List Value} {x : Nat × List Nat} (h : Cm col w cs x) : cs.length = 2 := by obtain ⟨A, c, rfl, _⟩ := h; rfl
theorem Cm.one {col : Nat → Nat} {w : World} {cs : List Value} {x : Nat × List Nat} (h : Cm col w cs x) : ∀ u ∈ cs, u.oneCell' = true := by
  obtain ⟨A, c, rfl, _⟩ := h
  intro u hu
  simp only [List.mem_cons, List.not_mem_nil, or_false] at hu
  rcases hu with rfl | rfl <;> rfl
def Cms (col : Nat → Nat) (w : World) : List (List Value) → List (Nat × List Nat) → Prop
  | [], [] => True
  | v :: vs, l :: ls => Cm col w v l ∧ Cms col w vs ls
  | _, _ => False
theorem Cms.go {col col' : Nat → Nat} {c : Nat} {w w' : World} (hg : Chg col c w w') (hc : c ≠ 0) (he : Ext w col col') : ∀ {vs : List (List Value)} {ls : List (Nat × List Nat)}, Cms col w vs ls → Cms col' w' vs ls
  | [], [], _ => trivial
  | _ :: _, _ :: _, h => ⟨h.1.go hg hc he, Cms.go hg hc he h.2⟩
  | [], _ :: _, h => h.elim
  | _ :: _, [], h => h.elim
theorem Cms.len {col : Nat → Nat} {w : World} : ∀ {vs : List (List Value)} {ls : List (Nat × List Nat)}, Cms col w vs ls → vs.length = ls.length
  | [], [], _ => rfl
  | _ :: _, _ :: _, h => by simp [Cms.len h.2]
  | [], _ :: _, h => h.elim
  | _ :: _, [], h => h.elim
theorem Cms.app {col : Nat → Nat} {w : World} {vs2 : List (List Value)} {ls2 : List (Nat × List Nat)} (hd : Cms col w vs2 ls2) : ∀ {vs : List (List Value)} {ls : List (Nat × List Nat)}, Cms col w vs ls → Cms col w (vs ++ vs2) (ls ++ ls2)
  | [], [], _ => hd
  | _ :: _, _ :: _, h => ⟨h.1, Cms.app hd h.2⟩
  | [], _ :: _, h => h.elim
  | _ :: _, [], h => h.elim
theorem Cms.drop {col : Nat → Nat} {w : World} : ∀ (k : Nat) {vs : List (List Value)} {ls : List (Nat × List Nat)}, Cms col w vs ls → Cms col w (vs.drop k) (ls.drop k)
  | 0, _, _, h => h
  | k + 1, [], [], _ => trivial
  | k + 1, _ :: _, _ :: _, h => by simpa using Cms.drop k h.2
  | _ + 1, [], _ :: _, h => h.elim
  | _ + 1, _ :: _, [], h => h.elim
theorem Cms.take {col : Nat → Nat} {w : World} : ∀ (k : Nat) {vs : List (List Value)} {ls : List (Nat × List Nat)}, Cms col w vs ls → Cms col w (vs.take k) (ls.take k)
  | 0, _, _, _ => by simp [Cms]
  | k + 1, [], [], _ => trivial
  | k + 1, _ :: _, _ :: _, h => ⟨h.1, Cms.take k h.2⟩
  | _ + 1, [], _ :: _, h => h.elim
  | _ + 1, _ :: _, [], h => h.elim
theorem Cms.get {col : Nat → Nat} {w : World} : ∀ {vs : List (List Value)} {ls : List (Nat × List Nat)}, Cms col w vs ls → ∀ {i : Nat}, i < ls.length → ∃ v, vs[i]? = some v ∧ Cm col w v (ls.getD i (0, []))
  | [], [], _, i, hi => by simp at hi
  | v :: _, l :: ls, h, 0, _ => ⟨v, rfl, h.1⟩
  | _ :: _, _ :: ls, h, i + 1, hi => by
    obtain ⟨v, h1, h2⟩ := Cms.get h.2 (i := i) (by simpa using hi)
    exact ⟨v, by simpa using h1, by simpa using h2⟩
  | [], _ :: _, h, _, _ => h.elim
  | _ :: _, [], h, _, _ => h.elim
theorem Cms.flen {col : Nat → Nat} {w : World} : ∀ {vs : List (List Value)} {ls : List (Nat × List Nat)}, Cms col w vs ls → vs.flatten.length = ls.length * 2
  | [], [], _ => rfl
  | v :: _, _ :: _, h => by
    rw [List.flatten_cons, List.length_append, h.1.len, Cms.flen h.2, List.length_cons]; omega
  | [], _ :: _, h => h.elim
  | _ :: _, [], h => h.elim
theorem Cms.one {col : Nat → Nat} {w : World} : ∀ {vs : List (List Value)} {ls : List (Nat × List Nat)}, Cms col w vs ls → ∀ u ∈ vs.flatten, u.oneCell' = true
  | [], [], _, u, hu => by simp at hu
  | _ :: _, _ :: _, h, u, hu => by
    rw [List.flatten_cons, List.mem_append] at hu
    rcases hu with hu | hu
    · exact h.1.one u hu
    · exact Cms.one h.2 u hu
  | [], _ :: _, h, _, _ => h.elim
  | _ :: _, [], h, _, _ => h.elim
theorem Cms.cell {col : Nat → Nat} {w : World} : ∀ {vs : List (List Value)} {ls : List (Nat × List Nat)}, Cms col w vs ls → ∀ {i j : Nat} {v : List Value} {u : Value}, vs[i]? = some v → v[j]? = some u → vs.flatten[i * 2 + j]? = some u
  | [], [], _, i, j, v, u, h1, _ => by simp at h1
  | a :: r, _ :: _, h, 0, j, v, u, h1, h2 => by
    simp only [List.getElem?_cons_zero, Option.some.injEq] at h1
    subst h1
    have := (List.getElem?_eq_some_iff.1 h2).1
    rw [List.flatten_cons, Nat.zero_mul, Nat.zero_add, List.getElem?_append_left this]
    exact h2
  | a :: r, _ :: _, h, i + 1, j, v, u, h1, h2 => by
    rw [List.flatten_cons, List.getElem?_append_right (by rw [h.1.len]; omega), h.1.len, show (i + 1) * 2 + j - 2 = i * 2 + j by omega]
    exact Cms.cell h.2 (by simpa using h1) h2
  | [], _ :: _, h, _, _, _, _, _, _ => h.elim
  | _ :: _, [], h, _, _, _, _, _, _ => h.elim

/-! ### The end -/
def cD (d : Dm) (vs vc : Value) (i : Nat) : Value := if i = 0 then .int .i64 d.ep else if i = 1 then vs else if i = 2 then .int .i64 d.acked else if i = 3 then vc else .int .i64 d.got
structure DocIs (col : Nat → Nat) (w : World) (q : Nat) (d : Dm) (vs vc : Value) (xs : List Value) (css : List (List Value)) : Prop where
  row : w.rowIs q 28 5 (cD d vs vc)
  cq : col q = 3
  sent : RowC col 4 w 29 1 vs d.sent.length xs
  sentd : Dats col w xs d.sent
  came : RowC col 5 w 72 2 vc d.came.length css.flatten
  camed : Cms col w css d.came
  le : d.acked ≤ d.sent.length
  sl : d.sent.length ≤ 100000
  cl : d.came.length ≤ 100000
  gl : d.got ≤ 1000000
  kl : ∀ x ∈ d.came, x.1 ≤ 10000000
section
variable {col col' : Nat → Nat} {w w' : World} {q : Nat} {d : Dm} {vs vc : Value} {xs : List Value} {css : List (List Value)}
theorem DocIs.cells (h : DocIs col w q d vs vc xs css) :
    w.cell? ⟨q, 0, none⟩ = some (.int .i64 d.ep) ∧ w.cell? ⟨q, 1, none⟩ = some vs ∧ w.cell? ⟨q, 2, none⟩ = some (.int .i64 d.acked) ∧ w.cell? ⟨q, 3, none⟩ = some vc ∧ w.cell? ⟨q, 4, none⟩ = some (.int .i64 d.got) :=
  ⟨h.row.cell (i := 0) (by omega), h.row.cell (i := 1) (by omega), h.row.cell (i := 2) (by omega), h.row.cell (i := 3) (by omega), h.row.cell (i := 4) (by omega)⟩
/-- It stays while what another color has changes. -/
theorem DocIs.other {c : Nat} (h : DocIs col w q d vs vc xs css) (hg : Chg col c w w') (hc : c ≠ 0) (h3 : c ≠ 3) (h4 : c ≠ 4) (h5 : c ≠ 5) (he : Ext w col col') : DocIs col' w' q d vs vc xs css :=
  ⟨h.row.of_block (hg.block q h.row.lt (by rw [h.cq]; exact fun e => h3 e.symm)), (he q h.row.lt).trans h.cq, h.sent.other hg (fun e => h4 e.symm) he, h.sentd.go hg hc he, h.came.other hg (fun e => h5 e.symm) he, h.camed.go hg hc he, h.le, h.sl, h.cl, h.gl, h.kl⟩
theorem DocIs.below (h : DocIs col w q d vs vc xs css) (hB : Below w.heap.size w w') : DocIs col w' q d vs vc xs css :=
  h.other (Chg.of_below col 99 hB) (by decide) (by decide) (by decide) (by decide) (Ext.refl _ _)
set_option maxRecDepth 100000 in
theorem last_any (h : DocIs col w q d vs vc xs css) : Calls Try.prog 32 #[.pointer (some ⟨q, 0, none⟩)] w fun e w' => e = .returned (.int .i64 (lastD d : Nat)) ∧ ∃ m, w' = w.drewN m := by
  obtain ⟨h0, h1, h2, h3, h4⟩ := h.cells
  obtain ⟨A, cc, rfl, k1, k2⟩ := own_form h.sent.1
  have hle := h.le
  have hsl := h.sl
  have hS : ∀ x : Int, x = (lastD d : Nat) → (Ending.returned (.int .i64 x) = .returned (.int .i64 (lastD d : Nat)) ∧ ∃ m, w.drew = w.drewN m) := fun x e => ⟨by rw [e], 1, rfl⟩
  replace hS := Lib.hid hS
  by_cases c : d.sent.length - d.acked > 16
  · have hl : (lastD d : Nat) = d.acked + 16 := if_pos c
    rw [hl] at hS ⊢
    clear hl h h0 h3 h4
    generalize d.sent.length = n at *
    generalize d.acked = a at *
    have c1 : (16 : Int) < (n : Int) - a := by omega
    have ws := wrap_in ((n : Int) - a) (by omega) (by omega)
    go_enter Try.func32, Try.ntmps32
    go_wp2
    go_region
    clear ws c1
    go_wp2
    go_ret
    exact hS.out _ (by omega)
  · have hl : (lastD d : Nat) = d.sent.length := if_neg c
    rw [hl] at hS ⊢
    clear hl h h0 h3 h4
    generalize d.sent.length = n at *
    generalize d.acked = a at *
    have c1 : (n : Int) - a ≤ 16 := by omega
    have ws := wrap_in ((n : Int) - a) (by omega) (by omega)
    go_enter Try.func32, Try.ntmps32
    go_wp2
    go_region
    clear ws c1
    go_wp2
    go_ret
    exact hS.out _ rfl
theorem find_at : ∀ (l : List (Nat × List Nat)) (q k : Nat), k < l.length → (∀ j, j < k → (l.getD j (0, [])).1 ≠ q) → (l.getD k (0, [])).1 = q → l.find? (fun x => x.1 == q) = some (l.getD k (0, []))
  | [], _, k, h, _, _ => by simp at h
  | a :: l, q, 0, _, _, he => by
    have : a.1 = q := he
    rw [List.find?_cons_of_pos (by simpa using this)]; rfl
  | a :: l, q, k + 1, h, hn, he => by
    have h0 : a.1 ≠ q := hn 0 (by omega)
    rw [List.find?_cons_of_neg (by simpa using h0)]
    exact find_at l q k (by simpa using h) (fun j hj => hn (j + 1) (by omega)) he
theorem find_no : ∀ (l : List (Nat × List Nat)) (q : Nat), (∀ j, j < l.length → (l.getD j (0, [])).1 ≠ q) → l.find? (fun x => x.1 == q) = none
  | [], _, _ => rfl
  | a :: l, q, hn => by
    have h0 : a.1 ≠ q := hn 0 (by simp)
    rw [List.find?_cons_of_neg (by simpa using h0)]
    exact find_no l q (fun j hj => hn (j + 1) (by simpa using hj))
/-- What kept answers. -/
def KeptD (col : Nat → Nat) (w : World) (d : Dm) (k : Nat) (e : Ending) (w' : World) : Prop :=
  ∃ A c, e = .returned (.tuple #[.slice A ((keptD d k).getD []).length c, .bool (keptD d k).isSome]) ∧ (∀ l, keptD d k = some l → Dat col w (.slice A l.length c) l) ∧ w = w'
set_option maxRecDepth 100000 in
theorem kept_any (k0 : Nat) (h : DocIs col w q d vs vc xs css) : Calls Try.prog 33 #[.pointer (some ⟨q, 0, none⟩), .int .i64 k0] w (KeptD col w d k0) := by
  obtain ⟨h0, h1, h2, h3, h4⟩ := h.cells
  obtain ⟨A, cc, rfl, k1, k2⟩ := own_form h.came.1
  have hcl := h.cl
  have hat : Hid (∀ i, i < d.came.length → ∃ g B c, A = some ⟨g, 0, none⟩ ∧ w.cell? ⟨g, i * 2, none⟩ = some (.int .i64 (d.came.getD i (0, [])).1) ∧ w.cell? ⟨g, i * 2 + 1, none⟩ = some (.slice B (d.came.getD i (0, [])).2.length c) ∧ Dat col w (.slice B (d.came.getD i (0, [])).2.length c) (d.came.getD i (0, [])).2) := by
    refine Lib.hid fun i hi => ?_
    obtain ⟨cs, hcs, B, cB, hce, hdat⟩ := h.camed.get hi
    obtain ⟨g, rfl⟩ : ∃ g, A = some ⟨g, 0, none⟩ := by
      rcases h.came.1.2 with ⟨e0, e⟩ | ⟨g, cap, cur, e, _⟩
      · omega
      · cases e; exact ⟨g, rfl⟩
    have hcell : ∀ j v, cs[j]? = some v → w.cell? ⟨g, i * 2 + j, none⟩ = some v := fun j v hj => by
      have := h.came.1.cells (g := g) rfl _ _ (h.camed.cell hcs hj)
      rwa [add_plain, Nat.zero_add] at this
    subst hce
    exact ⟨g, B, cB, rfl, hcell 0 _ rfl, hcell 1 _ rfl, hdat⟩
  have hkl : Hid (∀ i, i < d.came.length → (d.came.getD i (0, [])).1 ≤ 10000000) := Lib.hid fun i hi => h.kl _ (by rw [List.getD_eq_getElem?_getD, List.getElem?_eq_getElem hi]; exact List.getElem_mem hi)
  have hyes : Hid (∀ i, i < d.came.length → (∀ j, j < i → (d.came.getD j (0, [])).1 ≠ k0) → (d.came.getD i (0, [])).1 = k0 → keptD d k0 = some (d.came.getD i (0, [])).2) := Lib.hid fun i hi hn he => by unfold keptD; rw [find_at _ _ i hi hn he]; rfl
  have hno : Hid ((∀ j, j < d.came.length → (d.came.getD j (0, [])).1 ≠ k0) → keptD d k0 = none) := Lib.hid fun hn => by unfold keptD; rw [find_no _ _ hn]; rfl
  clear h h0 h1 h2 h4
  generalize hn : d.came.length = n at *
  clear hn
  go_enter Try.func33, Try.ntmps33
  go_wp2
  go_loopw [6] (fun i wr => ∃ k : Nat, k ≤ n ∧ i = .int .i64 k ∧ Hid (∀ j, j < k → (d.came.getD j (0, [])).1 ≠ k0) ∧ wr = w) (fun i _ => n - (intOf i).toNat)
  case atStart => exact ⟨0, by omega, rfl, fun j hj => by omega, rfl⟩
  case round =>
    obtain ⟨k, hk, rfl, hnot, rfl⟩ := hrel
    by_cases hlt : k < n
    · obtain ⟨g, B, cB, rfl, e0, e1, hdat⟩ := hat.out k hlt
      have hb := hkl.out k hlt
      by_cases he : (d.came.getD k (0, [])).1 = k0
      · have hfin : KeptD col wr d k0 (.returned (.tuple #[.slice B (d.came.getD k (0, [])).2.length cB, .bool true])) wr := by
          have hy := hyes.out k hlt hnot.out he
          refine ⟨B, cB, by rw [hy]; rfl, fun l e => ?_, rfl⟩
          rw [hy] at e; cases e; exact hdat
        replace hfin := Lib.hid hfin
        rw [he] at e0
        clear hdat he hyes hno hat hkl hnot
        generalize (d.came.getD k (0, [])).2.length = L at *
        go_wp2
        go_ret2
        exact hfin.out
      · have hnot' : Hid (∀ j, j < k + 1 → (d.came.getD j (0, [])).1 ≠ k0) := Lib.hid fun j hj => by
          by_cases e : j = k
          · subst e; exact he
          · exact hnot.out j (by omega)
        generalize (d.came.getD k (0, [])).1 = N at *
        have hne : ((N : Int) == (k0 : Int)) = false := by rw [beq_eq_false_iff_ne]; omega
        clear hdat hnot
        go_wp2
        go_roundw
        case rel => exact ⟨k + 1, by omega, by go_num, hnot', trivial⟩
        case measure => simp [intOf]; omega
    · obtain rfl : k = n := by omega
      have hfin : KeptD col wr d k0 (.returned (.tuple #[.slice none 0 0, .bool false])) wr := by
        have hy := hno.out hnot.out
        exact ⟨none, 0, by rw [hy]; rfl, (fun l e => by rw [hy] at e; cases e), rfl⟩
      replace hfin := Lib.hid hfin
      clear hyes hno hat hkl hnot
      go_wp2
      go_ret2
      exact hfin.out
end
end Go.Proofs.Ythiadkpndemeeaa.lnkPb
