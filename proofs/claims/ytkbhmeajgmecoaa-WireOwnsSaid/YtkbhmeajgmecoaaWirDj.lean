/- readBy: a reader's throw is caught. -/
import Derived.Test.YtkbhmeajgmecoaaWirDi
import Derived.Defers
import Derived.Recover
import Derived.Laws.Pointers
namespace Go.Proofs.Ytkbhmeajgmecoaa.wirDj
open Go.ChangeShapes Go.WideShapes Go.ChangeAt Go.RowKit Go.Deep
open numM rowA byt numA numB numC numN numD numE wirM wirA wirL wirP wirQ wirR wirDa wirDb wirDc wirDd wirDe wirDf wirDg wirDh wirDi

theorem catch_idle (pm pe : Nat) (w : World) :
    CallsD Try.prog 60 #[.pointer (some ⟨pm, 0, none⟩), .pointer (some ⟨pe, 0, none⟩)] .returning w fun e u' w' => e = .returned (.tuple #[]) ∧ u' = .returning ∧ w' = w := by
  refine callsD_of_wpS Try.func60 rfl fun c₀ cs hu => ?_
  apply wpS_seq
  apply wpS_region
  simp [wpOpsS, go_sem, recoverD, hu, Try.ntmps60, Exit.thenS]
  refine wpS_of_wp ?_
  have ht : (#[.pointer (some ⟨pm, 0, none⟩), .pointer (some ⟨pe, 0, none⟩)] ++ (Array.replicate 12 undef).setIfInBounds 3 .nilIface : Array Value) = #[.pointer (some ⟨pm, 0, none⟩), .pointer (some ⟨pe, 0, none⟩), undef, undef, undef, .nilIface, undef, undef, undef, undef, undef, undef, undef, undef] := rfl
  rw [ht]
  go_wp2
  cases c₀
  simp_all [bodyPostS, results, Try.results60]
theorem put14_row {w : World} {b : Nat} {T : TypeId} {n : Nat} {f : Nat → Value} (h : w.rowIs b T n f) (cs : Array Value) : ∀ j, (put14 w b cs j).rowIs b T n (fun i => if i < j then cs.getD i undef else f i)
  | 0 => h.congr (fun i _ => by simp)
  | j + 1 => by
    refine ((put14_row h cs j).set j (cs.getD j undef)).congr (fun i _ => ?_)
    by_cases e : i = j
    · subst e; rw [if_pos rfl, if_pos (by omega)]
    · rw [if_neg e]
      by_cases e2 : i < j
      · rw [if_pos e2, if_pos (by omega)]
      · rw [if_neg e2, if_neg (by omega)]
theorem put14_below {B : Nat} {w0 w : World} {b : Nat} (h : Below B w0 w) (hb : B ≤ b) (cs : Array Value) : ∀ j, Below B w0 (put14 w b cs j)
  | 0 => h
  | j + 1 => (put14_below h hb cs j).setCell (p := ⟨b, j, none⟩) hb _
theorem put14_other {w : World} {b c : Nat} (hc : c ≠ b) (cs : Array Value) : ∀ j, (put14 w b cs j).heap[c]? = w.heap[c]?
  | 0 => rfl
  | j + 1 => (Below.heap_setCell _ ⟨b, j, none⟩ _ c hc).trans (put14_other hc cs j)
theorem put14_size {w : World} {b : Nat} (cs : Array Value) : ∀ j, (put14 w b cs j).heap.size = w.heap.size
  | 0 => rfl
  | j + 1 => (World.size_setCell _ _ _).trans (put14_size cs j)
/-- What the catch has done. -/
structure Cau (pm pe k : Nat) (w w' : World) : Prop where
  m : w'.rowIs pm 28 14 (fun i => mz.getD i undef)
  e : w'.rowIs pe 32 1 (fun _ => .int .i64 k)
  bel : ∀ B, B ≤ pm → B ≤ pe → B ≤ w.heap.size → Below B w w'
theorem cau_end {pm pe k : Nat} {w X : World} (h3 : X.rowIs pm 28 14 (fun i => mz.getD i undef)) (h4 : X.rowIs pe 32 1 (fun _ => .int .i64 k)) (hb : ∀ B, B ≤ pm → B ≤ pe → B ≤ w.heap.size → Below B w X) (o : Obj) : Cau pm pe k w (X.alloc o).drew :=
  ⟨h3.of_block (Below.heap_alloc X o pm h3.lt), h4.of_block (Below.heap_alloc X o pe h4.lt), fun B b1 b2 b3 => ((hb B b1 b2 b3).alloc (Nat.le_trans b3 (hb B b1 b2 b3).size) o).drew⟩
theorem cau_mk {pm pe k : Nat} {f g : Nat → Value} {w : World} (hm : w.rowIs pm 28 14 f) (he : w.rowIs pe 32 1 g) (hne : pm ≠ pe) {j : Nat} (hj : 14 ≤ j) (o : Obj) : Cau pm pe k w (((put14 w pm mz j).setCell ⟨pe, 0, none⟩ (.int .i64 k)).alloc o).drew := by
  have h1 : (put14 w pm mz j).rowIs pm 28 14 (fun i => mz.getD i undef) := (put14_row hm mz j).congr (fun i hi => if_pos (by omega))
  have h2 : (put14 w pm mz j).rowIs pe 32 1 g := he.of_block (put14_other (fun e => hne e.symm) mz j)
  have h3 := row_put (p := ⟨pe, 0, none⟩) h1 hne (.int .i64 k)
  have h4 := (h2.set 0 (.int .i64 k)).congr (g := fun _ => .int .i64 k) (fun i hi => if_pos (by omega))
  exact cau_end h3 h4 (fun B b1 b2 b3 => (put14_below (Below.refl B w) b1 mz j).setCell (p := ⟨pe, 0, none⟩) b2 _) o
theorem ta_ok (v : Value) (w : World) : (Instr.typeAssert (.iface 81 v) 20 81 true).run Try.prog w = .ok (.tuple #[v, .bool true]) w := by
  simp [Instr.typeAssert, run_underlying Try.underlying81, go_sem, Result.andThen]
set_option maxRecDepth 100000 in
theorem catch_pan (pm pe k : Nat) (f g : Nat → Value) (w : World) (hm : w.rowIs pm 28 14 f) (he : w.rowIs pe 32 1 g) (hne : pm ≠ pe) :
    CallsD Try.prog 60 #[.pointer (some ⟨pm, 0, none⟩), .pointer (some ⟨pe, 0, none⟩)] (.panicking ({ v := .iface 81 (.agg #[.int .i64 k]), recovered := false } :: [])) w fun e u' w' =>
      e = .returned (.tuple #[]) ∧ u' = .panicking ({ v := .iface 81 (.agg #[.int .i64 k]), recovered := true } :: []) ∧ Cau pm pe k w w' := by
  refine callsD_of_wpS Try.func60 rfl fun c₀ cs hu => ?_
  have hfin := cau_mk (k := k) hm he hne (Nat.le_refl 14) (.cells #[.int .i64 k] 81)
  replace hfin := Lib.hid hfin
  apply wpS_seq
  apply wpS_region
  simp [wpOpsS, go_sem, recoverD, hu, Try.ntmps60, Exit.thenS]
  refine wpS_of_wp ?_
  have ht : (#[.pointer (some ⟨pm, 0, none⟩), .pointer (some ⟨pe, 0, none⟩)] ++ (Array.replicate 12 undef).setIfInBounds 3 (.iface 81 (.agg #[.int .i64 k])) : Array Value) = #[.pointer (some ⟨pm, 0, none⟩), .pointer (some ⟨pe, 0, none⟩), undef, undef, undef, .iface 81 (.agg #[.int .i64 k]), undef, undef, undef, undef, undef, undef, undef, undef] := rfl
  rw [ht]
  clear ht
  have hta := ta_ok (.agg #[.int .i64 k])
  have hml := hm.lt
  have hel := he.lt
  have hmc := fun i (h : i < 14) => hm.cell (i := i) h
  have hmf := hm.frozen
  have hec := he.cell (i := 0) (by omega)
  have hef := he.frozen 0
  have m0 := hmf 0
  have m1 := hmf 1
  have m2 := hmf 2
  have m3 := hmf 3
  have m4 := hmf 4
  have m5 := hmf 5
  have m6 := hmf 6
  have m7 := hmf 7
  have m8 := hmf 8
  have m9 := hmf 9
  have m10 := hmf 10
  have m11 := hmf 11
  have m12 := hmf 12
  have m13 := hmf 13
  have c0 := hmc 0 (by omega)
  have c1 := hmc 1 (by omega)
  have c2 := hmc 2 (by omega)
  have c3 := hmc 3 (by omega)
  have c4 := hmc 4 (by omega)
  have c5 := hmc 5 (by omega)
  have c6 := hmc 6 (by omega)
  have c7 := hmc 7 (by omega)
  have c8 := hmc 8 (by omega)
  have c9 := hmc 9 (by omega)
  have c10 := hmc 10 (by omega)
  have c11 := hmc 11 (by omega)
  have c12 := hmc 12 (by omega)
  have c13 := hmc 13 (by omega)
  clear hmc hmf hm he
  have hne2 : pe ≠ pm := fun e => hne e.symm
  go_wp2
  go_region
  go_wp2
  have hf := hfin.out
  clear hfin
  clear hta hec hef m0 m1 m2 m3 m4 m5 m6 m7 m8 m9 m10 m11 m12 m13 c0 c1 c2 c3 c4 c5 c6 c7 c8 c9 c10 c11 c12 c13
  change bodyPostS _ _ _ _ _ _ _ _ (((put14 w pm mz 14).setCell ⟨pe, 0, none⟩ (.int .i64 k)).alloc (.cells #[.int .i64 k] 81)).drew
  generalize (((put14 w pm mz 14).setCell ⟨pe, 0, none⟩ (.int .i64 k)).alloc (.cells #[.int .i64 k] 81)).drew = W at *
  cases c₀
  simp [bodyPostS, results, Try.results60]
  exact hf
end Go.Proofs.Ytkbhmeajgmecoaa.wirDj
