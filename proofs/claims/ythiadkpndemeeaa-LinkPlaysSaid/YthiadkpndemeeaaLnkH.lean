/- The contracts of keep and takeInTurn. -/
import Derived.Test.YthiadkpndemeeaaLnkG
import Derived.Deep.LoopGhost
namespace Go.Proofs.Ythiadkpndemeeaa.lnkH
open Go.ChangeShapes Go.WideShapes Go.ChangeAt Go.RowKit Go.Deep
open numM rowA byt numA numB numC lnkA lnkB lnkC lnkD lnkE lnkG

theorem law : Maps.Keyed Try.prog 3 := Maps.int_keyed Try.underlying3
theorem hkey (k : Nat) (h : k ≤ 9223372036854775807) : keyOf Try.prog 3 (.int .i64 (k : Int)) = some (kL k) := Maps.keyOf_int_mk Try.underlying3 (WalkArith.wf_i64 (by omega))
theorem zeroE (w : World) : (zeroValue 29).run Try.prog w = .ok (.slice none 0 0) w := by kernel_rfl
theorem kL_ne {a b : Nat} (h : a ≠ b) : kL a ≠ kL b := by unfold kL; simp; omega

/-! ### keep -/
def keepS (s : St) (q : Nat) (l : List Nat) : St := if (s.ear q).isSome then s else { s with ear := fun k => if k = q then some l else s.ear k, cnt := s.cnt + 1 }
theorem ok_keep {s : St} (h : s.ok) {q : Nat} {l : List Nat} (h1 : s.got < q) (h2 : q ≤ s.got + 16) (hc : s.cnt < 1000000) : (keepS s q l).ok := by
  unfold keepS
  split
  · exact h
  · exact
      { cnt := by show s.cnt + 1 ≤ _; omega
        sent := by have := h.sent; show s.acked + s.wait.length ≤ s.cnt + 1; omega
        got := by have := h.got; show s.got ≤ 16 * (s.cnt + 1); omega
        wait := h.wait
        body := h.body
        ear := fun k hk => by
          by_cases e : k = q
          · subst e; exact ⟨h1, h2⟩
          · simp only [if_neg e] at hk
            exact h.ear k hk }
theorem end_kept {col : Nat → Nat} {c : Nat} {w w1 w2 : World} {p q : Nat} {s : St} {v : Value} {m : Nat} {xs : List Value} {n : Nat} {D : DataW Value} {l : List Nat} {A : Option Addr} {cap : Nat} (h : EndIs col c w p s v m xs n D) (hc : c ≠ 0) (hf : Fresh col w)
    (hB : Below w.heap.size w w1) (ho : Own w1 w.heap.size (.slice A l.length cap) l.length l) (hm : w2.ownsMap Try.prog 3 hR m (n + 1) (D.put (kL q) (.held (.slice A l.length cap)))) (ht : w1.mapTurned w2 m)
    (hq : s.ear q = none) (h1 : s.got < q) (h2 : q ≤ s.got + 16) (hcn : s.cnt < 1000000) :
    Chg col c w w2 ∧ EndIs col c w2 p { s with ear := fun k => if k = q then some l else s.ear k, cnt := s.cnt + 1 } v m xs (n + 1) (D.put (kL q) (.held (.slice A l.length cap))) := by
  have hI := h.below hB
  have hgr := ht.grown
  have hch1 : Chg col c w1 w2 := Chg.grown hgr (fun k e => by cases e; exact h.cm)
  have hch : Chg col c w w2 := (Chg.of_below _ _ hB).tran hch1
  refine ⟨hch, ?_⟩
  have hmp := map_row hI.map hI.row
  have hd : Dat col w2 (.slice A l.length cap) l := (Dat.of_makes ho hf).go hch1 hc (Ext.refl _ _)
  have hisM : Maps.IsMap D := World.ownsMap.isMap h.map
  have hkl : WideAt.IsKeyLit (kL q) := law.key (hkey q (by have := h.ok.got; omega))
  exact
    { row := hI.row.of_block (hgr.block p hI.row.lt (fun e => hmp (by cases e; rfl)))
      own := own_block hI.own (fun k e => hgr.block k (hI.own.lt k e).2 (fun e' => map_own hI.map hI.own (by rw [← e', ← e])))
      dat := hI.dat.go hch1 hc (Ext.refl _ _)
      map := hm
      nle := by have := h.nle; show n + 1 ≤ s.cnt + 1; omega
      ear := fun k => by
        by_cases e : k = q
        · subst e
          refine ⟨?_, fun x hx => ?_⟩
          · rw [Maps.has_put_same hisM hkl]; simp
          · simp only [if_pos] at hx
            cases hx
            exact ⟨_, fun z => Maps.atKey_put_same hisM hkl _ z, hd⟩
        · have := h.ear k
          refine ⟨?_, fun x hx => ?_⟩
          · rw [Maps.has_put_other (kL_ne e)]; simp only [if_neg e]; exact this.1
          · simp only [if_neg e] at hx
            obtain ⟨u, h3, h4⟩ := this.2 x hx
            exact ⟨u, fun z => by rw [Maps.atKey_put_other (kL_ne e)]; exact h3 z, h4.go hch hc (Ext.refl _ _)⟩
      cp := h.cp
      cm := h.cm
      cv := h.cv
      ok := by
        have := ok_keep (l := l) h.ok h1 h2 hcn
        unfold keepS at this
        rw [hq] at this
        exact this }
def Kept (col : Nat → Nat) (c p : Nat) (s : St) (q : Nat) (l : List Nat) (w : World) (e : Ending) (w' : World) : Prop := e = .returned (.tuple #[]) ∧ Chg col c w w' ∧ EndAt col c w' p (keepS s q l)
set_option maxRecDepth 100000 in
set_option maxHeartbeats 1000000 in
theorem keep_any {col : Nat → Nat} {c p : Nat} {s : St} (q : Nat) (A : Option Addr) (cap : Nat) (l : List Nat) (w : World) (h : EndAt col c w p s) (hb : BL w A l.length l) (hl : l.length ≤ 140737488355328) (hc : c ≠ 0) (hf : Fresh col w) (h1 : s.got < q) (h2 : q ≤ s.got + 16) (hcn : s.cnt < 1000000) :
    Calls Try.prog 30 #[.pointer (some ⟨p, 0, none⟩), .int .i64 (q : Int), .slice A l.length cap] w (Kept col c p s q l w) := by
  obtain ⟨v, m, xs, n, D, hI⟩ := h
  obtain ⟨c0, c1, c2, c3, c4⟩ := hI.cells
  have hq9 : q ≤ 9223372036854775807 := by have := hI.ok.got; omega
  have hk := hkey q hq9
  obtain ⟨u, ps, hlook, -⟩ := World.ownsMap.look_ok (w := w) (P := Try.prog) hI.map law Try.underlying62 (zeroE w) (zd := .held (.slice none 0 0)) (zp := []) rfl hk
  rw [(hI.ear q).1] at hlook
  have hll := hb.2.1
  cases he : s.ear q with
  | some x =>
    rw [he] at hlook
    have hS : Hid (Kept col c p s q l w (.returned (.tuple #[])) w) := Lib.hid ⟨rfl, Chg.refl _ _ _, by unfold keepS; rw [he]; exact ⟨v, m, xs, n, D, hI⟩⟩
    simp only [Option.isSome_some] at hlook
    clear hI c0 c1 c2 c3 hb hk he
    go_enter Try.func30, Try.ntmps30
    go_wp2
    go_end0
    exact hS.out
  | none =>
    rw [he] at hlook
    simp only [Option.isSome_none] at hlook
    have hS : Hid (∀ w1 w2 A2 c2, Below w.heap.size w w1 → Own w1 w.heap.size (.slice A2 l.length c2) l.length l → w2.ownsMap Try.prog 3 hR m (n + 1) (D.put (kL q) (.held (.slice A2 l.length c2))) → w1.mapTurned w2 m → Kept col c p s q l w (.returned (.tuple #[])) w2) := by
      intro w1 w2 A2 c2 q1 q2 q3 q4
      obtain ⟨q5, q6⟩ := end_kept hI hc hf q1 q2 q3 q4 he h1 h2 hcn
      exact ⟨rfl, q5, by unfold keepS; rw [he]; exact ⟨_, _, _, _, _, q6⟩⟩
    have hst : Hid (∀ w1 A2 c2, Below w.heap.size w w1 → ∃ w', (Instr.mapUpdate 62 (.map (some m)) (.int .i64 (q : Int)) (.slice A2 l.length c2)).run Try.prog w1 = .ok () w' ∧ w'.ownsMap Try.prog 3 hR m (n + 1) (D.put (kL q) (.held (.slice A2 l.length c2))) ∧ w1.mapTurned w' m) := by
      intro w1 A2 c2 q1
      exact World.ownsMap.store (ps := []) (hI.below q1).map law Try.underlying62 (by have := hI.nle; unfold maxLen; omega) hk rfl
    have hbd : Hid (BL w.drew A l.length l) := Lib.hid hb
    have hplt := hI.row.lt
    clear hI c0 c1 c2 c3 hb hk he
    go_enter Try.func30, Try.ntmps30
    go_wp2
    clear hlook
    go_region_law (go_simp; go_at_call 27; (with_reducible refine (copy_any A l.length cap l _ hbd.out (by assumption)).mono ?_); rintro e w' ⟨A2, c2, rfl, ho, hB⟩; have hB' := Lib.hid (undrew hB); have ho' := Lib.hid ho; have hp2 := (hB.cell (p := ⟨p, 4, none⟩) hplt).trans c4; obtain ⟨w3, hrun, hm3, ht3⟩ := hst.out w' A2 c2 (undrew hB); clear hB ho)
    all_goals
      go_wp2
      go_end0
      exact hS.out _ _ _ _ hB'.out ho'.out hm3 ht3

/-! ### takeInTurn -/
/-- how many are kept from g + 1 on, without a gap -/
def runLen (ear : Nat → Option (List Nat)) : Nat → Nat → Nat
  | _, 0 => 0
  | g, f + 1 => if (ear (g + 1)).isSome then runLen ear (g + 1) f + 1 else 0
theorem runLen_eq (ear : Nat → Option (List Nat)) : ∀ (f g i : Nat), (∀ j, j < i → (ear (g + 1 + j)).isSome = true) → ear (g + 1 + i) = none → i < f → runLen ear g f = i
  | 0, _, _, _, _, h => by omega
  | f + 1, g, 0, _, hn, _ => by
    rw [Nat.add_zero] at hn
    unfold runLen
    rw [hn]; rfl
  | f + 1, g, i + 1, h, hn, hi => by
    unfold runLen
    rw [if_pos (by have := h 0 (by omega); rwa [Nat.add_zero] at this), runLen_eq ear f (g + 1) i (fun j hj => by have := h (j + 1) (by omega); rwa [show g + 1 + (j + 1) = g + 1 + 1 + j by omega] at this) (by rwa [show g + 1 + (i + 1) = g + 1 + 1 + i by omega] at hn) (by omega)]
/-- so many are taken -/
def takeN (s : St) (i : Nat) : St := { s with got := s.got + i, ear := fun k => if k ≤ s.got + i then none else s.ear k }
def takeL (s : St) (i : Nat) : List (List Nat) := (List.range i).map fun j => (s.ear (s.got + 1 + j)).getD []
theorem takeL_succ (s : St) (i : Nat) {l : List Nat} (h : s.ear (s.got + 1 + i) = some l) : takeL s (i + 1) = takeL s i ++ [l] := by
  unfold takeL
  rw [List.range_succ, List.map_append, List.map_singleton, h]; rfl
theorem takeL_len (s : St) (i : Nat) : (takeL s i).length = i := by simp [takeL]
def turnN (s : St) : Nat := runLen s.ear s.got 17
def turnS (s : St) : St := { takeN s (turnN s) with cnt := s.cnt + 1 }
def turnL (s : St) : List (List Nat) := takeL s (turnN s)
theorem ear_none {s : St} (h : s.ok) {k : Nat} (hk : k ≤ s.got ∨ s.got + 16 < k) : s.ear k = none := by
  cases e : s.ear k with
  | none => rfl
  | some x => have := h.ear k (by rw [e]; simp); omega
/-- An end while it is taken from; w0: the world at the start. -/
structure Tkn (col : Nat → Nat) (c : Nat) (w0 w : World) (p : Nat) (s : St) (i : Nat) (v : Value) (m : Nat) (xs : List Value) (n : Nat) (D : DataW Value) : Prop where
  chg : Chg col c w0 w
  row : w.rowIs p 64 5 (cE (takeN s i) v m)
  own : w.ownsRow 0 29 1 v s.wait.length xs
  map : w.ownsMap Try.prog 3 hR m n D
  ear : Ears col w0 D (takeN s i).ear
  pl : p < w0.heap.size
  ml : m < w0.heap.size
  vl : ∀ k, v.ownBlock = some k → k < w0.heap.size
theorem Tkn.start {col : Nat → Nat} {c : Nat} {w : World} {p : Nat} {s : St} {v : Value} {m : Nat} {xs : List Value} {n : Nat} {D : DataW Value} (h : EndIs col c w p s v m xs n D) : Tkn col c w w p s 0 v m xs n D where
  chg := Chg.refl _ _ _
  row := h.row.congr (fun j hj => by
    have : j = 0 ∨ j = 1 ∨ j = 2 ∨ j = 3 ∨ j = 4 := by omega
    rcases this with rfl | rfl | rfl | rfl | rfl <;> rfl)
  own := h.own
  map := h.map
  ear := fun k => by
    have e : (takeN s 0).ear k = s.ear k := by
      show (if k ≤ s.got + 0 then none else s.ear k) = s.ear k
      by_cases e : k ≤ s.got
      · rw [if_pos (by omega)]; exact (ear_none h.ok (.inl e)).symm
      · rw [if_neg (by omega)]
    rw [e]; exact h.ear k
  pl := h.row.lt
  ml := h.mlt
  vl := fun k e => (h.own.lt k e).2
/-- It stays while what has been made since changes. -/
theorem Tkn.grown {col : Nat → Nat} {c : Nat} {w0 w w' : World} {p : Nat} {s : St} {i : Nat} {v : Value} {m : Nat} {xs : List Value} {n : Nat} {D : DataW Value} {x : Option Nat} (h : Tkn col c w0 w p s i v m xs n D) (hg : w.grownBy w' x) (hx : ∀ k, x = some k → w0.heap.size ≤ k) : Tkn col c w0 w' p s i v m xs n D := by
  have hs := h.chg.size
  have hne : ∀ k, k < w0.heap.size → some k ≠ x := fun k hk e => by have := hx k e.symm; omega
  exact
    { chg := ⟨hg.os.trans h.chg.os, hg.tape.trans h.chg.tape, hg.output.trans h.chg.output, Nat.le_trans hs hg.size, fun k hk hc => (hg.block k (by omega) (hne k hk)).trans (h.chg.block k hk hc)⟩
      row := h.row.of_block (hg.block p h.row.lt (hne p h.pl))
      own := own_block h.own (fun k e => hg.block k (h.own.lt k e).2 (hne k (h.vl k e)))
      map := map_block h.map (hg.block m (World.ownsMap.lt h.map) (hne m h.ml))
      ear := h.ear
      pl := h.pl
      ml := h.ml
      vl := h.vl }
/-- One is taken: its number is laid down, and it is struck from the map. -/
theorem Tkn.next {col : Nat → Nat} {c : Nat} {w0 w w2 : World} {p : Nat} {s : St} {i : Nat} {v : Value} {m : Nat} {xs : List Value} {n : Nat} {D : DataW Value} (h : Tkn col c w0 w p s i v m xs n D) (cp : col p = c) (cm : col m = c)
    (hm : w2.ownsMap Try.prog 3 hR m n (D.del (kL (s.got + i + 1)))) (ht : (w.setCell ⟨p, 3, none⟩ (.int .i64 ((s.got + i : Nat) + 1 : Int))).grownBy w2 (some m)) :
    Tkn col c w0 w2 p s (i + 1) v m xs n (D.del (kL (s.got + i + 1))) ∧ ∀ {u : Value} {k : Nat} {us : List Value}, w.ownsRow w0.heap.size 29 1 u k us → w2.ownsRow w0.heap.size 29 1 u k us := by
  have hch1 : Chg col c w0 (w.setCell ⟨p, 3, none⟩ (.int .i64 ((s.got + i : Nat) + 1 : Int))) := h.chg.setCell cp _
  have hch : Chg col c w0 w2 := hch1.tran (Chg.grown ht (fun k e => by cases e; exact cm))
  have hmp := map_row h.map h.row
  have hr : (w.setCell ⟨p, 3, none⟩ (.int .i64 ((s.got + i : Nat) + 1 : Int))).rowIs p 64 5 (cE (takeN s (i + 1)) v m) := (h.row.set 3 _).congr (fun j hj => by
    have : j = 0 ∨ j = 1 ∨ j = 2 ∨ j = 3 ∨ j = 4 := by omega
    rcases this with rfl | rfl | rfl | rfl | rfl <;> rfl)
  have hpv : v.ownBlock ≠ some p := row_apart h.row h.own (by decide)
  refine ⟨?_, fun {u k us} ho => own_block ho (fun k' e => ?_)⟩
  · exact
      { chg := hch
        row := hr.of_block (ht.block p hr.lt (fun e => hmp (by cases e; rfl)))
        own := own_block h.own (fun k e => by
          have hkp : k ≠ p := by rintro rfl; exact hpv e
          rw [ht.block k (by rw [World.size_setCell]; exact (h.own.lt k e).2) (fun e' => map_own h.map h.own (by rw [← e', ← e])), Below.heap_setCell _ _ _ _ hkp])
        map := hm
        pl := h.pl
        ml := h.ml
        vl := h.vl
        ear := fun k => by
          have h0 := h.ear k
          have e0 : (takeN s (i + 1)).ear k = if k = s.got + i + 1 then none else (takeN s i).ear k := by
            simp only [takeN]
            by_cases e : k = s.got + i + 1
            · rw [if_pos (by omega), if_pos e]
            · by_cases e' : k ≤ s.got + i
              · rw [if_pos (by omega), if_neg e, if_pos e']
              · rw [if_neg (by omega), if_neg e, if_neg e']
          rw [e0]
          by_cases e : k = s.got + i + 1
          · subst e
            rw [if_pos rfl, Maps.has_del_same]
            exact ⟨rfl, fun x hx => by cases hx⟩
          · rw [if_neg e, Maps.has_del_other (kL_ne e)]
            refine ⟨h0.1, fun x hx => ?_⟩
            obtain ⟨u, h3, h4⟩ := h0.2 x hx
            exact ⟨u, fun z => by rw [Maps.atKey_del_other (kL_ne e)]; exact h3 z, h4⟩ }
  · have hlt := ho.lt k' e
    rw [ht.block k' (by rw [World.size_setCell]; exact hlt.2) (fun e' => by cases e'; have := h.ml; omega), Below.heap_setCell _ _ _ _ (by have := h.pl; simp; omega)]
/-- What takeInTurn answers: a row of its own, with bytes that nobody changes any more. -/
def Turnd (col : Nat → Nat) (c p : Nat) (s : St) (w : World) (e : Ending) (w' : World) : Prop :=
  ∃ b us, e = .returned b ∧ w'.ownsRow w.heap.size 29 1 b (turnL s).length us ∧ Dats col w' us (turnL s) ∧ Chg col c w w' ∧ EndAt col c w' p (turnS s)
theorem bodies_app {col : Nat → Nat} {w : World} {s : St} {i : Nat} {us : List Value} {u : Value} {l : List Nat} (h : Dats col w us (takeL s i)) (hd : Dat col w u l) (he : s.ear (s.got + i + 1) = some l) : Dats col w (us ++ [u]) (takeL s (i + 1)) := by
  rw [takeL_succ s i (l := l) (by rw [show s.got + 1 + i = s.got + i + 1 by omega]; exact he)]
  exact h.snoc hd
theorem turn_end {col : Nat → Nat} {c : Nat} {w w' : World} {p : Nat} {s : St} {i : Nat} {v : Value} {m : Nat} {xs : List Value} {n : Nat} {D0 D : DataW Value} {b : Value} {us : List Value} (h : EndIs col c w p s v m xs n D0) (hc : c ≠ 0) (hcn : s.cnt < 1000000)
    (hi : i ≤ 16) (hall : ∀ j, j < i → (s.ear (s.got + 1 + j)).isSome = true) (hT : Tkn col c w w' p s i v m xs n D) (ho : w'.ownsRow w.heap.size 29 1 b i us) (hd : Dats col w us (takeL s i)) (he : s.ear (s.got + i + 1) = none) :
    Turnd col c p s w (.returned b) w' := by
  have e : turnN s = i := runLen_eq s.ear 17 s.got i hall (by rw [show s.got + 1 + i = s.got + i + 1 by omega]; exact he) (by omega)
  have eL : turnL s = takeL s i := by unfold turnL; rw [e]
  refine ⟨b, us, rfl, by rw [eL, takeL_len]; exact ho, by rw [eL]; exact hd.go hT.chg hc (Ext.refl _ _), hT.chg, v, m, xs, n, D, ?_⟩
  have hok := h.ok
  unfold turnS
  rw [e]
  exact
    { row := hT.row
      own := hT.own
      dat := h.dat.go hT.chg hc (Ext.refl _ _)
      map := hT.map
      nle := by have := h.nle; show n ≤ s.cnt + 1; omega
      ear := hT.ear.go hT.chg hc (Ext.refl _ _)
      cp := h.cp
      cm := h.cm
      cv := h.cv
      ok :=
        { cnt := by show s.cnt + 1 ≤ _; omega
          sent := by have := hok.sent; show s.acked + s.wait.length ≤ s.cnt + 1; omega
          got := by have := hok.got; show s.got + i ≤ 16 * (s.cnt + 1); omega
          wait := hok.wait
          body := hok.body
          ear := fun k hk => by
            simp only [takeN] at hk
            show s.got + i < k ∧ k ≤ s.got + i + 16
            by_cases e1 : k ≤ s.got + i
            · rw [if_pos e1] at hk; exact absurd rfl hk
            · rw [if_neg e1] at hk
              have := hok.ear k hk
              omega } }
/-- What a look into the map tells, and what a strike from it does. -/
theorem Tkn.look {col : Nat → Nat} {c : Nat} {w0 w : World} {p : Nat} {s : St} {i : Nat} {v : Value} {m : Nat} {xs : List Value} {n : Nat} {D : DataW Value} (h : Tkn col c w0 w p s i v m xs n D) (hg : s.got + i ≤ 20000000) :
    ∃ u ps, (Instr.lookup 62 (.map (some m)) (.int .i64 (((s.got + i : Nat) : Int) + 1)) true).run Try.prog w.drew = .ok (.tuple #[u, .bool (s.ear (s.got + i + 1)).isSome]) w.drew ∧ hR u = some (D.atKey (kL (s.got + i + 1)) (.held (.slice none 0 0)), ps) := by
  obtain ⟨u, ps, h1, h2⟩ := World.ownsMap.look_ok (w := w.drew) (P := Try.prog) h.map law Try.underlying62 (zeroE w.drew) (zd := .held (.slice none 0 0)) (zp := []) rfl (hkey (s.got + i + 1) (by omega))
  refine ⟨u, ps, ?_, h2⟩
  have e : (takeN s i).ear (s.got + i + 1) = s.ear (s.got + i + 1) := by simp only [takeN]; rw [if_neg (by omega)]
  rw [(h.ear (s.got + i + 1)).1, e] at h1
  exact h1
theorem Tkn.drew {col : Nat → Nat} {c : Nat} {w0 w : World} {p : Nat} {s : St} {i : Nat} {v : Value} {m : Nat} {xs : List Value} {n : Nat} {D : DataW Value} (h : Tkn col c w0 w p s i v m xs n D) : Tkn col c w0 w.drew p s i v m xs n D :=
  ⟨h.chg.drew, h.row, h.own, h.map, h.ear, h.pl, h.ml, h.vl⟩
theorem Tkn.strike {col : Nat → Nat} {c : Nat} {w0 w : World} {p : Nat} {s : St} {i : Nat} {v : Value} {m : Nat} {xs : List Value} {n : Nat} {D : DataW Value} (h : Tkn col c w0 w p s i v m xs n D) (hg : s.got + i ≤ 20000000) (ty : TypeId) :
    ∃ w', (Builtin.delete_ #[62, 3] ty #[.map (some m), .int .i64 (((s.got + i : Nat) : Int) + 1)]).run Try.prog (w.setCell ⟨p, 3, none⟩ (.int .i64 (((s.got + i : Nat) : Int) + 1))).drew.drew = .ok (.tuple #[]) w' ∧
      w'.ownsMap Try.prog 3 hR m n (D.del (kL (s.got + i + 1))) ∧ (w.setCell ⟨p, 3, none⟩ (.int .i64 (((s.got + i : Nat) : Int) + 1))).grownBy w' (some m) := by
  obtain ⟨w', h1, h2, h3⟩ := World.ownsMap.drop (w := (w.setCell ⟨p, 3, none⟩ (.int .i64 (((s.got + i : Nat) : Int) + 1))).drew.drew) (map_block h.map (Below.heap_setCell _ _ _ _ (map_row h.map h.row))) law Try.underlying62 (hkey (s.got + i + 1) (by omega)) ty
  have h4 := h3.grown
  exact ⟨w', h1, h2, ⟨h4.os, h4.tape, h4.output, h4.size, h4.block⟩⟩
theorem Tkn.got {col : Nat → Nat} {c : Nat} {w0 w : World} {p : Nat} {s : St} {i : Nat} {v : Value} {m : Nat} {xs : List Value} {n : Nat} {D : DataW Value} (h : Tkn col c w0 w p s i v m xs n D) {l : List Nat} (he : s.ear (s.got + i + 1) = some l) :
    ∃ u, (∀ z, D.atKey (kL (s.got + i + 1)) z = .held u) ∧ Dat col w0 u l := by
  have e : (takeN s i).ear (s.got + i + 1) = s.ear (s.got + i + 1) := by simp only [takeN]; rw [if_neg (by omega)]
  exact (h.ear (s.got + i + 1)).2 l (e.trans he)
set_option maxRecDepth 100000 in
set_option maxHeartbeats 2000000 in
theorem turn_any {col : Nat → Nat} {c p : Nat} {s : St} (w : World) (h : EndAt col c w p s) (hc : c ≠ 0) (hcn : s.cnt < 1000000) :
    Calls Try.prog 31 #[.pointer (some ⟨p, 0, none⟩)] w (Turnd col c p s w) := by
  obtain ⟨v, m, xs, n, D0, hI⟩ := h
  obtain ⟨i0, hi0, hz0, hz1, hz2⟩ := info_parts info24
  have hg9 : s.got ≤ 16000000 := by have := hI.ok.got; have := hI.ok.cnt; omega
  have hT0 := Lib.hid (Tkn.start hI)
  have hcp := Lib.hid hI.cp
  have hcm := Lib.hid hI.cm
  have hend : Hid (∀ w' i D b us, i ≤ 16 → (∀ j, j < i → (s.ear (s.got + 1 + j)).isSome = true) → Tkn col c w w' p s i v m xs n D → w'.ownsRow w.heap.size 29 1 b i us → Dats col w us (takeL s i) → s.ear (s.got + i + 1) = none → Turnd col c p s w (.returned b) w') :=
    Lib.hid fun w' i D b us h1 h2 h3 h4 h5 h6 => turn_end hI hc hcn h1 h2 h3 h4 h5 h6
  have hlim : Hid (∀ k, s.ear k ≠ none → k ≤ s.got + 16) := Lib.hid fun k hk => (hI.ok.ear k hk).2
  clear hI
  go_enter Try.func31, Try.ntmps31
  go_wp2
  go_loopg [3] 17 (fun g b wr => ∃ (i : Nat) (D : DataW Value) (us : List Value), g + i = 17 ∧ i ≤ 16 ∧ Hid (∀ j, j < i → (s.ear (s.got + 1 + j)).isSome = true) ∧ Hid (Tkn col c w wr p s i v m xs n D) ∧ Hid (wr.ownsRow w.heap.size 29 1 b i us) ∧ Hid (Dats col w us (takeL s i)))
  case atStart => exact ⟨0, D0, [], by omega, by omega, fun j hj => by omega, hT0, World.ownsRow_nil _ _ _ 1, trivial⟩
  case round =>
    obtain ⟨i, D, us, hgi, hi16, hall, hT, hown, hdats⟩ := hrel
    clear hT0
    obtain ⟨u, ps, hlook, hu⟩ := hT.out.look (by omega)
    have c3 : wr.cell? ⟨p, 3, none⟩ = some (.int .i64 ((s.got + i : Nat) : Int)) := hT.out.row.cell (i := 3) (by omega)
    have c4 : wr.cell? ⟨p, 4, none⟩ = some (.map (some m)) := hT.out.row.cell (i := 4) (by omega)
    have f3 : wr.frozen? ⟨p, 3, none⟩ = false := hT.out.row.frozen 3
    obtain ⟨A1, cp1, rfl, -, -⟩ := own_form hown.out
    cases he : s.ear (s.got + i + 1) with
    | none =>
      rw [he] at hlook
      simp only [Option.isSome_none] at hlook
      have hfin := Lib.hid (hend.out wr.drew _ _ _ _ hi16 hall.out hT.out.drew hown.out hdats.out he)
      have e1 := wrap_in (((s.got + i : Nat) : Int) + 1) (by omega) (by omega)
      clear hu hT hown hdats hall he hend hlim
      generalize s.got + i = G at *
      go_wp2
      go_region
      go_wp2
      go_ret
      exact hfin.out
    | some l =>
      rw [he] at hlook
      simp only [Option.isSome_some] at hlook
      obtain ⟨u', hat, hd⟩ := hT.out.got he
      obtain rfl : u = u' := by
        rw [hat] at hu
        simp only [hR, Option.some.injEq, Prod.mk.injEq, DataW.held.injEq] at hu
        exact hu.1
      have hdats' := Lib.hid (bodies_app hdats.out hd he)
      have hi15 : i < 16 := by have := hlim.out (s.got + i + 1) (by rw [he]; simp); omega
      have hall' : Hid (∀ j, j < i + 1 → (s.ear (s.got + 1 + j)).isSome = true) := Lib.hid fun j hj => by
        by_cases e : j = i
        · subst e; rw [show s.got + 1 + j = s.got + j + 1 by omega, he]; rfl
        · exact hall.out j (by omega)
      have e1 := wrap_in (((s.got + i : Nat) : Int) + 1) (by omega) (by omega)
      obtain ⟨A2, cA2, rfl, -, -⟩ := hd
      clear hu hall hdats he hat
      have hdrop := Lib.hid (hT.out.strike (by omega))
      have hG9 : s.got + i ≤ 16000016 := by omega
      generalize hG : s.got + i = G at *
      replace hG := Lib.hid hG
      go_wp2
      go_region
      clear hlook
      obtain ⟨w6, hrun, hm6, hg6⟩ := hdrop.out 0
      go_wp2
      go_region
      clear hrun c3 c4 f3
      rw [← hG.out] at hm6 hg6
      obtain ⟨hT6, ho6⟩ := hT.out.next hcp.out hcm.out hm6 hg6
      have ho7 := Lib.hid ((ho6 hown.out).alloc (.cells #[.slice A2 l.length cA2] 29))
      have hT7 := Lib.hid (hT6.grown (World.grownBy_alloc w6 (.cells #[.slice A2 l.length cA2] 29) none) (fun k e => by cases e))
      have hlo := Lib.hid (show ∀ k, (Value.slice A1 i cp1).ownBlock = some k → w.heap.size ≤ k from fun k e => (hown.out.lt k e).1)
      have hs6 := Lib.hid (show w.heap.size ≤ (w6.alloc (.cells #[.slice A2 l.length cA2] 29)).heap.size from hT7.out.chg.size)
      clear hm6 hg6 hT6 ho6 hT hown
      go_wp2_with (at_builtin; refine wpList_append_own_at _ rfl (.tmp 37) (.tmp 39) 25 rfl w.heap.size 29 i0 (.slice none 0 0) 1 24 Try.underlying25 hi0 hz0 hz1 hz2 rfl (by decide) (.slice A1 i cp1) i us rfl ho7.out ⟨w6.heap.size, 0, none⟩ 1 1 [.slice A2 l.length cA2] rfl rfl (cell_one_new _ _ _) (by intro u hu; simp at hu; subst hu; rfl) ?k1 ?k2 ?k3 ?_)
      case k1 => unfold maxLen; omega
      case k2 => omega
      case k3 => exact hs6.out
      intro v9 w9 ho9 hg9 _ _
      have hT9 := Lib.hid (hT7.out.grown hg9 hlo.out)
      replace ho9 := Lib.hid ho9
      clear hg9 ho7 hT7
      go_wp2
      go_roundg (17 - (i + 1))
      case rel => exact ⟨i + 1, _, _, by omega, by omega, hall', hT9, ho9, hdats'⟩
      case measure => omega
end Go.Proofs.Ythiadkpndemeeaa.lnkH
