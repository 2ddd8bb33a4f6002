/- Two ends and what is on its way between them, plainly: what comes is a beginning of what was sent. -/
import Derived.Test.YthiadkpndemeeaaLnkJ
namespace Go.Proofs.Ythiadkpndemeeaa.lnkQ
open lnkA lnkD lnkE lnkG lnkH lnkI

structure Mv where
  kind : Int
  at_ : Int
  body : List Nat
structure Tw where
  a : St
  b : St
  row : List (Fm × Bool)
  sent : List (List Nat)
  came : List (List Nat)
def outL (s : St) : List Fm := (List.range (outN s)).map (outF s)
def noteF (s : St) : Fm := ⟨0, s.ep, 0, s.got, []⟩
def F0 : Fm × Bool := (⟨0, 0, 0, 0, []⟩, false)
/-- which one of the row: the remainder of an unsigned number -/
def pickT (at_ : Int) (n : Nat) : Nat := (at_ % 18446744073709551616).toNat % n
def recvT (x : Tw) (f : Fm × Bool) : Tw :=
  if f.2 then { x with b := inS x.b f.1, came := x.came ++ inL x.b f.1 } else { x with a := inS x.a f.1, came := x.came ++ inL x.a f.1 }
def cutT (x : Tw) (i : Nat) : Tw := { x with row := x.row.take i ++ x.row.drop (i + 1) }
def moveTw (x : Tw) (m : Mv) : Tw :=
  if m.kind = 0 then (if sendE x.a m.body = 0 then { x with a := sendS x.a m.body, sent := x.sent ++ [m.body] } else { x with a := sendS x.a m.body })
  else if m.kind = 1 then { x with row := x.row ++ (outL x.a).map (fun f => (f, true)) }
  else if m.kind = 2 then { x with row := x.row ++ [(noteF x.b, false)] }
  else if m.kind = 3 ∨ m.kind = 4 ∨ m.kind = 5 then
    if x.row.length = 0 then x
    else
      let i := pickT m.at_ x.row.length
      let f := x.row.getD i F0
      if m.kind = 5 then cutT x i else recvT (if m.kind = 4 then x else cutT x i) f
  else x

structure GoodT (x : Tw) (n : Nat) : Prop where
  ep : x.b.ep = x.a.ep
  acn : x.a.cnt ≤ 3 * n
  bcn : x.b.cnt ≤ 3 * n
  rl : x.row.length ≤ 16 * n
  sl : x.sent.length ≤ n
  aack : x.a.acked ≤ x.sent.length
  await : x.a.wait = x.sent.drop x.a.acked
  agot : x.a.got = 0
  bgot : x.b.got ≤ x.sent.length
  bgw : x.b.got ≤ x.a.acked + 16
  back : x.b.acked = 0
  bwait : x.b.wait = []
  came : x.came = x.sent.take x.b.got
  bear : ∀ k l, x.b.ear k = some l → 1 ≤ k ∧ k ≤ x.sent.length ∧ k ≤ x.a.acked + 16 ∧ l = lth x.sent (k - 1)
  ab : x.a.acked ≤ x.b.got
  first : ∀ f, (f, true) ∈ x.row → f.e = x.a.ep ∧ f.a = 0 ∧ ∃ q : Nat, f.s = q ∧ 1 ≤ q ∧ q ≤ x.sent.length ∧ q ≤ x.a.acked + 16 ∧ f.body = lth x.sent (q - 1)
  note : ∀ f, (f, false) ∈ x.row → f.e = x.a.ep ∧ f.s = 0 ∧ f.body = [] ∧ 0 ≤ f.a ∧ f.a ≤ x.b.got
  body : ∀ l ∈ x.sent, l.length ≤ 1048576
theorem GoodT.new (ep : Int) : GoodT ⟨St.new ep, St.new ep, [], [], []⟩ 0 := by
  refine ⟨rfl, ?_, ?_, ?_, ?_, ?_, ?_, rfl, ?_, ?_, rfl, rfl, ?_, ?_, ?_, ?_, ?_, ?_⟩ <;> simp [St.new]
theorem GoodT.more {x : Tw} {n n' : Nat} (h : GoodT x n) (hn : n ≤ n') : GoodT x n' :=
  { h with acn := by have := h.acn; omega, bcn := by have := h.bcn; omega, rl := by have := h.rl; omega, sl := by have := h.sl; omega }
theorem GoodT.same {x : Tw} {n : Nat} (h : GoodT x n) : x.came.length ≤ x.sent.length ∧ x.came = x.sent.take x.came.length := by
  have hl : x.came.length = x.b.got := by rw [h.came, List.length_take]; have := h.bgot; omega
  exact ⟨by rw [hl]; exact h.bgot, by rw [hl]; exact h.came⟩

theorem lth_app {ls : List (List Nat)} {l : List Nat} {i : Nat} (h : i < ls.length) : lth (ls ++ [l]) i = lth ls i := by
  unfold lth; rw [List.getD_eq_getElem?_getD, List.getD_eq_getElem?_getD, List.getElem?_append_left h]
theorem lth_drop (ls : List (List Nat)) (k i : Nat) : lth (ls.drop k) i = lth ls (k + i) := by
  unfold lth; rw [List.getD_eq_getElem?_getD, List.getD_eq_getElem?_getD, List.getElem?_drop]
/-- a body is sent -/
theorem GoodT.send {x : Tw} {n : Nat} (h : GoodT x n) {l : List Nat} (hl : l.length ≤ 1048576) (_ : sendE x.a l = 0) (hs : sendS x.a l = stPut x.a l) : GoodT { x with a := sendS x.a l, sent := x.sent ++ [l] } (n + 1) := by
  rw [hs]
  have q1 := h.sl; have q2 := h.aack; have q3 := h.bgot; have q4 := h.acn; have q5 := h.bcn; have q6 := h.rl
  refine ⟨h.ep, by show x.a.cnt + 1 ≤ _; omega, by show x.b.cnt ≤ _; omega, by show x.row.length ≤ _; omega, by simp; omega, by simp [stPut]; omega, ?_, h.agot, by simp; omega, h.bgw, h.back, h.bwait, ?_, fun k l' e => ?_, h.ab, fun f hf => ?_, h.note, fun l' hl' => ?_⟩
  · show x.a.wait ++ [l] = (x.sent ++ [l]).drop x.a.acked
    rw [h.await, List.drop_append_of_le_length q2]
  · show x.came = (x.sent ++ [l]).take x.b.got
    rw [h.came, List.take_append_of_le_length q3]
  · obtain ⟨h1, h2, h3, h4⟩ := h.bear k l' e
    exact ⟨h1, by simp; omega, h3, by rw [h4]; exact (lth_app (by omega)).symm⟩
  · obtain ⟨h1, h2, q, h3, h4, h5, h6, h7⟩ := h.first f hf
    exact ⟨h1, h2, q, h3, h4, by simp; omega, h6, by rw [h7]; exact (lth_app (by omega)).symm⟩
  · rcases List.mem_append.1 hl' with hl' | hl'
    · exact h.body l' hl'
    · simp at hl'; rw [hl']; exact hl
/-- frames go on their way -/
theorem out_first {x : Tw} {n : Nat} (h : GoodT x n) {f : Fm} (hf : f ∈ outL x.a) : f.e = x.a.ep ∧ f.a = 0 ∧ ∃ q : Nat, f.s = q ∧ 1 ≤ q ∧ q ≤ x.sent.length ∧ q ≤ x.a.acked + 16 ∧ f.body = lth x.sent (q - 1) := by
  obtain ⟨i, hi, rfl⟩ := List.mem_map.1 hf
  have hi' := List.mem_range.1 hi
  have hw : x.a.wait.length = x.sent.length - x.a.acked := by rw [h.await, List.length_drop]
  have hN : outN x.a ≤ x.a.wait.length ∧ outN x.a ≤ 16 := by unfold outN; omega
  refine ⟨rfl, by show (x.a.got : Int) = 0; rw [h.agot]; rfl, x.a.acked + 1 + i, rfl, by omega, by omega, by omega, ?_⟩
  show lth x.a.wait i = _
  rw [h.await, lth_drop]
  congr 1
  omega
theorem GoodT.out {x : Tw} {n : Nat} (h : GoodT x n) : GoodT { x with row := x.row ++ (outL x.a).map (fun f => (f, true)) } (n + 1) := by
  have q1 := h.sl; have q4 := h.acn; have q5 := h.bcn; have q6 := h.rl
  have hN : outN x.a ≤ 16 := by unfold outN; omega
  refine { h with acn := by show x.a.cnt ≤ _; omega, bcn := by show x.b.cnt ≤ _; omega, rl := by simp [outL]; omega, sl := by show x.sent.length ≤ _; omega, first := fun f hf => ?_, note := fun f hf => ?_ }
  · rcases List.mem_append.1 hf with hf | hf
    · exact h.first f hf
    · obtain ⟨f', hf', e⟩ := List.mem_map.1 hf
      cases e
      exact out_first h hf'
  · rcases List.mem_append.1 hf with hf | hf
    · exact h.note f hf
    · obtain ⟨f', hf', e⟩ := List.mem_map.1 hf
      cases e
theorem GoodT.noted {x : Tw} {n : Nat} (h : GoodT x n) : GoodT { x with row := x.row ++ [(noteF x.b, false)] } (n + 1) := by
  have q1 := h.sl; have q4 := h.acn; have q5 := h.bcn; have q6 := h.rl
  refine { h with acn := by show x.a.cnt ≤ _; omega, bcn := by show x.b.cnt ≤ _; omega, rl := by simp; omega, sl := by show x.sent.length ≤ _; omega, first := fun f hf => ?_, note := fun f hf => ?_ }
  · rcases List.mem_append.1 hf with hf | hf
    · exact h.first f hf
    · simp at hf
  · rcases List.mem_append.1 hf with hf | hf
    · exact h.note f hf
    · simp at hf
      subst hf
      exact ⟨h.ep, rfl, rfl, by show (0 : Int) ≤ (x.b.got : Int); omega, Int.le_refl _⟩
theorem GoodT.cutn {x : Tw} {n : Nat} (h : GoodT x n) (i : Nat) : GoodT (cutT x i) n := by
  have hsub : ∀ f, f ∈ (cutT x i).row → f ∈ x.row := fun f hf => by
    rcases List.mem_append.1 hf with hf | hf
    · exact List.mem_of_mem_take hf
    · exact List.mem_of_mem_drop hf
  have hl : (cutT x i).row.length ≤ x.row.length := by simp [cutT]; omega
  exact { h with rl := Nat.le_trans hl h.rl, first := fun f hf => h.first f (hsub _ hf), note := fun f hf => h.note f (hsub _ hf) }
theorem runLen_some (ear : Nat → Option (List Nat)) : ∀ (f g j : Nat), j < runLen ear g f → (ear (g + 1 + j)).isSome = true
  | 0, _, _, h => by simp [runLen] at h
  | f + 1, g, j, h => by
    unfold runLen at h
    by_cases e : (ear (g + 1)).isSome = true
    · rw [if_pos e] at h
      cases j with
      | zero => exact e
      | succ j =>
        have := runLen_some ear f (g + 1) j (by omega)
        rwa [show g + 1 + (j + 1) = g + 1 + 1 + j by omega]
    · rw [if_neg e] at h; omega
/-- A frame of the first end comes. -/
theorem GoodT.inb {x : Tw} {n : Nat} (h : GoodT x n) {f : Fm} (hf : f.e = x.a.ep ∧ f.a = 0 ∧ ∃ q : Nat, f.s = q ∧ 1 ≤ q ∧ q ≤ x.sent.length ∧ q ≤ x.a.acked + 16 ∧ f.body = lth x.sent (q - 1)) :
    GoodT { x with b := inS x.b f, came := x.came ++ inL x.b f } (n + 1) ∧ (f.s ≤ x.b.got + 16 → inE x.b f = 0 ∧ (f.s ≤ x.b.got + 1 → f.s ≤ (inS x.b f).got)) ∧ x.b.got ≤ (inS x.b f).got := by
  obtain ⟨h1, h2, q, h3, h4, h5, h6, h7⟩ := hf
  have c1 : ¬ f.e ≠ x.b.ep := by rw [h.ep]; simpa using h1
  have c2 : ¬ (f.s < 0 ∨ f.a < 0 ∨ (x.b.acked : Int) + outN x.b < f.a) := by omega
  have ha : ackS x.b f.a = x.b := by unfold ackS; rw [if_pos (by rw [h2]; omega)]
  have hbl : x.b.cnt ≤ 3 * n := h.bcn
  have hstay : GoodT x (n + 1) := h.more (by omega)
  by_cases c3 : f.s ≤ x.b.got
  · have e1 : inS x.b f = x.b := by unfold inS; rw [if_neg c1, if_neg c2, if_pos c3, ha]
    have e2 : inL x.b f = [] := by unfold inL; rw [if_neg c1, if_neg c2, if_pos c3]
    have e3 : inE x.b f = 0 := by unfold inE; rw [if_neg c1, if_neg c2, if_pos c3]
    rw [e1, e2, List.append_nil]
    exact ⟨hstay, fun _ => ⟨e3, fun _ => c3⟩, Nat.le_refl _⟩
  · by_cases c4 : 16 < f.s - x.b.got
    · have e1 : inS x.b f = x.b := by unfold inS; rw [if_neg c1, if_neg c2, if_neg c3, if_pos c4, ha]
      have e2 : inL x.b f = [] := by unfold inL; rw [if_neg c1, if_neg c2, if_neg c3, if_pos c4]
      rw [e1, e2, List.append_nil]
      exact ⟨hstay, fun q => by omega, Nat.le_refl _⟩
    · have hq : f.s.toNat = q := by omega
      have e1 : inS x.b f = turnS (keepS x.b q f.body) := by unfold inS; rw [if_neg c1, if_neg c2, if_neg c3, if_neg c4, ha, hq]
      have e2 : inL x.b f = turnL (keepS x.b q f.body) := by unfold inL; rw [if_neg c1, if_neg c2, if_neg c3, if_neg c4, ha, hq]
      have e3 : inE x.b f = 0 := by unfold inE; rw [if_neg c1, if_neg c2, if_neg c3, if_neg c4]
      rw [e1, e2]
      -- the end with the body kept
      obtain ⟨hkc, hke, hkg⟩ := keep_cnt x.b q f.body
      have hkw : (keepS x.b q f.body).wait = x.b.wait ∧ (keepS x.b q f.body).acked = x.b.acked := by unfold keepS; split <;> exact ⟨rfl, rfl⟩
      have hear : ∀ k l, (keepS x.b q f.body).ear k = some l → 1 ≤ k ∧ k ≤ x.sent.length ∧ k ≤ x.a.acked + 16 ∧ l = lth x.sent (k - 1) := by
        intro k l e
        unfold keepS at e
        split at e
        · exact h.bear k l e
        · by_cases ek : k = q
          · subst ek
            simp only [if_pos] at e
            cases e
            exact ⟨h4, h5, h6, h7⟩
          · simp only [if_neg ek] at e
            exact h.bear k l e
      have hkq : ((keepS x.b q f.body).ear q).isSome = true := by
        unfold keepS
        split
        · assumption
        · simp
      generalize hK : keepS x.b q f.body = K at *
      have hN : ∀ j, j < turnN K → (K.ear (K.got + 1 + j)).isSome = true := fun j hj => runLen_some _ _ _ _ hj
      have hNv : ∀ j, j < turnN K → K.ear (K.got + 1 + j) = some (lth x.sent (K.got + j)) ∧ K.got + 1 + j ≤ x.sent.length ∧ K.got + 1 + j ≤ x.a.acked + 16 := by
        intro j hj
        obtain ⟨l, hl⟩ := Option.isSome_iff_exists.1 (hN j hj)
        obtain ⟨_, g2, g3, g4⟩ := hear _ _ hl
        rw [hl, g4]
        exact ⟨by rw [show K.got + 1 + j - 1 = K.got + j by omega], g2, g3⟩
      have hlen : K.got + turnN K ≤ x.sent.length ∧ (turnN K = 0 ∨ K.got + turnN K ≤ x.a.acked + 16) := by
        by_cases e0 : turnN K = 0
        · exact ⟨by rw [e0, hkg]; have := h.bgot; omega, .inl e0⟩
        · obtain ⟨_, g2, g3⟩ := hNv (turnN K - 1) (by omega)
          exact ⟨by omega, .inr (by omega)⟩
      have htake : turnL K = (x.sent.drop K.got).take (turnN K) := by
        unfold turnL takeL
        apply List.ext_getElem
        · simp; omega
        · intro j hj1 hj2
          have hj : j < turnN K := by simpa using hj1
          obtain ⟨g1, g2, _⟩ := hNv j hj
          rw [List.getElem_map, List.getElem_range, g1, List.getElem_take, List.getElem_drop]
          exact lth_eq (by omega)
      have hgs : (turnS K).got = K.got + turnN K := rfl
      have hcnt : (turnS K).cnt = K.cnt + 1 := rfl
      refine ⟨⟨by show K.ep = _; rw [hke]; exact h.ep, by have := h.acn; show x.a.cnt ≤ _; omega, by rw [hcnt]; omega, by have := h.rl; show x.row.length ≤ _; omega, by have := h.sl; show x.sent.length ≤ _; omega, h.aack, h.await, h.agot, by rw [hgs]; exact hlen.1, ?_, ?_, ?_, ?_, fun k l e => ?_, by rw [hgs, hkg]; have := h.ab; show x.a.acked ≤ _; omega, h.first, fun f' hf' => ?_, h.body⟩, fun _ => ⟨e3, fun c5 => ?_⟩, by rw [hgs, hkg]; omega⟩
      · rw [hgs]
        rcases hlen.2 with e0 | e0
        · rw [e0, hkg]; exact h.bgw
        · exact e0
      · show K.acked = 0; rw [hkw.2]; exact h.back
      · show K.wait = []; rw [hkw.1]; exact h.bwait
      · show x.came ++ turnL K = x.sent.take (K.got + turnN K)
        rw [htake, h.came, ← hkg, List.take_add]
      · have e' : (if k ≤ K.got + turnN K then none else K.ear k) = some l := e
        split at e'
        · cases e'
        · exact hear k l e'
      · obtain ⟨g1, g2, g3, g4, g5⟩ := h.note f' hf'
        exact ⟨g1, g2, g3, g4, by rw [hgs, hkg]; omega⟩
      · have hq1 : q = K.got + 1 := by rw [hkg]; omega
        have : turnN K ≠ 0 := by
          unfold turnN runLen
          rw [if_pos (by rw [← hq1]; exact hkq)]
          omega
        rw [hgs]; omega
/-- A note comes to the first end. -/
theorem GoodT.ina {x : Tw} {n : Nat} (h : GoodT x n) {f : Fm} (hf : f.e = x.a.ep ∧ f.s = 0 ∧ f.body = [] ∧ 0 ≤ f.a ∧ f.a ≤ x.b.got) :
    inL x.a f = [] ∧ GoodT { x with a := inS x.a f, came := x.came ++ inL x.a f } (n + 1) ∧ (inE x.a f = 0 ∧ (f.a = x.b.got → (inS x.a f).acked = x.b.got)) := by
  obtain ⟨h1, h2, h3, h4, h5⟩ := hf
  have c1 : ¬ f.e ≠ x.a.ep := by simpa using h1
  have hw : x.a.wait.length = x.sent.length - x.a.acked := by rw [h.await, List.length_drop]
  have hN : outN x.a = min x.a.wait.length 16 := rfl
  have c2 : ¬ (f.s < 0 ∨ f.a < 0 ∨ (x.a.acked : Int) + outN x.a < f.a) := by
    have := h.bgot; have := h.bgw; have := h.aack
    omega
  have c3 : f.s ≤ (x.a.got : Int) := by rw [h2]; omega
  have e1 : inS x.a f = ackS x.a f.a := by unfold inS; rw [if_neg c1, if_neg c2, if_pos c3]
  have e2 : inL x.a f = [] := by unfold inL; rw [if_neg c1, if_neg c2, if_pos c3]
  have e3 : inE x.a f = 0 := by unfold inE; rw [if_neg c1, if_neg c2, if_pos c3]
  rw [e1, e2, List.append_nil]
  refine ⟨rfl, ?_, e3, fun e4 => ?_⟩
  · unfold ackS
    by_cases c4 : f.a ≤ x.a.acked
    · rw [if_pos c4]; exact h.more (by omega)
    · rw [if_neg c4]
      have hx : x.a.acked ≤ f.a.toNat ∧ f.a.toNat ≤ x.b.got := by omega
      have q1 := h.sl; have q4 := h.acn; have q5 := h.bcn; have q6 := h.rl; have q7 := h.bgot
      refine ⟨h.ep, by show x.a.cnt ≤ _; omega, by show x.b.cnt ≤ _; omega, by show x.row.length ≤ _; omega, by show x.sent.length ≤ _; omega, by show f.a.toNat ≤ x.sent.length; omega, ?_, h.agot, h.bgot, by show x.b.got ≤ f.a.toNat + 16; have := h.bgw; omega, h.back, h.bwait, h.came, fun k l e => ?_, hx.2, fun f' hf' => ?_, h.note, h.body⟩
      · show x.a.wait.drop (f.a.toNat - x.a.acked) = x.sent.drop f.a.toNat
        rw [h.await, List.drop_drop]
        congr 1
        omega
      · obtain ⟨g1, g2, g3, g4⟩ := h.bear k l e
        exact ⟨g1, g2, by show k ≤ f.a.toNat + 16; omega, g4⟩
      · obtain ⟨g1, g2, q, g3, g4, g5, g6, g7⟩ := h.first f' hf'
        exact ⟨g1, g2, q, g3, g4, g5, by show q ≤ f.a.toNat + 16; omega, g7⟩
  · unfold ackS
    by_cases c4 : f.a ≤ x.a.acked
    · rw [if_pos c4]; have := h.ab; omega
    · rw [if_neg c4]; show f.a.toNat = _; omega
end Go.Proofs.Ythiadkpndemeeaa.lnkQ
