/- LinkPlays, plainly: the document's own end, and what it has to do with the program's. -/
import Derived.Test.YthiadkpndemeeaaLnkQ
namespace Go.Proofs.Ythiadkpndemeeaa.lnkPa
open lnkA lnkD lnkE lnkG lnkH lnkI lnkQ

/-- the document's end: all that was sent, how much is acknowledged, all that came by its number, how much went on -/
structure Dm where
  ep : Int
  sent : List (List Nat)
  acked : Nat
  came : List (Nat × List Nat)
  got : Nat
def Dm.new (ep : Int) : Dm := ⟨ep, [], 0, [], 0⟩
def lastD (d : Dm) : Nat := if d.sent.length - d.acked > 16 then d.acked + 16 else d.sent.length
def keptD (d : Dm) (q : Nat) : Option (List Nat) := (d.came.find? fun x => x.1 == q).map (·.2)
def ackD (d : Dm) (a : Int) : Dm := if d.acked < a then { d with acked := a.toNat } else d
def keepD (d : Dm) (q : Nat) (l : List Nat) : Dm := if (keptD d q).isSome then d else { d with came := d.came ++ [(q, l)] }
def gotD (d : Dm) (i : Nat) : Dm := { d with got := d.got + i }
def outD (d : Dm) (i : Nat) : Fm := ⟨0, d.ep, d.acked + 1 + i, d.got, lth d.sent (d.acked + i)⟩
def sendE' (d : Dm) (l : List Nat) : Nat := if 1048576 < l.length then 6 else if 4096 ≤ d.sent.length - d.acked then 9 else 0
def sendD (d : Dm) (l : List Nat) : Dm := if 1048576 < l.length then d else if 4096 ≤ d.sent.length - d.acked then d else { d with sent := d.sent ++ [l] }

/-- one end and the other -/
structure Rel (s : St) (d : Dm) : Prop where
  ep : d.ep = s.ep
  acked : d.acked = s.acked
  got : d.got = s.got
  le : d.acked ≤ d.sent.length
  wait : s.wait = d.sent.drop d.acked
  ear : ∀ k, s.got < k → s.ear k = keptD d k
  hi : ∀ k, s.got + 16 < k → s.ear k = none

theorem Rel.new (ep : Int) : Rel (St.new ep) (Dm.new ep) := ⟨rfl, rfl, rfl, Nat.le_refl _, rfl, fun _ _ => rfl, fun _ _ => rfl⟩
variable {s : St} {d : Dm}
theorem Rel.wlen (h : Rel s d) : s.wait.length = d.sent.length - d.acked := by rw [h.wait, List.length_drop]
theorem Rel.last (h : Rel s d) : s.acked + outN s = lastD d := by
  have h1 := h.wlen; have h2 := h.acked; have h3 := h.le
  unfold outN lastD
  split <;> omega
theorem Rel.sendE_eq (h : Rel s d) (l : List Nat) : sendE s l = sendE' d l := by unfold sendE sendE'; rw [h.wlen]
theorem Rel.send (h : Rel s d) (l : List Nat) : Rel (sendS s l) (sendD d l) := by
  unfold sendS sendD
  rw [h.wlen]
  split
  · exact h
  split
  · exact h
  · have h3 := h.le
    refine ⟨h.ep, h.acked, h.got, by show d.acked ≤ (d.sent ++ [l]).length; rw [List.length_append]; omega, ?_, h.ear, h.hi⟩
    show s.wait ++ [l] = (d.sent ++ [l]).drop d.acked
    rw [h.wait, List.drop_append_of_le_length h3]
theorem Rel.out (h : Rel s d) (i : Nat) : outF s i = outD d i := by
  unfold outF outD
  rw [h.ep, h.acked, h.got, h.wait, lth_drop, h.acked]
theorem Rel.ack (h : Rel s d) {a : Int} (ha : a ≤ (s.acked : Int) + outN s) : Rel (ackS s a) (ackD d a) := by
  have h1 := h.wlen; have h2 := h.acked; have h3 := h.le
  have hN : outN s ≤ s.wait.length := by unfold outN; omega
  unfold ackS ackD
  by_cases c : a ≤ s.acked
  · rw [if_pos c, if_neg (by omega)]; exact h
  · rw [if_neg c, if_pos (by omega)]
    refine ⟨h.ep, rfl, h.got, by show a.toNat ≤ d.sent.length; omega, ?_, h.ear, h.hi⟩
    show s.wait.drop (a.toNat - s.acked) = d.sent.drop a.toNat
    rw [h.wait, List.drop_drop]
    congr 1
    omega
theorem kept_app (d : Dm) (q k : Nat) (l : List Nat) (h : keptD d q = none) : keptD { d with came := d.came ++ [(q, l)] } k = if k = q then some l else keptD d k := by
  unfold keptD at *
  show ((d.came ++ [(q, l)]).find? _).map _ = _
  rw [List.find?_append]
  by_cases e : k = q
  · subst e
    rw [if_pos rfl]
    cases hf : d.came.find? (fun x => x.1 == k) with
    | some x => rw [hf] at h; cases h
    | none => simp
  · rw [if_neg e]
    cases hf : d.came.find? (fun x => x.1 == k) with
    | some x => simp
    | none =>
      simp
      exact fun hh => e hh.symm
theorem Rel.keep (h : Rel s d) {q : Nat} (l : List Nat) (h1 : s.got < q) (h2 : q ≤ s.got + 16) : Rel (keepS s q l) (keepD d q l) := by
  unfold keepS keepD
  rw [h.ear q h1]
  by_cases c : (keptD d q).isSome = true
  · rw [if_pos c, if_pos c]; exact h
  · rw [if_neg c, if_neg c]
    have hn : keptD d q = none := by cases e : keptD d q with
      | none => rfl
      | some x => rw [e] at c; exact absurd rfl c
    refine ⟨h.ep, h.acked, h.got, h.le, h.wait, fun k hk => ?_, fun k hk => ?_⟩
    · show (if k = q then some l else s.ear k) = _
      rw [kept_app d q k l hn]
      by_cases e : k = q
      · rw [if_pos e, if_pos e]
      · rw [if_neg e, if_neg e, h.ear k hk]
    · show (if k = q then some l else s.ear k) = none
      have : s.got + 16 < k := hk
      rw [if_neg (by omega)]; exact h.hi k hk
/-- what is taken in turn -/
theorem runLen_none (ear : Nat → Option (List Nat)) : ∀ (f g : Nat), runLen ear g f < f → ear (g + 1 + runLen ear g f) = none
  | 0, _, h => by omega
  | f + 1, g, h => by
    unfold runLen at h ⊢
    by_cases e : (ear (g + 1)).isSome = true
    · rw [if_pos e] at h ⊢
      have := runLen_none ear f (g + 1) (by omega)
      rwa [show g + 1 + (runLen ear (g + 1) f + 1) = g + 1 + 1 + runLen ear (g + 1) f by omega]
    · rw [if_neg e]
      cases e2 : ear (g + 1) with
      | none => rfl
      | some x => rw [e2] at e; exact absurd rfl e
theorem runLen_le (ear : Nat → Option (List Nat)) : ∀ (f g : Nat), runLen ear g f ≤ f
  | 0, _ => Nat.le_refl _
  | f + 1, g => by
    unfold runLen
    split
    · have := runLen_le ear f (g + 1); omega
    · omega
theorem Rel.turn_lt (h : Rel s d) : turnN s ≤ 16 := by
  unfold turnN
  have h1 := runLen_le s.ear 17 s.got
  by_cases e : runLen s.ear s.got 17 = 17
  · have := runLen_some s.ear 17 s.got 16 (by omega)
    rw [h.hi (s.got + 1 + 16) (by omega)] at this
    cases this
  · omega
/-- the rounds of the document's loop -/
theorem Rel.turn_kept (h : Rel s d) {i : Nat} (hi : i < turnN s) : keptD (gotD d i) (d.got + i + 1) = some (lth (turnL s) i) := by
  have h1 := runLen_some s.ear 17 s.got i hi
  have h2 := h.ear (s.got + 1 + i) (by omega)
  show keptD d (d.got + i + 1) = _
  rw [h.got, show s.got + i + 1 = s.got + 1 + i by omega, ← h2]
  have hl : lth (turnL s) i = (s.ear (s.got + 1 + i)).getD [] := by
    unfold lth turnL takeL
    rw [List.getD_eq_getElem?_getD, List.getElem?_map, List.getElem?_range hi]; rfl
  rw [hl]
  cases e : s.ear (s.got + 1 + i) with
  | some x => rfl
  | none => rw [e] at h1; cases h1
theorem Rel.turn_end (h : Rel s d) : keptD (gotD d (turnN s)) (d.got + turnN s + 1) = none := by
  have h0 := h.turn_lt
  have h1 := runLen_none s.ear 17 s.got (by unfold turnN at h0; omega)
  show keptD d _ = none
  rw [h.got, show s.got + turnN s + 1 = s.got + 1 + runLen s.ear s.got 17 by unfold turnN; omega, ← h.ear _ (by omega)]
  exact h1
theorem Rel.turn (h : Rel s d) : Rel (turnS s) (gotD d (turnN s)) := by
  refine ⟨h.ep, h.acked, by show d.got + turnN s = s.got + turnN s; rw [h.got], h.le, h.wait, fun k hk => ?_, fun k hk => ?_⟩
  · have hk' : s.got + turnN s < k := hk
    show (if k ≤ s.got + turnN s then none else s.ear k) = keptD d k
    rw [if_neg (by omega)]; exact h.ear k (by omega)
  · have hk' : s.got + turnN s + 16 < k := hk
    show (if k ≤ s.got + turnN s then none else s.ear k) = none
    rw [if_neg (by omega)]; exact h.hi k (by omega)
/-! ### In -/
def inE' (d : Dm) (f : Fm) : Nat :=
  if f.e ≠ d.ep then 5 else if f.s < 0 ∨ f.a < 0 ∨ (lastD d : Int) < f.a then 1 else if f.s ≤ d.got then 0 else if 16 < f.s - d.got then 9 else 0
theorem Rel.inE_eq (h : Rel s d) (f : Fm) : inE s f = inE' d f := by
  unfold inE inE'
  have := h.last
  rw [h.ep, h.got, show ((lastD d : Nat) : Int) = (s.acked : Int) + outN s by omega]
/-- what In makes of the document's end; n: how many are taken in turn -/
def inD (d : Dm) (f : Fm) (n : Nat) : Dm :=
  if f.e ≠ d.ep then d else if f.s < 0 ∨ f.a < 0 ∨ (lastD d : Int) < f.a then d else if f.s ≤ d.got then ackD d f.a else if 16 < f.s - d.got then ackD d f.a else gotD (keepD (ackD d f.a) f.s.toNat f.body) n
theorem Rel.inn (h : Rel s d) (f : Fm) : Rel (inS s f) (inD d f (turnN (keepS (ackS s f.a) f.s.toNat f.body))) := by
  unfold inS inD
  have h1 := h.last
  rw [h.ep, h.got, show ((lastD d : Nat) : Int) = (s.acked : Int) + outN s by omega]
  split
  · exact h
  split
  · exact h
  rename_i c
  have ha := h.ack (a := f.a) (by omega)
  split
  · exact ha
  split
  · exact ha
  · have hg := (ack_got s f.a).1
    exact (ha.keep (q := f.s.toNat) f.body (by rw [hg]; omega) (by rw [hg]; omega)).turn
end Go.Proofs.Ythiadkpndemeeaa.lnkPa
