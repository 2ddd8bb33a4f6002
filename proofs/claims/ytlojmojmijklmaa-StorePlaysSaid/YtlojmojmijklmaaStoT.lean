/- The contract of a store's Len: a range over the map. -/
import Derived.Test.YtlojmojmijklmaaStoP
import Derived.Maps.RangeWalk
set_option linter.unusedVariables false
set_option maxRecDepth 100000
namespace Go.Proofs.Ytlojmojmijklmaa.stoT
open Go.ChangeShapes Go.WideShapes Go.ChangeAt Go.RowKit Go.Deep Go.Sort Go.Maps
open opV chnM gen chnA chnB chnR chnE stoM stoA stoL stoB stoC stoP

def bk (x : List UInt8) : ByteArray := ⟨x.toArray⟩
theorem bk_key (k : ByteArray) : bk k.data.toList = k := ba_eta k
theorem kS_bk (x : List UInt8) : kS (bk x) = .string x := by unfold kS bk; simp
/-- what a range over the map comes upon -/
theorem at_chain {B : Nat → Prop} {w : World} {S b : Nat} {s : St} {D : DataW Value} (h : SIs B w S b s D) {x : List UInt8} {c : Value} (hat : ∀ zd, D.atKey (.string x) zd = .held c) :
    ∃ d ∈ s.ch, d.key = bk x ∧ ∃ A cp, c = .slice A d.l.length cp ∧ HV w A cp d.l ∧ (d.l = [] ∨ ∀ y, A = some y → ¬ B y.block) := by
  have hh := has_true_of_atKey hat
  rw [← kS_bk] at hh
  obtain ⟨d, hd, he⟩ := (h.ear.1 _).1 hh
  obtain ⟨v, hv, A, cp, rfl, r⟩ := h.ear.2 d hd
  have h1 := hv (.held c)
  rw [he, kS_bk, hat] at h1
  simp only [DataW.held.injEq] at h1
  exact ⟨d, hd, he, A, cp, h1, r⟩
theorem sum_le {f : List UInt8 → Nat} {M : Nat} (hf : ∀ x, f x ≤ M) : ∀ ss : List (List UInt8), (ss.map f).sum ≤ ss.length * M
  | [] => by simp
  | x :: r => by
    have h1 := sum_le hf r
    have h2 := hf x
    rw [List.map_cons, List.sum_cons, List.length_cons, Nat.add_mul]
    omega
theorem sum_keys {ch : List Ch} (hs : Srt ch) {ss : List (List UInt8)} (hp : ss.Perm (kl ch)) (g : List Ver → Nat) : (ss.map fun x => g (of ch (bk x))).sum = (ch.map fun c => g c.l).sum := by
  rw [(hp.map _).sum_nat]
  unfold kl
  rw [List.map_map]
  congr 1
  refine List.map_congr_left fun c hc => ?_
  show g (of ch (bk c.key.data.toList)) = _
  rw [bk_key, of_some hs hc]
/-- between two rounds of a range that only looks -/
structure RI {B : Nat → Prop} {S b : Nat} (s : St) (D : DataW Value) (w : World) (r : Nat) (ss : List (List UInt8)) (cnt : Nat) (left : Lit → Bool) (wr : World) : Prop where
  rg : wr.ranges Try.prog 9 hR b r s.ch.length D left cnt
  col : Collected D left ss
  len : ss.length + cnt ≤ s.ch.length
  bel : Below w.heap.size w wr
set_option maxHeartbeats 2000000 in
theorem len_any {B : Nat → Prop} {S b : Nat} {s : St} (w : World) (h : SAt B w S b s) : Calls Try.prog 27 #[.pointer (some ⟨S, 0, none⟩)] w fun e w' => e = .returned (.int .i64 (ln s.ch : Nat)) ∧ Below w.heap.size w w' := by
  obtain ⟨D, hI⟩ := h
  obtain ⟨q0, q1⟩ := SIs.cells hI
  have hchl := hI.len
  have hsz := hI.size
  have hfl : ∀ x, (of s.ch (bk x)).length ≤ 60000 := fun x => Nat.le_trans (of_len hI.inv _) hI.ln
  replace hI := Lib.hid hI
  replace hfl := Lib.hid hfl
  go_enter Try.func27, Try.ntmps27
  go_wp2_with (at_range; refine wpList_range_own _ rfl _ 63 rfl 9 30 law Try.underlying63 hR b s.ch.length D rfl hI.out.map ?_; intro w0 hrg0 hg0 hs0)
  have hRI0 : Hid (RI (B := B) (S := S) (b := b) s D w w.heap.size [] (Maps.size D) (Maps.has D) w0) := Lib.hid ⟨hrg0, Collected.start D, by rw [hsz]; simp, (Below.refl _ _).grown hg0 (Nat.le_refl _) (fun k e => by cases e)⟩
  clear hrg0 hg0 hs0 q0 q1
  go_wp2
  go_frame
  go_loopw [3] (fun t wr => ∃ (left : Lit → Bool) (cnt : Nat) (ss : List (List UInt8)), t = .int .i64 ((ss.map fun x => (of s.ch (bk x)).length).sum : Nat) ∧ Hid (RI (B := B) (S := S) (b := b) s D w w.heap.size ss cnt left wr)) (fun _ wr => wr.rangeLeft b w.heap.size)
  case atStart => exact ⟨_, _, [], rfl, hRI0⟩
  case round =>
    obtain ⟨left, cnt, ss, rfl, hR⟩ := hrel
    clear hRI0
    go_wp2_with (at_next; refine wpList_next_ranges _ rfl _ rfl 9 law stoA.hR encStr id (fun key kl hk => by obtain ⟨x, hx, _⟩ := Maps.keyOf_str Try.underlying9 hk; exact ⟨x, hx⟩) (fun v _ _ => ⟨v, rfl⟩) b w.heap.size _ _ _ _ rfl hR.out.rg ?_ ?_)
    · intro hc0 hl0
      have hp := Lib.hid ((hR.out.col.perm hI.out.map law Try.underlying9 hl0).trans hI.out.keys.symm)
      have he := sum_keys hI.out.inv.srt hp.out List.length
      have hB := Lib.hid hR.out.bel
      rw [he]
      clear hR hp he
      go_wp2
      go_ret
      exact ⟨rfl, hB.out⟩
    · intro x c kl yd yp w2 cnt2 hkey hlk hv hat hrg2 hlt hg2 hs2 hen
      obtain ⟨x', ex, rfl, _⟩ := Maps.keyOf_str Try.underlying9 hkey
      obtain rfl : x = x' := encStr_inj ex
      unfold stoA.hR at hv
      cases hv
      obtain ⟨d, hd, hdk, A, cp, e1, hHV, -⟩ := at_chain hI.out hat
      obtain rfl : c = .slice A d.l.length cp := e1
      have hol : of s.ch (bk x) = d.l := by rw [← hdk]; exact of_some hI.out.inv.srt hd
      have hle := sum_le hfl.out ss
      have hdl : d.l.length ≤ 60000 := by rw [← hol]; exact hfl.out x
      have hln := hR.out.len
      have hsum : ((ss ++ [x]).map fun x => (of s.ch (bk x)).length).sum = (ss.map fun x => (of s.ch (bk x)).length).sum + d.l.length := by simp [hol]
      have hR2 : Hid (RI (B := B) (S := S) (b := b) s D w w.heap.size (ss ++ [x]) cnt2 (fun z => left z && !z.sameKey (.string x)) w2) := Lib.hid ⟨hrg2, hR.out.col.step hlk hat, by rw [List.length_append]; simp; omega, hR.out.bel.grown hg2 hR.out.bel.size (fun k e => by cases e; exact Nat.le_refl _)⟩
      have hmeas := Lib.hid (show w2.rangeLeft b w.heap.size < wr.rangeLeft b w.heap.size by rw [hrg2.left_eq, hR.out.rg.left_eq]; exact hlt)
      have hb9 : (ss.map fun x => (of s.ch (bk x)).length).sum ≤ 3600000000 := by
        have := Nat.mul_le_mul_right 60000 (show ss.length ≤ 60000 by omega)
        omega
      clear hR hrg2 hlt hg2 hs2 hat hlk hkey hHV hle
      generalize (ss.map fun x => (of s.ch (bk x)).length).sum = q at *
      go_wp2
      exact ⟨⟨_, cnt2, ss ++ [x], by rw [hsum]; go_num, hR2⟩, hmeas.out⟩
end Go.Proofs.Ytlojmojmijklmaa.stoT
