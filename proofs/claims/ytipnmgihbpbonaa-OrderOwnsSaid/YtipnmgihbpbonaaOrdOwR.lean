/- OrderOwns: a region of plain operations inside a round of a range: one walk for all its orders. -/
import Derived.Test.YtipnmgihbpbonaaOrdOwA
import Derived.OrdersIn
import Derived.OwnWalkIn
set_option linter.unusedVariables false
set_option linter.unusedSimpArgs false
set_option maxRecDepth 100000
namespace Go.Proofs.Ytipnmgihbpbonaa.ordOwR
open Go.ChangeShapes Go.WideShapes Go.ChangeAt Go.RowKit Go.Deep Go.Shelf
open opG opV opR chnM gen chnA chnR chnE ordA ordB ordC ordM ordL ordOwA
attribute [local go_sem] Oper.semAt_some

/-- what each order keeps, with the number of operations that are left -/
theorem any_inv {F : Fence} {n : Nat} {P : Program} {ops : Array Oper} {Q : Exit → Act → World → Prop} {md : Region.Mode} (I : Nat → Array Bool → Act → World → Prop)
    (h0 : ∀ L a w, I 0 L a w → Region.ready md ops L = [])
    (hs : ∀ f L a w, I (f + 1) L a w → ∀ i ∈ Region.ready md ops L, wpOpIn F n P ops Q i (fun a' w' => I f (L.setIfInBounds i true) a' w') a w)
    (hd : ∀ f L a w, I f L a w → Region.ready md ops L = [] → Q .normal a w) :
    ∀ f L a w, I f L a w → wpAnyIn F n P md ops Q f L a w
  | 0, L, a, w, h => ⟨h0 L a w h, hd 0 L a w h (h0 L a w h)⟩
  | f + 1, L, a, w, h => ⟨hd _ L a w h, fun i hi => wpOpIn_mono (fun a' w' h' => any_inv I h0 hs hd f _ a' w' h') (hs f L a w h i hi)⟩
abbrev fl : Array Oper := #[{ dst := some 67, op := Op.fieldAddr 32 (Operand.tmp 9) 3, type := 0, pos := "law.go:156", after := #[], guard := none },
  { dst := some 68, op := Op.load 30 (Operand.tmp 67), type := 30, pos := "law.go:156", after := #[{ on := 0, ground := Ground.data }], guard := none },
  { dst := some 69, op := Op.move (Operand.tmp 10), type := 3, pos := "law.go:156", after := #[], guard := none },
  { dst := some 70, op := Op.fieldAddr 32 (Operand.tmp 9) 3, type := 0, pos := "law.go:156", after := #[], guard := none },
  { dst := some 71, op := Op.load 30 (Operand.tmp 70), type := 30, pos := "law.go:156", after := #[{ on := 3, ground := Ground.data }], guard := none },
  { dst := some 72, op := Op.move (Operand.tmp 10), type := 3, pos := "law.go:156", after := #[], guard := none },
  { dst := some 73, op := Op.indexAddr 30 (Operand.tmp 71) (Operand.tmp 72), type := 0, pos := "law.go:156", after := #[{ on := 4, ground := Ground.data }, { on := 5, ground := Ground.data }], guard := none },
  { dst := some 74, op := Op.fieldAddr 58 (Operand.tmp 73) 2, type := 0, pos := "law.go:156", after := #[{ on := 6, ground := Ground.data }], guard := none },
  { dst := some 75, op := Op.load 4 (Operand.tmp 74), type := 4, pos := "law.go:156", after := #[{ on := 7, ground := Ground.data }], guard := none },
  { dst := some 76, op := Op.unOp UnOp.not 4 (Operand.tmp 75), type := 4, pos := "law.go:156", after := #[{ on := 8, ground := Ground.data }], guard := none },
  { dst := some 77, op := Op.indexAddr 30 (Operand.tmp 68) (Operand.tmp 69), type := 0, pos := "law.go:156", after := #[{ on := 1, ground := Ground.data }, { on := 2, ground := Ground.data }, { on := 0, ground := Ground.phase }, { on := 1, ground := Ground.phase }, { on := 2, ground := Ground.phase }, { on := 3, ground := Ground.phase }, { on := 4, ground := Ground.phase }, { on := 5, ground := Ground.phase }, { on := 6, ground := Ground.phase }, { on := 7, ground := Ground.phase }, { on := 8, ground := Ground.phase }, { on := 9, ground := Ground.phase }], guard := none },
  { dst := some 78, op := Op.fieldAddr 58 (Operand.tmp 77) 2, type := 0, pos := "law.go:156", after := #[{ on := 10, ground := Ground.data }, { on := 0, ground := Ground.phase }, { on := 1, ground := Ground.phase }, { on := 2, ground := Ground.phase }, { on := 3, ground := Ground.phase }, { on := 4, ground := Ground.phase }, { on := 5, ground := Ground.phase }, { on := 6, ground := Ground.phase }, { on := 7, ground := Ground.phase }, { on := 8, ground := Ground.phase }, { on := 9, ground := Ground.phase }], guard := none },
  { dst := none, op := Op.store 4 (Operand.tmp 78) (Operand.tmp 76), type := 0, pos := "law.go:156", after := #[{ on := 11, ground := Ground.data }, { on := 9, ground := Ground.data }, { on := 0, ground := Ground.phase }, { on := 1, ground := Ground.phase }, { on := 2, ground := Ground.phase }, { on := 3, ground := Ground.phase }, { on := 4, ground := Ground.phase }, { on := 5, ground := Ground.phase }, { on := 6, ground := Ground.phase }, { on := 7, ground := Ground.phase }, { on := 8, ground := Ground.phase }, { on := 9, ground := Ground.phase }], guard := none }]
/-- what each of its operations yields -/
def val (b g n c j : Nat) (u : Bool) (k : Nat) : Value :=
  if k = 0 then .pointer (some ⟨b, 3, none⟩) else if k = 1 then .slice (some ⟨g, 0, none⟩) n c else if k = 2 then .int .i64 j else
  if k = 3 then .pointer (some ⟨b, 3, none⟩) else if k = 4 then .slice (some ⟨g, 0, none⟩) n c else if k = 5 then .int .i64 j else
  if k = 6 then .pointer (some ⟨g, j * 6, none⟩) else if k = 7 then .pointer (some ⟨g, j * 6 + 2, none⟩) else if k = 8 then .bool u else if k = 9 then .bool (!u) else
  if k = 10 then .pointer (some ⟨g, j * 6, none⟩) else .pointer (some ⟨g, j * 6 + 2, none⟩)
structure PI (val : Nat → Value) (a0 : Act) (w0 w1 : World) (f : Nat) (L : Array Bool) (a : Act) (w : World) : Prop where
  sz : L.size = 13
  ct : L.toList.count false = f
  cl : ∀ i o, fl[i]? = some o → L.getD i false = true → ∀ e ∈ o.after, Region.binds .any e = true → L.getD e.on false = true
  wo : w = if L.getD 12 false = true then w1 else w0
  df : a.defers = a0.defers
  ts : a.tmps.size = a0.tmps.size
  at_ : ∀ s, a.tmps[s]? = if 67 ≤ s ∧ s < 79 ∧ L.getD (s - 67) false = true then some (val (s - 67)) else a0.tmps[s]?
section
variable {val : Nat → Value} {a0 a : Act} {w0 w1 w : World} {f : Nat} {L : Array Bool}
theorem getD_false {L : Array Bool} {i : Nat} (h : i < L.size) : L.getD i true = L.getD i false := by simp [Array.getD, h]
theorem set_at {L : Array Bool} {i k : Nat} (h : i < L.size) : (L.setIfInBounds i true).getD k false = if k = i then true else L.getD k false := by
  simp only [Array.getD_eq_getD_getElem?, Array.getElem?_setIfInBounds]
  by_cases e : i = k
  · subst e; simp [h]
  · rw [if_neg e, if_neg (fun e2 => e e2.symm)]
theorem count_set {L : Array Bool} {i f : Nat} (h : i < L.size) (h0 : L.getD i true = false) (hc : L.toList.count false = f + 1) : (L.setIfInBounds i true).toList.count false = f := by
  have e : L.toList[i]'(by simpa using h) = false := by simpa [Array.getD, h] using h0
  rw [Array.toList_setIfInBounds, List.count_set (by simpa using h), e, hc]
  simp
/-- one more operation -/
theorem PI.step (h : PI val a0 w0 w1 (f + 1) L a w) {i : Nat} (hi : i ∈ Region.ready .any fl L) (hi13 : i < 13) (hsz : 79 ≤ a0.tmps.size) :
    (i < 12 → PI val a0 w0 w1 f (L.setIfInBounds i true) (a.put (some (67 + i)) (val i)) w) ∧ (i = 12 → PI val a0 w0 w1 f (L.setIfInBounds i true) a w1) := by
  obtain ⟨q1, o, q2, q3⟩ := mem_ready.1 hi
  have hiL : i < L.size := by rw [h.sz]; exact hi13
  have hcl : ∀ i' o', fl[i']? = some o' → (L.setIfInBounds i true).getD i' false = true → ∀ e ∈ o'.after, Region.binds .any e = true → (L.setIfInBounds i true).getD e.on false = true := by
    intro i' o' h1 h2 e he hb
    rw [set_at hiL] at h2 ⊢
    by_cases e1 : e.on = i
    · rw [if_pos e1]
    · rw [if_neg e1]
      by_cases e2 : i' = i
      · subst e2
        rw [q2] at h1; cases h1
        exact q3 e he hb
      · rw [if_neg e2] at h2
        exact h.cl i' o' h1 h2 e he hb
  refine ⟨fun h12 => ⟨by simpa using h.sz, count_set hiL q1 h.ct, hcl, ?_, h.df, by simpa [Act.put] using h.ts, fun s => ?_⟩, fun h12 => ⟨by simpa using h.sz, count_set hiL q1 h.ct, hcl, ?_, h.df, h.ts, fun s => ?_⟩⟩
  · rw [set_at hiL, show (if 12 = i then true else L.getD 12 false) = L.getD 12 false from if_neg (by omega)]; exact h.wo
  · show (a.tmps.setIfInBounds (67 + i) (val i))[s]? = _
    rw [Array.getElem?_setIfInBounds, h.at_ s, set_at hiL]
    by_cases e : 67 + i = s
    · subst e
      rw [if_pos rfl, if_pos (by rw [h.ts]; omega), if_pos ⟨by omega, by omega, by rw [if_pos (by omega)]⟩, show 67 + i - 67 = i by omega]
    · rw [if_neg e]
      by_cases hs : 67 ≤ s ∧ s < 79
      · rw [if_neg (show ¬ s - 67 = i by omega)]
      · rw [if_neg (fun x => hs ⟨x.1, x.2.1⟩), if_neg (fun x => hs ⟨x.1, x.2.1⟩)]
  · rw [set_at hiL, show (if 12 = i then true else L.getD 12 false) = true from if_pos h12.symm]; rfl
  · rw [h.at_ s, set_at hiL]
    by_cases hs : 67 ≤ s ∧ s < 79
    · rw [if_neg (show ¬ s - 67 = i by omega)]
    · rw [if_neg (fun x => hs ⟨x.1, x.2.1⟩), if_neg (fun x => hs ⟨x.1, x.2.1⟩)]
/-- what a temporary holds -/
theorem PI.tmp (h : PI val a0 w0 w1 f L a w) {k : Nat} (hk : k < 12) (hL : L.getD k false = true) : a.tmps.getD (67 + k) undef = val k := by
  rw [Array.getD_eq_getD_getElem?, h.at_, if_pos ⟨by omega, by omega, by rw [show 67 + k - 67 = k by omega]; exact hL⟩, show 67 + k - 67 = k by omega]
  rfl
theorem PI.old (h : PI val a0 w0 w1 f L a w) {k : Nat} (hk : k < 67) : a.tmps.getD k undef = a0.tmps.getD k undef := by
  rw [Array.getD_eq_getD_getElem?, h.at_, if_neg (by omega), ← Array.getD_eq_getD_getElem?]
theorem PI.all12 (h : PI val a0 w0 w1 f L a w) (h12 : L.getD 12 false = true) : ∀ k, k < 12 → L.getD k false = true := by
  have h11 := h.cl 12 _ rfl h12 { on := 11, ground := Ground.data } (by simp) rfl
  have h9 := h.cl 12 _ rfl h12 { on := 9, ground := Ground.data } (by simp) rfl
  have h10 := h.cl 11 _ rfl h11 { on := 10, ground := Ground.data } (by simp) rfl
  have h1 := h.cl 10 _ rfl h10 { on := 1, ground := Ground.data } (by simp) rfl
  have h2 := h.cl 10 _ rfl h10 { on := 2, ground := Ground.data } (by simp) rfl
  have h0 := h.cl 1 _ rfl h1 { on := 0, ground := Ground.data } (by simp) rfl
  have h8 := h.cl 9 _ rfl h9 { on := 8, ground := Ground.data } (by simp) rfl
  have h7 := h.cl 8 _ rfl h8 { on := 7, ground := Ground.data } (by simp) rfl
  have h6 := h.cl 7 _ rfl h7 { on := 6, ground := Ground.data } (by simp) rfl
  have h4 := h.cl 6 _ rfl h6 { on := 4, ground := Ground.data } (by simp) rfl
  have h5 := h.cl 6 _ rfl h6 { on := 5, ground := Ground.data } (by simp) rfl
  have h3 := h.cl 4 _ rfl h4 { on := 3, ground := Ground.data } (by simp) rfl
  intro k hk
  rcases (by omega : k = 0 ∨ k = 1 ∨ k = 2 ∨ k = 3 ∨ k = 4 ∨ k = 5 ∨ k = 6 ∨ k = 7 ∨ k = 8 ∨ k = 9 ∨ k = 10 ∨ k = 11) with rfl | rfl | rfl | rfl | rfl | rfl | rfl | rfl | rfl | rfl | rfl | rfl <;> assumption
theorem back : ∀ (i : Nat) (o : Oper), fl[i]? = some o → i < 13 ∧ ∀ e ∈ o.after, e.on < i := by
  intro i o ho
  have hi : i < 13 := (Array.getElem?_eq_some_iff.1 ho).1
  have hall : ∀ i : Fin 13, ∀ e ∈ (fl[i.1]?.map Oper.after).getD #[], e.on < i.1 := by decide
  have := hall ⟨i, hi⟩
  simp only [ho, Option.map_some, Option.getD_some] at this
  exact ⟨hi, this⟩
theorem PI.zero (h : PI val a0 w0 w1 0 L a w) : Region.ready .any fl L = [] := by
  rw [List.eq_nil_iff_forall_not_mem]
  intro i hi
  obtain ⟨q1, o, q2, q3⟩ := mem_ready.1 hi
  have hiL : i < L.size := by rw [h.sz]; exact (back i o q2).1
  have e : L.toList[i]'(by simpa using hiL) = false := by simpa [Array.getD, hiL] using q1
  have : 0 < L.toList.count false := List.count_pos_iff.2 (e ▸ List.getElem_mem _)
  have := h.ct
  omega
theorem PI.done (h : PI val a0 w0 w1 f L a w) (hr : Region.ready .any fl L = []) : ∀ k, k < 13 → L.getD k false = true := by
  have : ∀ m, m ≤ 13 → ∀ k, k < m → L.getD k false = true := by
    intro m
    induction m with
    | zero => intro _ k hk; omega
    | succ m ih =>
      intro hm k hk
      by_cases e : k < m
      · exact ih (by omega) k e
      · obtain rfl : k = m := by omega
        cases hv : L.getD k false with
        | true => rfl
        | false =>
          exfalso
          have ho : fl[k]? = some (fl[k]'(by show k < 13; omega)) := Array.getElem?_eq_getElem _
          have : k ∈ Region.ready .any fl L := mem_ready.2 ⟨by rw [getD_false (by rw [h.sz]; omega)]; exact hv, _, ho, fun e he hb => ih (by omega) _ ((back k _ ho).2 e he)⟩
          rw [hr] at this; cases this
  exact this 13 (Nat.le_refl _)
end
set_option maxHeartbeats 4000000 in
theorem flip_any {F : Fence} {n : Nat} {Q : Exit → Act → World → Prop} {a0 : Act} {w0 : World} {b g N c j : Nat} {u : Bool} (hsz : 79 ≤ a0.tmps.size) (h9 : a0.tmps.getD 9 undef = .pointer (some ⟨b, 0, none⟩)) (h10 : a0.tmps.getD 10 undef = .int .i64 j)
    (c3 : w0.cell? ⟨b, 3, none⟩ = some (.slice (some ⟨g, 0, none⟩) N c)) (cf : w0.cell? ⟨g, j * 6 + 2, none⟩ = some (.bool u)) (hf : w0.frozen? ⟨g, j * 6 + 2, none⟩ = false) (hj0 : (0 : Int) ≤ (j : Int)) (hj : (j : Int) < (N : Int))
    (h0 : ∀ a : Act, a.defers = a0.defers → a.tmps.size = a0.tmps.size → (∀ s, a.tmps[s]? = if 67 ≤ s ∧ s < 79 then some (val b g N c j u (s - 67)) else a0.tmps[s]?) → Q .normal a (w0.setCell ⟨g, j * 6 + 2, none⟩ (.bool (!u)))) :
    wpAnyIn F n Try.prog .any fl Q 13 (Array.replicate 13 false) a0 w0 := by
  refine any_inv (PI (val b g N c j u) a0 w0 (w0.setCell ⟨g, j * 6 + 2, none⟩ (.bool (!u)))) (fun L a w h => h.zero) ?_ ?_ 13 _ a0 w0 ⟨by simp, by decide, ?_, ?_, rfl, rfl, ?_⟩
  · intro f L a w h i hi
    obtain ⟨q1, o, q2, q3⟩ := mem_ready.1 hi
    have hi13 := (back i o q2).1
    have hiL : i < L.size := by rw [h.sz]; exact hi13
    have hw : w = w0 := by
      rw [h.wo]
      refine if_neg fun e => ?_
      rw [getD_false hiL] at q1
      by_cases h12 : i = 12
      · subst h12; rw [e] at q1; cases q1
      · rw [h.all12 e i (by omega)] at q1; cases q1
    subst hw
    rcases (by omega : i = 0 ∨ i = 1 ∨ i = 2 ∨ i = 3 ∨ i = 4 ∨ i = 5 ∨ i = 6 ∨ i = 7 ∨ i = 8 ∨ i = 9 ∨ i = 10 ∨ i = 11 ∨ i = 12) with rfl | rfl | rfl | rfl | rfl | rfl | rfl | rfl | rfl | rfl | rfl | rfl | rfl
    all_goals (cases q2)
    · have hst := (h.step hi (by omega) hsz).1 (by omega)
      have d9 := (h.old (k := 9) (by omega)).trans h9
      replace hst := Lib.hid hst
      simp [val] at d9
      refine wpOpIn_step rfl (fun K' hK => ?_)
      clear h hi q1 q3 h0
      go_simp
      rw [Oper.semAt_plain F _ _ (by intro c hc; cases hc)]
      go_simp
      try simp only [*]
      try go_simp
      first | exact hK _ _ hst.out | go_must (exact hK _ _ hst.out)
    · have hst := (h.step hi (by omega) hsz).1 (by omega)
      have d0 := h.tmp (k := 0) (by omega) (q3 { on := 0, ground := Ground.data } (by simp) rfl)
      replace hst := Lib.hid hst
      simp [val] at d0
      refine wpOpIn_step rfl (fun K' hK => ?_)
      clear h hi q1 q3 h0
      go_simp
      rw [Oper.semAt_plain F _ _ (by intro c hc; cases hc)]
      go_simp
      try simp only [*]
      try go_simp
      first | exact hK _ _ hst.out | go_must (exact hK _ _ hst.out)
    · have hst := (h.step hi (by omega) hsz).1 (by omega)
      have d10 := (h.old (k := 10) (by omega)).trans h10
      replace hst := Lib.hid hst
      simp [val] at d10
      refine wpOpIn_step rfl (fun K' hK => ?_)
      clear h hi q1 q3 h0
      go_simp
      rw [Oper.semAt_plain F _ _ (by intro c hc; cases hc)]
      go_simp
      try simp only [*]
      try go_simp
      first | exact hK _ _ hst.out | go_must (exact hK _ _ hst.out)
    · have hst := (h.step hi (by omega) hsz).1 (by omega)
      have d9 := (h.old (k := 9) (by omega)).trans h9
      replace hst := Lib.hid hst
      simp [val] at d9
      refine wpOpIn_step rfl (fun K' hK => ?_)
      clear h hi q1 q3 h0
      go_simp
      rw [Oper.semAt_plain F _ _ (by intro c hc; cases hc)]
      go_simp
      try simp only [*]
      try go_simp
      first | exact hK _ _ hst.out | go_must (exact hK _ _ hst.out)
    · have hst := (h.step hi (by omega) hsz).1 (by omega)
      have d3 := h.tmp (k := 3) (by omega) (q3 { on := 3, ground := Ground.data } (by simp) rfl)
      replace hst := Lib.hid hst
      simp [val] at d3
      refine wpOpIn_step rfl (fun K' hK => ?_)
      clear h hi q1 q3 h0
      go_simp
      rw [Oper.semAt_plain F _ _ (by intro c hc; cases hc)]
      go_simp
      try simp only [*]
      try go_simp
      first | exact hK _ _ hst.out | go_must (exact hK _ _ hst.out)
    · have hst := (h.step hi (by omega) hsz).1 (by omega)
      have d10 := (h.old (k := 10) (by omega)).trans h10
      replace hst := Lib.hid hst
      simp [val] at d10
      refine wpOpIn_step rfl (fun K' hK => ?_)
      clear h hi q1 q3 h0
      go_simp
      rw [Oper.semAt_plain F _ _ (by intro c hc; cases hc)]
      go_simp
      try simp only [*]
      try go_simp
      first | exact hK _ _ hst.out | go_must (exact hK _ _ hst.out)
    · have hst := (h.step hi (by omega) hsz).1 (by omega)
      have d4 := h.tmp (k := 4) (by omega) (q3 { on := 4, ground := Ground.data } (by simp) rfl)
      have d5 := h.tmp (k := 5) (by omega) (q3 { on := 5, ground := Ground.data } (by simp) rfl)
      replace hst := Lib.hid hst
      simp [val] at d4 d5
      refine wpOpIn_step rfl (fun K' hK => ?_)
      clear h hi q1 q3 h0
      go_simp
      rw [Oper.semAt_plain F _ _ (by intro c hc; cases hc)]
      go_simp
      try simp only [*]
      try go_simp
      first | exact hK _ _ hst.out | go_must (exact hK _ _ hst.out)
    · have hst := (h.step hi (by omega) hsz).1 (by omega)
      have d6 := h.tmp (k := 6) (by omega) (q3 { on := 6, ground := Ground.data } (by simp) rfl)
      replace hst := Lib.hid hst
      simp [val] at d6
      refine wpOpIn_step rfl (fun K' hK => ?_)
      clear h hi q1 q3 h0
      go_simp
      rw [Oper.semAt_plain F _ _ (by intro c hc; cases hc)]
      go_simp
      try simp only [*]
      try go_simp
      first | exact hK _ _ hst.out | go_must (exact hK _ _ hst.out)
    · have hst := (h.step hi (by omega) hsz).1 (by omega)
      have d7 := h.tmp (k := 7) (by omega) (q3 { on := 7, ground := Ground.data } (by simp) rfl)
      replace hst := Lib.hid hst
      simp [val] at d7
      refine wpOpIn_step rfl (fun K' hK => ?_)
      clear h hi q1 q3 h0
      go_simp
      rw [Oper.semAt_plain F _ _ (by intro c hc; cases hc)]
      go_simp
      try simp only [*]
      try go_simp
      first | exact hK _ _ hst.out | go_must (exact hK _ _ hst.out)
    · have hst := (h.step hi (by omega) hsz).1 (by omega)
      have d8 := h.tmp (k := 8) (by omega) (q3 { on := 8, ground := Ground.data } (by simp) rfl)
      replace hst := Lib.hid hst
      simp [val] at d8
      refine wpOpIn_step rfl (fun K' hK => ?_)
      clear h hi q1 q3 h0
      go_simp
      rw [Oper.semAt_plain F _ _ (by intro c hc; cases hc)]
      go_simp
      try simp only [*]
      try go_simp
      first | exact hK _ _ hst.out | go_must (exact hK _ _ hst.out)
    · have hst := (h.step hi (by omega) hsz).1 (by omega)
      have d1 := h.tmp (k := 1) (by omega) (q3 { on := 1, ground := Ground.data } (by simp) rfl)
      have d2 := h.tmp (k := 2) (by omega) (q3 { on := 2, ground := Ground.data } (by simp) rfl)
      replace hst := Lib.hid hst
      simp [val] at d1 d2
      refine wpOpIn_step rfl (fun K' hK => ?_)
      clear h hi q1 q3 h0
      go_simp
      rw [Oper.semAt_plain F _ _ (by intro c hc; cases hc)]
      go_simp
      try simp only [*]
      try go_simp
      first | exact hK _ _ hst.out | go_must (exact hK _ _ hst.out)
    · have hst := (h.step hi (by omega) hsz).1 (by omega)
      have d10 := h.tmp (k := 10) (by omega) (q3 { on := 10, ground := Ground.data } (by simp) rfl)
      replace hst := Lib.hid hst
      simp [val] at d10
      refine wpOpIn_step rfl (fun K' hK => ?_)
      clear h hi q1 q3 h0
      go_simp
      rw [Oper.semAt_plain F _ _ (by intro c hc; cases hc)]
      go_simp
      try simp only [*]
      try go_simp
      first | exact hK _ _ hst.out | go_must (exact hK _ _ hst.out)
    · have hst := (h.step hi (by omega) hsz).2 rfl
      have d11 := h.tmp (k := 11) (by omega) (q3 { on := 11, ground := Ground.data } (by simp) rfl)
      have d9 := h.tmp (k := 9) (by omega) (q3 { on := 9, ground := Ground.data } (by simp) rfl)
      replace hst := Lib.hid hst
      simp [val] at d11 d9
      refine wpOpIn_step rfl (fun K' hK => ?_)
      clear h hi q1 q3 h0
      go_simp
      rw [Oper.semAt_plain F _ _ (by intro c hc; cases hc)]
      go_simp
      try simp only [*]
      try go_simp
      first | exact hK _ _ hst.out | go_must (exact hK _ _ hst.out)
  · intro f L a w h hr
    have hall := h.done hr
    have hw : w = w0.setCell ⟨g, j * 6 + 2, none⟩ (.bool (!u)) := by rw [h.wo, if_pos (hall 12 (by omega))]
    subst hw
    refine h0 a h.df h.ts fun s => ?_
    rw [h.at_ s]
    by_cases e : 67 ≤ s ∧ s < 79
    · rw [if_pos ⟨e.1, e.2, hall _ (by omega)⟩, if_pos e]
    · rw [if_neg (fun x => e ⟨x.1, x.2.1⟩), if_neg e]
  · intro i o h1 h2
    have := (back i o h1).1
    rw [show (Array.replicate 13 false).getD i false = false by simp [Array.getD, this]] at h2
    cases h2
  · rw [if_neg (by decide)]
  · intro s
    by_cases e : 67 ≤ s ∧ s < 79
    · rw [if_neg (fun x => by have := x.2.2; rw [show (Array.replicate 13 false).getD (s - 67) false = false by simp [Array.getD]] at this; cases this)]
    · rw [if_neg (fun x => e ⟨x.1, x.2.1⟩)]
def puts (val : Nat → Value) (a0 : Act) : Act := ((((((((((((a0).put (some 67) (val 0)).put (some 68) (val 1)).put (some 69) (val 2)).put (some 70) (val 3)).put (some 71) (val 4)).put (some 72) (val 5)).put (some 73) (val 6)).put (some 74) (val 7)).put (some 75) (val 8)).put (some 76) (val 9)).put (some 77) (val 10)).put (some 78) (val 11)
theorem puts_eq {val : Nat → Value} {a a0 : Act} (hsz : 79 ≤ a0.tmps.size) (hd : a.defers = a0.defers) (ht : a.tmps.size = a0.tmps.size) (hs : ∀ s, a.tmps[s]? = if 67 ≤ s ∧ s < 79 then some (val (s - 67)) else a0.tmps[s]?) : a = puts val a0 := by
  have e2 : (puts val a0).defers = a0.defers := by simp only [puts, Act.put]
  have e1 : a.tmps = (puts val a0).tmps := by
    refine Array.ext_getElem? fun s => ?_
    rw [hs s]
    simp only [puts, Act.put, Array.getElem?_setIfInBounds, Array.size_setIfInBounds]
    by_cases e : 67 ≤ s ∧ s < 79
    · rw [if_pos e]
      have hlt : s < a0.tmps.size := by omega
      rcases (by omega : s = 67 ∨ s = 68 ∨ s = 69 ∨ s = 70 ∨ s = 71 ∨ s = 72 ∨ s = 73 ∨ s = 74 ∨ s = 75 ∨ s = 76 ∨ s = 77 ∨ s = 78) with rfl | rfl | rfl | rfl | rfl | rfl | rfl | rfl | rfl | rfl | rfl | rfl <;> simp [hlt]
    · rw [if_neg e]
      rw [if_neg (by omega), if_neg (by omega), if_neg (by omega), if_neg (by omega), if_neg (by omega), if_neg (by omega), if_neg (by omega), if_neg (by omega), if_neg (by omega), if_neg (by omega), if_neg (by omega), if_neg (by omega)]
  cases a; cases h : puts val a0
  rw [h] at e1 e2
  simp only at e1 e2 hd
  rw [e1, hd, e2]
theorem flip_puts {F : Fence} {n : Nat} {Q : Exit → Act → World → Prop} {a0 : Act} {w0 : World} {b g N c j : Nat} {u : Bool} (hsz : 79 ≤ a0.tmps.size) (h9 : a0.tmps.getD 9 undef = .pointer (some ⟨b, 0, none⟩)) (h10 : a0.tmps.getD 10 undef = .int .i64 j)
    (c3 : w0.cell? ⟨b, 3, none⟩ = some (.slice (some ⟨g, 0, none⟩) N c)) (cf : w0.cell? ⟨g, j * 6 + 2, none⟩ = some (.bool u)) (hf : w0.frozen? ⟨g, j * 6 + 2, none⟩ = false) (hj0 : (0 : Int) ≤ (j : Int)) (hj : (j : Int) < (N : Int))
    (h0 : Q .normal (puts (val b g N c j u) a0) (w0.setCell ⟨g, j * 6 + 2, none⟩ (.bool (!u)))) : wpAnyIn F n Try.prog .any fl Q 13 (Array.replicate 13 false) a0 w0 :=
  flip_any (b := b) (g := g) (N := N) (c := c) (j := j) (u := u) hsz h9 h10 c3 cf hf hj0 hj (fun a hd ht hs => (puts_eq hsz hd ht hs).symm ▸ h0)
end Go.Proofs.Ytipnmgihbpbonaa.ordOwR
