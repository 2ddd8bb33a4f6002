/- The law's own map and row of keys; the writes of one transaction, plainly. -/
import Derived.Test.YtnicomhodnfggaaSeOw
set_option linter.unusedVariables false
set_option linter.unusedSimpArgs false
set_option maxRecDepth 100000
namespace Go.Proofs.Ytnicomhodnfggaa.seLm
open Go.ChangeShapes Go.WideShapes Go.ChangeAt Go.RowKit Go.Deep
open opV opO chnM gen chnA chnR chnE seM seI ordC seL seN seB seK seV seW seG seC seA seS seJ seRi seT seOw

/-- behind j writes of one transaction -/
def wn (l : List Oq) : Nat → Ss
  | 0 => beS S0 0
  | j + 1 => wrS (wn l j) (nt l j).key (nt l j).val (nt l j).gone
theorem wn_ok (l : List Oq) : ∀ j, (wn l j).ok
  | 0 => ok_be ok_S0
  | j + 1 => ok_wr (wn_ok l j)
theorem wn_op (l : List Oq) : ∀ j, (wn l j).op = true
  | 0 => rfl
  | j + 1 => by
    have := wn_op l j
    unfold wn wrS
    split
    · exact this
    · exact this
/-- what a write comes to, where a transaction is open -/
theorem wr_ways {S : Ss} (hop : S.op = true) (hle : S.ws.length ≤ 8) (k v : ByteArray) (g : Bool) :
    (isLong k v ∧ wrE S k v g = 6) ∨ (¬ isLong k v ∧ isArg k v g = true ∧ wrE S k v g = 1) ∨ (¬ isLong k v ∧ isArg k v g = false ∧ is S.ws k = false ∧ S.ws.length = 8 ∧ wrE S k v g = 9) ∨
    (¬ isLong k v ∧ isArg k v g = false ∧ is S.ws k = true ∧ wrE S k v g = 0) ∨ (¬ isLong k v ∧ isArg k v g = false ∧ is S.ws k = false ∧ S.ws.length < 8 ∧ wrE S k v g = 0) := by
  have hn : ¬ S.op = false := by rw [hop]; simp
  unfold wrE
  rw [if_neg hn]
  by_cases h1 : isLong k v
  · exact .inl ⟨h1, if_pos h1⟩
  · rw [if_neg h1]
    cases h2 : isArg k v g with
    | true => exact .inr (.inl ⟨h1, rfl, rfl⟩)
    | false =>
      rw [if_neg (by simp)]
      cases h3 : is S.ws k with
      | true => exact .inr (.inr (.inr (.inl ⟨h1, rfl, rfl, by simp⟩)))
      | false =>
        by_cases h4 : 8 ≤ S.ws.length
        · exact .inr (.inr (.inl ⟨h1, rfl, rfl, by omega, if_pos ⟨rfl, h4⟩⟩))
        · exact .inr (.inr (.inr (.inr ⟨h1, rfl, rfl, by omega, if_neg fun h => h4 h.2⟩)))
/-- the map and the row of keys -/
structure LK (mb : Nat) (ws : List Ver) (m : Nat) (A : Option Addr) (c : Nat) (ks : List ByteArray) (col : Nat → Nat) (V : World) : Prop where
  mp : ∃ n D, MapV V mb n D ∧ CR ws D ∧ n ≤ m
  ro : V.ownsRow 0 9 1 (.slice A ks.length c) ks.length (ks.map Value.string)
  cm : col mb = 3
  ck : ∀ k, (Value.slice A ks.length c).ownBlock = some k → col k = 3
def XL (mb : Nat) (ws : List Ver) (m : Nat) (A : Option Addr) (c : Nat) (ks : List ByteArray) : Wh := LK mb ws m A c ks
section
variable {w V V' : World} {p B mb m : Nat} {S : Ss} {o : Oq} {X Y : Wh} {ws : List Ver} {A A' : Option Addr} {c c' : Nat} {ks : List ByteArray}
theorem LK.mlt {col : Nat → Nat} (h : LK mb ws m A c ks col V) : mb < V.heap.size := by obtain ⟨n, D, h1, _⟩ := h.mp; exact h1.lt
theorem st_XL {d : Nat} (hd : d ≠ 3) : St d (XL mb ws m A c ks) := fun col col' V V' hg he h => by
  obtain ⟨n, D, h1, h2, h3⟩ := h.mp
  exact ⟨⟨n, D, map_block h1 (hg.block mb h1.lt (by rw [h.cm]; exact fun e => hd e.symm)), h2, h3⟩, own_block h.ro fun k e => hg.block k (h.ro.lt k e).2 (by rw [h.ck k e]; exact fun e => hd e.symm), (he mb h1.lt).trans h.cm, fun k e => (he k (h.ro.lt k e).2).trans (h.ck k e)⟩
theorem j_xl (h : J w (X2 X (X2 Y (XL mb ws m A c ks))) V) : ∃ col, LK mb ws m A c ks col V := by obtain ⟨col, h1, h2, h3, h4⟩ := h; exact ⟨col, h4⟩
theorem j_xl2 (h : J w (X2 X (XL mb ws m A c ks)) V) : ∃ col, LK mb ws m A c ks col V := by obtain ⟨col, h1, h2, h4⟩ := h; exact ⟨col, h4⟩
theorem own_map (hr : V.ownsRow 0 9 1 (.slice A ks.length c) ks.length (ks.map Value.string)) {n : Nat} {D : DM} (hm : MapV V mb n D) : (Value.slice A ks.length c).ownBlock ≠ some mb := by
  intro e
  rcases hr.2 with ⟨e1, _⟩ | ⟨g, cp, cur, e1, _, hg, _⟩
  · rw [e1] at e; cases e
  · rw [e1] at e; cases e
    obtain ⟨es, cl, hb, _⟩ := hm
    rw [hb] at hg
    cases hg
/-- a look into the law's map -/
theorem l_look (h : J w (X2 X (X2 Y (XL mb ws m A c ks))) V) (k : ByteArray) (hk : k.size ≤ maxLen) : (Instr.lookup TM (.map (some mb)) (.string k) true).run Try.prog V = .ok (.tuple #[vv ((fnd ws k).getD default), .bool (is ws k)]) V := by
  obtain ⟨col, hL⟩ := j_xl h
  obtain ⟨n, D, h1, h2, h3⟩ := hL.mp
  exact cr_look h2 h1 k hk
theorem l_look1 (h : J w (X2 X (XL mb ws m A c ks)) V) (k : ByteArray) (hk : k.size ≤ maxLen) : (Instr.lookup TM (.map (some mb)) (.string k) false).run Try.prog V = .ok (vv ((fnd ws k).getD default)) V := by
  obtain ⟨col, hL⟩ := j_xl2 h
  obtain ⟨n, D, h1, h2, h3⟩ := hL.mp
  exact cr_look1 h2 h1 k hk
/-- a store into it -/
theorem l_store (h : J w (X2 (XS p S) (X2 (XB B o) (XL mb ws m A c ks))) V) (v : Ver) (hk : v.key.size ≤ 16) (hm : m ≤ 1000) :
    ∃ V', (Instr.mapUpdate TM (.map (some mb)) (.string v.key) (vv v)).run Try.prog V = .ok () V' ∧ J w (X2 (XS p S) (X2 (XB B o) (XL mb (pK ws v) (m + 1) A c ks))) V' := by
  obtain ⟨col, h1, h2, h3, hL⟩ := h
  obtain ⟨n, D, hmp, hcr, hn⟩ := hL.mp
  obtain ⟨V', D', hr, hm', hcr', ht⟩ := cr_store hcr hmp v (by unfold maxLen; omega) (by unfold maxLen; omega)
  have hC : Chg col 3 V V' := Chg.grown ht.grown fun k e => by cases e; exact hL.cm
  refine ⟨V', hr, col, h1.go ⟨Ext.refl _ _, h1.fr.up hC.size, hC⟩ (by decide), st_XS (by decide) (by decide) _ _ _ _ hC (Ext.refl _ _) h2, st_XB (by decide) _ _ _ _ hC (Ext.refl _ _) h3, ⟨n + 1, D', hm', hcr', by omega⟩, ?_, hL.cm, hL.ck⟩
  exact own_block hL.ro fun k e => ht.grown.block k (hL.ro.lt k e).2 fun e2 => own_map hL.ro hmp (by rw [e]; exact congrArg some (Option.some.inj e2))
/-- a key more -/
theorem l_app (h : J w (X2 (XS p S) (X2 (XB B o) (XL mb ws m A c ks))) V) (k : ByteArray) (hg : V.grownBy V' (Value.slice A ks.length c).ownBlock) (hr : V'.ownsRow 0 9 1 (.slice A' (ks.length + 1) c') (ks.length + 1) (ks.map Value.string ++ [.string k]))
    (hat : (Value.slice A' (ks.length + 1) c').ownBlock = (Value.slice A ks.length c).ownBlock ∨ (Value.slice A' (ks.length + 1) c').ownBlock = some V.heap.size) : J w (X2 (XS p S) (X2 (XB B o) (XL mb ws m A' c' (ks ++ [k])))) V' := by
  obtain ⟨col, h1, h2, h3, hL⟩ := h
  obtain ⟨n, D, hmp, hcr, hn⟩ := hL.mp
  obtain ⟨hC, hk⟩ := app_col h1.fr hL.ck hg (fun k e => (hr.lt k e).2) hat
  have hlen : (ks ++ [k]).length = ks.length + 1 := by simp
  refine ⟨_, h1.go hC (by decide), st_XS (by decide) (by decide) _ _ _ _ hC.2.2 hC.1 h2, st_XB (by decide) _ _ _ _ hC.2.2 hC.1 h3, ⟨n, D, map_block hmp (hg.block mb hmp.lt fun e => own_map hL.ro hmp e.symm), hcr, hn⟩, ?_, (hC.1 mb hmp.lt).trans hL.cm, ?_⟩
  · rw [hlen, List.map_append]; exact hr
  · rw [hlen]; exact hk
theorem l_row (h : J w (X2 (XS p S) (X2 (XB B o) (XL mb ws m A c ks))) V) : V.ownsRow 0 9 1 (.slice A ks.length c) ks.length (ks.map Value.string) := by
  obtain ⟨col, hL⟩ := j_xl h
  exact hL.ro
theorem l_start (h : J w (X2 (XS p S) XT) V) : J w (X2 (XS p S) (XL V.heap.size [] 0 none 0 [])) (V.alloc (.map #[] 0)) := by
  obtain ⟨col, h1, h2, -⟩ := h
  have hB := al0 V (.map #[] 0)
  have hs : (V.alloc (.map #[] 0)).heap.size = V.heap.size + 1 := by simp
  have hE : Ext V col (fun k => if k = V.heap.size then 3 else col k) := fun k hk => if_neg (by omega)
  have hg := Chg.of_below col 9 hB
  refine ⟨_, h1.go ⟨hE, fun k hk => ?_, hg⟩ (by decide), h2.other hg (by decide) (by decide) hE, ⟨0, .map [], World.ownsMap_made _ _ _ _, cr_nil, Nat.le_refl _⟩, World.ownsRow_nil _ _ _ 1, if_pos rfl, fun k e => (by cases e)⟩
  rw [hs] at hk
  show (if k = V.heap.size then 3 else col k) = 0
  rw [if_neg (by omega)]
  exact h1.fr k (by omega)
end
theorem infoSt : (Try.prog.info? 9).map (fun i => (i.zero, i.size, i.bytes)) = some (some (.string { data := #[] }), 1, 16) := by kernel_rfl
end Go.Proofs.Ytnicomhodnfggaa.seLm
