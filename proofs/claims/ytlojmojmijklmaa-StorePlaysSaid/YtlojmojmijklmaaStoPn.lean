/- A store and the document's own side by side: each call of both, beside a box (for StorePlays). -/
import Derived.Test.YtlojmojmijklmaaStoPl
import Derived.Test.YtlojmojmijklmaaStoTw
set_option linter.unusedVariables false
set_option maxRecDepth 100000
namespace Go.Proofs.Ytlojmojmijklmaa.stoPn
open Go.ChangeShapes Go.WideShapes Go.ChangeAt Go.RowKit Go.Deep
open opV opG chnM gen chnA chnB chnR chnE chnF chnG chnK chnT stoM stoA stoB stoC stoP stoPr stoG stoJ stoW stoLo stoTw stoT stoU stoMv stoD stoRa stoRb stoRc stoRd stoRe stoRf stoRg stoRh stoPl

abbrev OB (p : Nat) (kd : Int) (A : Option Addr) (n c : Nat) (lo hi : ByteArray) (t : Int) (X : World) : Prop :=
  X.cell? ⟨p, 0, none⟩ = some (.int .i64 kd) ∧ X.cell? ⟨p, 1, none⟩ = some (.slice A n c) ∧ X.cell? ⟨p, 2, none⟩ = some (.string lo) ∧ X.cell? ⟨p, 3, none⟩ = some (.string hi) ∧ X.cell? ⟨p, 4, none⟩ = some (.int .u64 t)
section
variable {p : Nat} {kd : Int} {A : Option Addr} {n c : Nat} {lo hi : ByteArray} {t : Int} {X Y w : World} {S b M : Nat} {sa sd s' : St} {K : Nat → Prop}
theorem OB.new (w : World) (kd : Int) (A : Option Addr) (n c : Nat) (lo hi : ByteArray) (t : Int) (ty : TypeId) : OB w.heap.size kd A n c lo hi t (w.alloc (.cells #[.int .i64 kd, .slice A n c, .string lo, .string hi, .int .u64 t] ty)) := by
  have h := fun (j : Nat) (u : Value) (hu : (#[.int .i64 kd, .slice A n c, .string lo, .string hi, .int .u64 t] : Array Value)[j]? = some u) =>
    (cell_of_row _ _ j _ ty (0, 0) (heap_alloc_new w (.cells #[.int .i64 kd, .slice A n c, .string lo, .string hi, .int .u64 t] ty))).trans hu
  exact ⟨h 0 _ rfl, h 1 _ rfl, h 2 _ rfl, h 3 _ rfl, h 4 _ rfl⟩
theorem OB.chg (h : OB p kd A n c lo hi t X) (hC : Chg K X Y) (hp : ¬ K p) : OB p kd A n c lo hi t Y := ⟨hC.cell h.1 hp, hC.cell h.2.1 hp, hC.cell h.2.2.1 hp, hC.cell h.2.2.2.1 hp, hC.cell h.2.2.2.2 hp⟩
theorem OB.below (h : OB p kd A n c lo hi t X) (hB : Below X.heap.size X Y) : OB p kd A n c lo hi t Y := ⟨keep_cell hB h.1, keep_cell hB h.2.1, keep_cell hB h.2.2.1, keep_cell hB h.2.2.2.1, keep_cell hB h.2.2.2.2⟩
theorem tw_bd (h : Tw w S b M sa sd X) : ∀ k, own3 S b M k → k < X.heap.size := by obtain ⟨D, hI⟩ := h.a; exact hI.bd
theorem tw_box (h : Tw w S b M sa sd X) : ¬ own3 S b M X.heap.size := fun e => by have := tw_bd h _ e; omega
theorem tw_inv (h : Tw w S b M sa sd X) : Inv sa := by obtain ⟨D, hI⟩ := h.a; exact hI.inv
theorem n2 (hp : ¬ own3 S b M p) : ¬ own2 S b p := fun e => hp (.inl e)
theorem n1 (hp : ¬ own3 S b M p) : ¬ (fun k => k = M) p := fun e => hp (.inr e)
theorem few3 (A : Option Addr) (c : Nat) (l : List Ver) (w : World) (h : HV w A c l) :
    Calls Try.prog 10 #[.slice A l.length c, .int .i64 3] w fun e w' => e = .returned (.slice A (l.take 3).length c) ∧ w = w' := few_any A c l 3 w h (by omega)
theorem few20 (A : Option Addr) (c : Nat) (l : List Ver) (w : World) (h : HV w A c l) :
    Calls Try.prog 10 #[.slice A l.length c, .int .i64 20] w fun e w' => e = .returned (.slice A (l.take 20).length c) ∧ w = w' := few_any A c l 20 w h (by omega)
theorem own_not3 {w : World} {S b M : Nat} {A : Option Addr} {c : Nat} {l : List Ver} (h : HV w A c l) (hS : w.heap.size ≤ S) (hb : w.heap.size ≤ b) (hM : w.heap.size ≤ M) : l = [] ∨ ∀ y, A = some y → ¬ own3 S b M y.block := by
  by_cases h0 : l = []
  · exact .inl h0
  · refine .inr fun y e k => ?_
    obtain ⟨b2, off, e2, hlt, _⟩ := h.at (i := 0) (List.length_pos_iff.2 h0)
    rw [e] at e2; cases e2
    rcases k with (k | k) | k
    · have : b2 = S := k
      omega
    · have : b2 = b := k
      omega
    · have : b2 = M := k
      omega
/-! ### Put -/
variable {v x : Ver} {q : Nat}
theorem tw_put (h : Tw w S b M sa sd X) (hln : ln sa.ch ≤ 1300) (hV : V6 q 0 x X) (hq : ¬ own3 S b M q) (v : Ver) :
    Calls Try.prog 11 #[.pointer (some ⟨S, 0, none⟩), .agg #[.string v.key, .string v.val, .bool v.gone, .int .u64 v.ts, .int .i64 v.dc, .int .i64 v.tx]] X fun e w' => e = .returned (.int .i64 (puE sa v : Nat)) ∧ V6 q 0 x w' ∧ Hid (Tw w S b M (puS sa v) sd w') := by
  refine (put_any v X h.a (by omega)).mono ?_
  rintro e w' ⟨rfl, hC, hA⟩
  exact ⟨rfl, V6.chg hV hC (n2 hq), Lib.hid (h.ca hC hA)⟩
theorem tw_dput (h : Tw w S b M sa sd X) (hi : Inv sd) (hln : ln sd.ch ≤ 1300) (hV : V6 q 0 x X) (hq : ¬ own3 S b M q) (v : Ver) :
    Calls Try.prog 12 #[.pointer (some ⟨M, 0, none⟩), .agg #[.string v.key, .string v.val, .bool v.gone, .int .u64 v.ts, .int .i64 v.dc, .int .i64 v.tx]] X fun e w' => e = .returned (.int .i64 (puE sd v : Nat)) ∧ V6 q 0 x w' ∧ Hid (Tw w S b M sa (puS sd v) w') := by
  refine (dput_any v X h.d (by have := of_len hi v.key; omega) (by have := len_ln hi.ne; omega)).mono ?_
  rintro e w' ⟨rfl, hC, hA⟩
  exact ⟨rfl, V6.chg hV hC (n1 hq), Lib.hid (h.cd hC hA)⟩
/-! ### Load -/
theorem tw_load (h : Tw w S b M sa sd X) (hln : ln sa.ch ≤ 1300) (hO : OB p kd A n c lo hi t X) (hp : ¬ own3 S b M p) {A1 : Option Addr} {c1 : Nat} {l : List Ver} (hl : HV w A1 c1 l) (hn : l.length ≤ 20) :
    Calls Try.prog 15 #[.pointer (some ⟨S, 0, none⟩), .slice A1 l.length c1] X fun e w' => e = .returned (.int .i64 (loN sa l l.length : Nat)) ∧ OB p kd A n c lo hi t w' ∧ Hid (Tw w S b M (loS sa l l.length) sd w') := by
  refine (load_any A1 c1 l X h.a (hl.below h.bel) ((own_not3 hl h.h1 h.h2 h.h3).imp id fun g y e => n2 (g y e)) (by omega)).mono ?_
  rintro e w' ⟨rfl, hC, hA⟩
  exact ⟨rfl, OB.chg hO hC (n2 hp), Lib.hid (h.ca hC hA)⟩
theorem tw_dload (h : Tw w S b M sa sd X) (hi9 : Inv sd) (hln : ln sd.ch ≤ 1300) (hO : OB p kd A n c lo hi t X) (hp : ¬ own3 S b M p) {A1 : Option Addr} {c1 : Nat} {l : List Ver} (hl : HV w A1 c1 l) (hn : l.length ≤ 20) :
    Calls Try.prog 16 #[.pointer (some ⟨M, 0, none⟩), .slice A1 l.length c1] X fun e w' => e = .returned (.int .i64 (loN sd l l.length : Nat)) ∧ OB p kd A n c lo hi t w' ∧ Hid (Tw w S b M sa (loS sd l l.length) w') := by
  refine (dload_any A1 c1 l X h.d hi9 (hl.below h.bel) ((own_not3 hl h.h1 h.h2 h.h3).imp id fun g y e => n1 (g y e)) (by omega)).mono ?_
  rintro e w' ⟨rfl, hC, hA⟩
  exact ⟨rfl, OB.chg hO hC (n1 hp), Lib.hid (h.cd hC hA)⟩
/-! ### Drop, Trim -/
theorem tw_drop (h : Tw w S b M sa sd X) (hO : OB p kd A n c lo hi t X) (hp : ¬ own3 S b M p) (x y : ByteArray) :
    Calls Try.prog 19 #[.pointer (some ⟨S, 0, none⟩), .string x, .string y] X fun e w' => e = .returned (.int .i64 ((al sa.ch x y).length : Nat)) ∧ OB p kd A n c lo hi t w' ∧ Hid (Tw w S b M ⟨dr sa.ch x y, sa.fl⟩ sd w') := by
  refine (drop_any x y X h.a).mono ?_
  rintro e w' ⟨rfl, hC, hA⟩
  exact ⟨rfl, OB.chg hO hC (n2 hp), Lib.hid (h.ca hC hA)⟩
theorem tw_ddrop (h : Tw w S b M sa sd X) (hi9 : Inv sd) (hln : ln sd.ch ≤ 1300) (hO : OB p kd A n c lo hi t X) (hp : ¬ own3 S b M p) (x y : ByteArray) :
    Calls Try.prog 20 #[.pointer (some ⟨M, 0, none⟩), .string x, .string y] X fun e w' => e = .returned (.int .i64 ((al sd.ch x y).length : Nat)) ∧ OB p kd A n c lo hi t w' ∧ Hid (Tw w S b M sa ⟨dr sd.ch x y, sd.fl⟩ w') := by
  refine (ddrop_any x y X h.d (by omega) (by have := len_ln hi9.ne; omega)).mono ?_
  rintro e w' ⟨rfl, hC, hA⟩
  exact ⟨rfl, OB.chg hO hC (n1 hp), Lib.hid (h.cd hC hA)⟩
theorem tw_trim (h : Tw w S b M sa sd X) (hO : OB p kd A n c lo hi t X) (hp : ¬ own3 S b M p) (g : Int) :
    Calls Try.prog 21 #[.pointer (some ⟨S, 0, none⟩), .int .u64 g] X fun e w' => e = .returned (.int .i64 (tmN sa.ch (tmF sa.fl g) : Nat)) ∧ OB p kd A n c lo hi t w' ∧ Hid (Tw w S b M ⟨tmC sa.ch (tmF sa.fl g), tmF sa.fl g⟩ sd w') := by
  refine (trim_store g X h.a).mono ?_
  rintro e w' ⟨rfl, hC, hA⟩
  exact ⟨rfl, OB.chg hO hC (n2 hp), Lib.hid (h.ca hC hA)⟩
theorem tw_dtrim (h : Tw w S b M sa sd X) (hi9 : Inv sd) (hln : ln sd.ch ≤ 1300) (hO : OB p kd A n c lo hi t X) (hp : ¬ own3 S b M p) (g : Int) :
    Calls Try.prog 22 #[.pointer (some ⟨M, 0, none⟩), .int .u64 g] X fun e w' => e = .returned (.int .i64 (tmN sd.ch (tmF sd.fl g) : Nat)) ∧ OB p kd A n c lo hi t w' ∧ Hid (Tw w S b M sa ⟨tmC sd.ch (tmF sd.fl g), tmF sd.fl g⟩ w') := by
  refine (dtrim_any g X h.d (by omega) (by have := len_ln hi9.ne; omega)).mono ?_
  rintro e w' ⟨rfl, hC, hA⟩
  exact ⟨rfl, OB.chg hO hC (n1 hp), Lib.hid (h.cd hC hA)⟩
/-! ### Get, All -/
theorem tw_get (h : Tw w S b M sa sd X) (hO : OB p kd A n c lo hi t X) (k : ByteArray) (g : Int) (hk : k.size ≤ 140737488351232) :
    Calls Try.prog 17 #[.pointer (some ⟨S, 0, none⟩), .string k, .int .u64 g] X fun e w' => e = .returned (.tuple #[.agg #[.string (gtV sa k g).key, .string (gtV sa k g).val, .bool (gtV sa k g).gone, .int .u64 (gtV sa k g).ts, .int .i64 (gtV sa k g).dc, .int .i64 (gtV sa k g).tx], .bool (gtB sa k g), .int .i64 (gtE sa g : Nat)]) ∧ OB p kd A n c lo hi t w' ∧ Hid (Tw w S b M sa sd w') := by
  refine (get_any k g X h.a hk).mono ?_
  rintro e w' ⟨rfl, hB⟩
  exact ⟨rfl, OB.below hO hB, Lib.hid (h.below hB)⟩
theorem tw_dget (h : Tw w S b M sa sd X) (hV : V6 q 0 v X) (k : ByteArray) (g : Int) :
    Calls Try.prog 18 #[.pointer (some ⟨M, 0, none⟩), .string k, .int .u64 g] X fun e w' => e = .returned (.tuple #[.agg #[.string (gtV sd k g).key, .string (gtV sd k g).val, .bool (gtV sd k g).gone, .int .u64 (gtV sd k g).ts, .int .i64 (gtV sd k g).dc, .int .i64 (gtV sd k g).tx], .bool (gtB sd k g), .int .i64 (gtE sd g : Nat)]) ∧ V6 q 0 v w' ∧ Hid (Tw w S b M sa sd w') := by
  refine (dget_any k g X h.d).mono ?_
  rintro e w' ⟨rfl, hB⟩
  exact ⟨rfl, hV.below hB, Lib.hid (h.below hB)⟩
theorem al_ln2 (s : St) (x y : ByteArray) (h : ln s.ch ≤ 1300) : (al s.ch x y).length ≤ 1300 := by
  have h1 := ln_filter (fun c => wth c.key x y) s.ch
  unfold al sp
  rw [cc_len]; omega
theorem tw_all (h : Tw w S b M sa sd X) (hln : ln sa.ch ≤ 1300) (hO : OB p kd A n c lo hi t X) (x y : ByteArray) :
    Calls Try.prog 24 #[.pointer (some ⟨S, 0, none⟩), .string x, .string y] X fun e w' => ∃ A1 c1, e = .returned (.slice A1 (al sa.ch x y).length c1) ∧ OB p kd A n c lo hi t w' ∧ Hid (HV w' A1 c1 (al sa.ch x y) ∧ Tw w S b M sa sd w') := by
  refine (all_any x y X h.a).mono ?_
  rintro e w' ⟨A1, c1, rfl, hG, hB⟩
  exact ⟨A1, c1, rfl, OB.below hO hB, Lib.hid ⟨hG.hv (by have := al_ln2 sa x y hln; omega), h.below hB⟩⟩
theorem tw_dall (h : Tw w S b M sa sd X) (hi9 : Inv sd) (hln : ln sd.ch ≤ 1300) (hO : OB p kd A n c lo hi t X) (x y : ByteArray) {A1 : Option Addr} {c1 : Nat} {l : List Ver} (hl : HV X A1 c1 l) :
    Calls Try.prog 25 #[.pointer (some ⟨M, 0, none⟩), .string x, .string y] X fun e w' => ∃ A2 c2, e = .returned (.slice A2 (al sd.ch x y).length c2) ∧ OB p kd A n c lo hi t w' ∧ Hid (HV w' A2 c2 (al sd.ch x y) ∧ HV w' A1 c1 l ∧ Tw w S b M sa sd w') := by
  refine (dall_any x y X h.d (by omega) (by have := len_ln hi9.ne; omega)).mono ?_
  rintro e w' ⟨A2, c2, rfl, hG, hB⟩
  exact ⟨A2, c2, rfl, OB.below hO hB, Lib.hid ⟨hG.hv (by have := al_ln2 sd x y hln; omega), hl.below hB, h.below hB⟩⟩
theorem tw_same (h : Tw w S b M sa sd X) (hO : OB p kd A n c lo hi t X) {A1 A2 : Option Addr} {c1 c2 : Nat} {l : List Ver} (h1 : HV X A1 c1 l) (h2 : HV X A2 c2 l) :
    Calls Try.prog 23 #[.slice A1 l.length c1, .slice A2 l.length c2] X fun e w' => e = .returned (.bool true) ∧ OB p kd A n c lo hi t w' ∧ Hid (Tw w S b M sa sd w') := by
  have h9 := samevers A1 c1 l A2 c2 l X h1 h2
  rw [decide_eq_true rfl] at h9
  refine h9.mono ?_
  rintro e w' ⟨rfl, hB⟩
  exact ⟨rfl, OB.below hO hB, Lib.hid (h.below hB)⟩
theorem tw_chk (h : Tw w S b M sa sd X) (hV : V6 q 0 x X) (v : Ver) : Calls Try.prog 13 #[.agg #[.string v.key, .string v.val, .bool v.gone, .int .u64 v.ts, .int .i64 v.dc, .int .i64 v.tx]] X fun e w' => e = .returned (.int .i64 (chk v : Nat)) ∧ V6 q 0 x w' ∧ Hid (Tw w S b M sa sd w') := by
  refine (check_any v X).mono ?_
  rintro e w' ⟨rfl, hB⟩
  exact ⟨rfl, hV.below hB, Lib.hid (h.below hB)⟩
theorem tw_dchk (h : Tw w S b M sa sd X) (hV : V6 q 0 x X) (v : Ver) : Calls Try.prog 14 #[.agg #[.string v.key, .string v.val, .bool v.gone, .int .u64 v.ts, .int .i64 v.dc, .int .i64 v.tx]] X fun e w' => e = .returned (.int .i64 (chk v : Nat)) ∧ V6 q 0 x w' ∧ Hid (Tw w S b M sa sd w') := by
  refine (rcheck_any v X).mono ?_
  rintro e w' ⟨rfl, hB⟩
  exact ⟨rfl, hV.below hB, Lib.hid (h.below hB)⟩
end
end Go.Proofs.Ytlojmojmijklmaa.stoPn
