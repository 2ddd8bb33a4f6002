/- The contracts of Text and TakeText, in the program and in the document's own answer; the walks of the statements NumTexts and NumCuts. -/
import Derived.Test.YtihojeffdepddaaNumD
import Derived.Deep.QuietTactic
import Derived.BigQuiet
namespace Go.Proofs.Ytihojeffdepddaa.numE
open Go.ChangeShapes Go.WideShapes Go.ChangeAt Go.RowKit
open numM numN rowA byt numA numB numC numD

/-- A string's bytes, as numbers. -/
def sl (s : ByteArray) : List Nat := s.data.toList.map UInt8.toNat
theorem sl_len (s : ByteArray) : (sl s).length = s.size := by unfold sl; rw [List.length_map, Array.length_toList]; rfl
theorem sl_lt (s : ByteArray) : ∀ c ∈ sl s, c < 256 := by
  intro c hc
  obtain ⟨b, _, rfl⟩ := List.mem_map.1 hc
  exact b.toNat_lt
theorem sl_cells (s : ByteArray) : Lib.strCells s = ub (sl s) := by
  unfold Lib.strCells ub sl
  rw [List.map_map]; rfl
theorem str_sl (s : ByteArray) : byt.strOf (sl s) = s := by
  unfold byt.strOf strOfNums sl
  have e : ((s.data.toList.map UInt8.toNat).map fun (c : Nat) => (c : Int)).map (fun n => UInt8.ofNat n.toNat) = s.data.toList := by
    rw [List.map_map, List.map_map]
    conv => rhs; rw [← List.map_id s.data.toList]
    apply List.map_congr_left
    intro b _
    simp
  rw [e]

/-- append of a string's bytes onto a row of the call's own -/
theorem wpList_apps {P : Program} {w : World} {ops : Array Oper} {rest : List Oper} {o : Oper} {a : Act} {Q : Exit → Act → World → Prop} (hgd : o.guard = none) (x y : Operand) (t u : TypeId)
    (ho : o.op = .call { callee := .builtin .append, args := #[x, y], argTypes := #[t, u] })
    (base : Nat) (i : TypeInfo) (ht : P.underlying t = some (.slice 5)) (hu : P.underlying u = some .string) (hi : P.info? 5 = some i) (hz : i.zero = some (.int .u8 0)) (h1 : i.size = 1) (h2 : i.bytes = 1)
    (v : Value) (n : Nat) (l : List Nat) (hs : a.eval x = v) (hown : Own w base v n l) (s : ByteArray) (hx : a.eval y = .string s)
    (hroom : n + s.size ≤ 140737488355328) (hbase : base ≤ w.heap.size)
    (h : ∀ v' w', Own w' base v' (n + s.size) (l ++ sl s) → w.grownBy w' v.ownBlock → wpList P ops Q rest (a.put o.dst v') w') : wpList P ops Q (o :: rest) a w := by
  refine Lib.wpList_append_own_string w hgd x y t u ho base 5 i ht hu hi hz h1 h2 v n (ub l) hs hown.2.2.2 s hx (by unfold maxLen; omega) hroom hbase ?_
  intro v' w' ho' hg _
  rw [sl_cells, ← ub_add] at ho'
  refine h v' w' ⟨by rw [List.length_append, hown.1, sl_len], fun c hc => (List.mem_append.1 hc).elim (hown.2.1 c) (sl_lt s c), by omega, ho'⟩ hg

/-! ### Text -/
theorem text_arg (s : ByteArray) (k : Int) (w : World) (h : k < 0) :
    Calls Try.prog 21 #[.string s, .int .i64 k] w fun e w' => e = .returned (.tuple #[.slice none 0 0, .int .i64 1]) ∧ w = w' := by
  go_enter Try.func21, Try.ntmps21
  go_wp2
  go_ret2
  exact ⟨rfl, rfl⟩
theorem rtext_arg (s : ByteArray) (k : Int) (w : World) (h : k < 0) :
    Calls Try.prog 22 #[.string s, .int .i64 k] w fun e w' => e = .returned (.tuple #[.slice none 0 0, .int .i64 1]) ∧ w = w' := by
  go_enter Try.func22, Try.ntmps22
  go_wp2
  go_ret2
  exact ⟨rfl, rfl⟩
theorem text_long (s : ByteArray) (k : Int) (w : World) (h : 0 ≤ k) (h2 : k < s.size) :
    Calls Try.prog 21 #[.string s, .int .i64 k] w fun e w' => e = .returned (.tuple #[.slice none 0 0, .int .i64 6]) ∧ w = w' := by
  go_enter Try.func21, Try.ntmps21
  go_wp2
  go_ret2
  exact ⟨rfl, rfl⟩
theorem rtext_long (s : ByteArray) (k : Int) (w : World) (h : 0 ≤ k) (h2 : k < s.size) :
    Calls Try.prog 22 #[.string s, .int .i64 k] w fun e w' => e = .returned (.tuple #[.slice none 0 0, .int .i64 6]) ∧ w = w' := by
  go_enter Try.func22, Try.ntmps22
  go_wp2
  go_ret2
  exact ⟨rfl, rfl⟩

/-- the bytes of a text -/
def tx (s : ByteArray) : List Nat := uv s.size ++ sl s
set_option maxRecDepth 100000 in
theorem text_ok (s : ByteArray) (k : Int) (w : World) (h2 : (s.size : Int) ≤ k) (hs : s.size ≤ 140737488351232) :
    Calls Try.prog 21 #[.string s, .int .i64 k] w (Makes2 w (tx s)) := by
  obtain ⟨i0, hi, hz0, hz1, hz2⟩ := info_parts bytes8
  have hlen := uv_len10 (show s.size < 18446744073709551616 by omega)
  have hk0 : 0 ≤ k := by omega
  go_enter Try.func21, Try.ntmps21
  go_wp2_with (fail)
  refine (uvar_any s.size _ (by omega)).mono ?_
  rintro e w1 ⟨A, cap, rfl, hown, hB⟩
  replace hown := Lib.hid hown
  have hsz := Lib.hid hB.size
  go_wp2_with (at_builtin; (refine wpList_apps rfl _ _ 23 9 rfl w.heap.size i0 Try.underlying23 Try.underlying9 hi hz0 hz1 hz2 _ _ (uv s.size) rfl hown.out s rfl ?c1 ?c2 ?_))
  case c1 => omega
  case c2 => exact hsz.out
  intro v' w2 hown2 hgrow
  replace hown2 := Lib.hid hown2
  have hBn := Lib.hid (hown.out.grown hB hgrow hsz.out)
  clear hgrow hB
  go_wp2
  go_ret2
  exact Makes2.of (by unfold tx; rw [List.length_append, sl_len]) hown2.out hBn.out
set_option maxRecDepth 100000 in
theorem rtext_ok (s : ByteArray) (k : Int) (w : World) (h2 : (s.size : Int) ≤ k) (hs : s.size ≤ 140737488351232) :
    Calls Try.prog 22 #[.string s, .int .i64 k] w (Makes2 w (tx s)) := by
  obtain ⟨i0, hi, hz0, hz1, hz2⟩ := info_parts bytes8
  have hlen := uv_len10 (show s.size < 18446744073709551616 by omega)
  have hk0 : 0 ≤ k := by omega
  go_enter Try.func22, Try.ntmps22
  go_wp2_with (fail)
  refine (ruvar_any s.size _ (by omega)).mono ?_
  rintro e w1 ⟨A, cap, rfl, hown, hB⟩
  replace hown := Lib.hid hown
  have hsz := Lib.hid hB.size
  go_wp2_with (at_builtin; (refine wpList_apps rfl _ _ 23 9 rfl w.heap.size i0 Try.underlying23 Try.underlying9 hi hz0 hz1 hz2 _ _ (uv s.size) rfl hown.out s rfl ?c1 ?c2 ?_))
  case c1 => omega
  case c2 => exact hsz.out
  intro v' w2 hown2 hgrow
  replace hown2 := Lib.hid hown2
  have hBn := Lib.hid (hown.out.grown hB hgrow hsz.out)
  clear hgrow hB
  go_wp2
  go_ret2
  exact Makes2.of (by unfold tx; rw [List.length_append, sl_len]) hown2.out hBn.out

def txl (s : ByteArray) (k : Int) : List Nat := if k < 0 then [] else if k < s.size then [] else tx s
def txe (s : ByteArray) (k : Int) : Nat := if k < 0 then 1 else if k < s.size then 6 else 0
theorem text_any (s : ByteArray) (k : Int) (w : World) (hs : s.size ≤ 140737488351232) :
    Calls Try.prog 21 #[.string s, .int .i64 k] w (Gives w (txl s k) (txe s k)) := by
  unfold txl txe
  by_cases h : k < 0
  · rw [if_pos h, if_pos h]
    refine (text_arg s k w h).mono ?_
    rintro e w' ⟨rfl, rfl⟩
    exact gives_none w 1
  · rw [if_neg h, if_neg h]
    by_cases h2 : k < s.size
    · rw [if_pos h2, if_pos h2]
      refine (text_long s k w (by omega) h2).mono ?_
      rintro e w' ⟨rfl, rfl⟩
      exact gives_none w 6
    · rw [if_neg h2, if_neg h2]
      exact (text_ok s k w (by omega) hs).mono fun e w' hm => gives_made hm
theorem rtext_any (s : ByteArray) (k : Int) (w : World) (hs : s.size ≤ 140737488351232) :
    Calls Try.prog 22 #[.string s, .int .i64 k] w (Gives w (txl s k) (txe s k)) := by
  unfold txl txe
  by_cases h : k < 0
  · rw [if_pos h, if_pos h]
    refine (rtext_arg s k w h).mono ?_
    rintro e w' ⟨rfl, rfl⟩
    exact gives_none w 1
  · rw [if_neg h, if_neg h]
    by_cases h2 : k < s.size
    · rw [if_pos h2, if_pos h2]
      refine (rtext_long s k w (by omega) h2).mono ?_
      rintro e w' ⟨rfl, rfl⟩
      exact gives_none w 6
    · rw [if_neg h2, if_neg h2]
      exact (rtext_ok s k w (by omega) hs).mono fun e w' hm => gives_made hm

/-! ### TakeText -/
def tte (l : List Nat) (k : Int) : Nat := if k < 0 then 1 else if tke l ≠ 0 then tke l else if k < tkv l then 6 else if l.length - tkn l < tkv l then 2 else 0
def ttl (l : List Nat) (k : Int) : List Nat := if tte l k = 0 then (l.drop (tkn l)).take (tkv l) else []
def ttn (l : List Nat) (k : Int) : Nat := if tte l k = 0 then tkn l + tkv l else 0
theorem tt_no {l : List Nat} {k : Int} {e : Nat} (h : tte l k = e) (he : e ≠ 0) : ttl l k = [] ∧ ttn l k = 0 := by
  unfold ttl ttn
  rw [if_neg (by omega), if_neg (by omega)]
  exact ⟨rfl, rfl⟩
/-- What TakeText answers. -/
def Tt (l : List Nat) (k : Int) : Value := .tuple #[.string (byt.strOf (ttl l k)), .int .i64 (ttn l k), .int .i64 (tte l k)]
theorem Tt.no {l : List Nat} {k : Int} {e : Nat} (h : tte l k = e) (he : e ≠ 0) : Tt l k = .tuple #[.string ⟨#[]⟩, .int .i64 0, .int .i64 e] := by
  have h2 := tt_no h he
  unfold Tt
  rw [h2.1, h2.2, h]; rfl

set_option maxRecDepth 100000 in
theorem ttext_any (a : Option Addr) (m cap : Nat) (k : Int) (l : List Nat) (w : World) (hb : BL w a m l) (hcap : m ≤ cap) (h9 : cap ≤ 9223372036854775807) (hkm : k ≤ 9223372036854775807) :
    Calls Try.prog 23 #[.slice a m cap, .int .i64 k] w fun e w' => e = .returned (Tt l k) ∧ w = w' := by
  by_cases hk : k < 0
  · rw [Tt.no (e := 1) (by unfold tte; rw [if_pos hk]) (by decide)]
    clear hb
    go_enter Try.func23, Try.ntmps23
    go_wp2
    go_ret3
    exact ⟨rfl, rfl⟩
  · by_cases he : tke l = 0
    · obtain ⟨hv, hn0, hnl, hu⟩ := tk_yes hb.lt he
      have htu := tuv_any a m cap l w hb
      rw [he] at htu
      obtain ⟨k, rfl⟩ := Int.eq_ofNat_of_zero_le (show 0 ≤ k by omega)
      have e1 : tte l k = if k < tkv l then 6 else if m - tkn l < tkv l then 2 else 0 := by
        unfold tte
        rw [if_neg hk, if_neg (by omega), hb.1]
        by_cases h : k < tkv l
        · rw [if_pos h, if_pos (by omega)]
        · rw [if_neg h, if_neg (by omega)]
      have e2 : tte l k = 0 → Tt l k = .tuple #[.string (byt.strOf ((l.drop (tkn l)).take (tkv l))), .int .i64 ((tkn l + tkv l : Nat) : Int), .int .i64 0] := by
        intro h
        unfold Tt ttl ttn
        rw [if_pos h, if_pos h, h]; rfl
      rw [hb.1] at hnl
      obtain ⟨b, off, rfl, _⟩ := hb.at (show 0 < m by omega)
      have hsub := hb.drop (tkn l)
      have hlen := hb.1
      have hm9 := hb.2.1
      generalize hlt : (l.drop (tkn l)).take (tkv l) = lt at *
      have hmid : tkv l ≤ m - tkn l → BL w (some ⟨b, off + tkn l, none⟩) (tkv l) lt := fun h => by rw [← hlt]; exact hsub.take (tkv l) h
      clear hlt hsub hu he
      generalize tkn l = x at *
      generalize tkv l = v at *
      generalize hT : Tt l k = T at *
      have htu' := Lib.hid htu
      clear htu hb hlen
      by_cases h1 : k < v
      · rw [if_pos h1] at e1
        have hfin := Lib.hid (hT.symm.trans (Tt.no e1 (by decide)))
        clear e1 e2 hT hmid
        go_enter Try.func23, Try.ntmps23
        go_wp2_with ((go_at_call 17; ((with_reducible refine (htu'.out).mono ?_); rintro e w' ⟨rfl, rfl⟩)))
        go_ret3
        exact ⟨by rw [hfin.out]; rfl, rfl⟩
      · rw [if_neg h1] at e1
        by_cases h2 : m - x < v
        · rw [if_pos h2] at e1
          have hfin := Lib.hid (hT.symm.trans (Tt.no e1 (by decide)))
          have h3 : (m : Int) - x < v := by omega
          clear e1 e2 hT hmid
          go_enter Try.func23, Try.ntmps23
          go_wp2_with ((go_at_call 17; ((with_reducible refine (htu'.out).mono ?_); rintro e w' ⟨rfl, rfl⟩)))
          go_ret3
          exact ⟨by rw [hfin.out]; rfl, rfl⟩
        · rw [if_neg h2] at e1
          have hfin := Lib.hid (e2 e1)
          have hbm := hmid (by omega)
          have h3 : (v : Int) ≤ m - x := by omega
          clear e1 e2 hT hmid
          by_cases hx : cap = x
          · obtain rfl : v = 0 := by omega
            subst hx
            have hl0 : lt = [] := List.eq_nil_of_length_eq_zero hbm.1
            subst hl0
            have ec := run_str (P := Try.prog) (w := w) 23 5 9 Try.underlying23 Try.underlying5 Try.underlying9 0 (BL.none_ w (some ⟨b, off, none⟩))
            clear hbm
            go_enter Try.func23, Try.ntmps23
            go_wp2_with ((go_at_call 17; ((with_reducible refine (htu'.out).mono ?_); rintro e w' ⟨rfl, rfl⟩)))
            go_ret3
            exact ⟨by rw [hfin.out]; rfl, rfl⟩
          · have ec := run_str (P := Try.prog) 23 5 9 Try.underlying23 Try.underlying5 Try.underlying9 (cap - x) hbm
            clear hbm
            go_enter Try.func23, Try.ntmps23
            go_wp2_with ((go_at_call 17; ((with_reducible refine (htu'.out).mono ?_); rintro e w' ⟨rfl, rfl⟩)))
            go_ret3
            exact ⟨by rw [hfin.out]; exact ret3 rfl (congrArg (Value.int .i64) (by omega)) rfl, rfl⟩
    · have htu := tuv_any a m cap l w hb
      obtain ⟨hv, hn, he2⟩ := tk_no he
      rw [hv, hn] at htu
      rw [Tt.no (e := tke l) (by unfold tte; rw [if_neg hk, if_pos he]) he]
      have hne : ((tke l : Int) != 0) = true := by rw [bne_iff_ne]; omega
      generalize tke l = x at *
      have htu' := Lib.hid htu
      clear htu hb
      go_enter Try.func23, Try.ntmps23
      go_wp2_with ((go_at_call 17; ((with_reducible refine (htu'.out).mono ?_); rintro e w' ⟨rfl, rfl⟩)))
      go_ret3
      exact ⟨rfl, rfl⟩
set_option maxRecDepth 100000 in
theorem rttext_any (a : Option Addr) (m cap : Nat) (k : Int) (l : List Nat) (w : World) (hb : BL w a m l) (hcap : m ≤ cap) (h9 : cap ≤ 9223372036854775807) (hkm : k ≤ 9223372036854775807) :
    Calls Try.prog 24 #[.slice a m cap, .int .i64 k] w fun e w' => e = .returned (Tt l k) ∧ w = w' := by
  by_cases hk : k < 0
  · rw [Tt.no (e := 1) (by unfold tte; rw [if_pos hk]) (by decide)]
    clear hb
    go_enter Try.func24, Try.ntmps24
    go_wp2
    go_ret3
    exact ⟨rfl, rfl⟩
  · by_cases he : tke l = 0
    · obtain ⟨hv, hn0, hnl, hu⟩ := tk_yes hb.lt he
      have htu := rtuv_any a m cap l w hb
      rw [he] at htu
      obtain ⟨k, rfl⟩ := Int.eq_ofNat_of_zero_le (show 0 ≤ k by omega)
      have e1 : tte l k = if k < tkv l then 6 else if m - tkn l < tkv l then 2 else 0 := by
        unfold tte
        rw [if_neg hk, if_neg (by omega), hb.1]
        by_cases h : k < tkv l
        · rw [if_pos h, if_pos (by omega)]
        · rw [if_neg h, if_neg (by omega)]
      have e2 : tte l k = 0 → Tt l k = .tuple #[.string (byt.strOf ((l.drop (tkn l)).take (tkv l))), .int .i64 ((tkn l + tkv l : Nat) : Int), .int .i64 0] := by
        intro h
        unfold Tt ttl ttn
        rw [if_pos h, if_pos h, h]; rfl
      rw [hb.1] at hnl
      obtain ⟨b, off, rfl, _⟩ := hb.at (show 0 < m by omega)
      have hsub := hb.drop (tkn l)
      have hlen := hb.1
      have hm9 := hb.2.1
      generalize hlt : (l.drop (tkn l)).take (tkv l) = lt at *
      have hmid : tkv l ≤ m - tkn l → BL w (some ⟨b, off + tkn l, none⟩) (tkv l) lt := fun h => by rw [← hlt]; exact hsub.take (tkv l) h
      clear hlt hsub hu he
      generalize tkn l = x at *
      generalize tkv l = v at *
      generalize hT : Tt l k = T at *
      have htu' := Lib.hid htu
      clear htu hb hlen
      by_cases h1 : k < v
      · rw [if_pos h1] at e1
        have hfin := Lib.hid (hT.symm.trans (Tt.no e1 (by decide)))
        clear e1 e2 hT hmid
        go_enter Try.func24, Try.ntmps24
        go_wp2_with ((go_at_call 18; ((with_reducible refine (htu'.out).mono ?_); rintro e w' ⟨rfl, rfl⟩)))
        go_ret3
        exact ⟨by rw [hfin.out]; rfl, rfl⟩
      · rw [if_neg h1] at e1
        by_cases h2 : m - x < v
        · rw [if_pos h2] at e1
          have hfin := Lib.hid (hT.symm.trans (Tt.no e1 (by decide)))
          have h3 : (m : Int) - x < v := by omega
          clear e1 e2 hT hmid
          go_enter Try.func24, Try.ntmps24
          go_wp2_with ((go_at_call 18; ((with_reducible refine (htu'.out).mono ?_); rintro e w' ⟨rfl, rfl⟩)))
          go_ret3
          exact ⟨by rw [hfin.out]; rfl, rfl⟩
        · rw [if_neg h2] at e1
          have hfin := Lib.hid (e2 e1)
          have hbm := hmid (by omega)
          have h3 : (v : Int) ≤ m - x := by omega
          clear e1 e2 hT hmid
          by_cases hx : cap = x
          · obtain rfl : v = 0 := by omega
            subst hx
            have hl0 : lt = [] := List.eq_nil_of_length_eq_zero hbm.1
            subst hl0
            have ec := run_str (P := Try.prog) (w := w) 23 5 9 Try.underlying23 Try.underlying5 Try.underlying9 0 (BL.none_ w (some ⟨b, off, none⟩))
            clear hbm
            go_enter Try.func24, Try.ntmps24
            go_wp2_with ((go_at_call 18; ((with_reducible refine (htu'.out).mono ?_); rintro e w' ⟨rfl, rfl⟩)))
            go_ret3
            exact ⟨by rw [hfin.out]; rfl, rfl⟩
          · have ec := run_str (P := Try.prog) 23 5 9 Try.underlying23 Try.underlying5 Try.underlying9 (cap - x) hbm
            clear hbm
            go_enter Try.func24, Try.ntmps24
            go_wp2_with ((go_at_call 18; ((with_reducible refine (htu'.out).mono ?_); rintro e w' ⟨rfl, rfl⟩)))
            go_ret3
            exact ⟨by rw [hfin.out]; exact ret3 rfl (congrArg (Value.int .i64) (by omega)) rfl, rfl⟩
    · have htu := rtuv_any a m cap l w hb
      obtain ⟨hv, hn, he2⟩ := tk_no he
      rw [hv, hn] at htu
      rw [Tt.no (e := tke l) (by unfold tte; rw [if_neg hk, if_pos he]) he]
      have hne : ((tke l : Int) != 0) = true := by rw [bne_iff_ne]; omega
      generalize tke l = x at *
      have htu' := Lib.hid htu
      clear htu hb
      go_enter Try.func24, Try.ntmps24
      go_wp2_with ((go_at_call 18; ((with_reducible refine (htu'.out).mono ?_); rintro e w' ⟨rfl, rfl⟩)))
      go_ret3
      exact ⟨rfl, rfl⟩

/-! ### The statement NumTexts -/
theorem ttext_all (a : Option Addr) (m cap : Nat) (k : Int) (l : List Nat) (w : World) (hb : BL w a m l) (hcap : m ≤ cap) (h9 : cap ≤ 9223372036854775807) (hkm : k ≤ 9223372036854775807) :
    Calls Try.prog 23 #[.slice a m cap, .int .i64 k] w fun e w' => e = .returned (.tuple #[.string (byt.strOf (ttl l k)), .int .i64 (ttn l k), .int .i64 (tte l k)]) ∧ w = w' := ttext_any a m cap k l w hb hcap h9 hkm
theorem rttext_all (a : Option Addr) (m cap : Nat) (k : Int) (l : List Nat) (w : World) (hb : BL w a m l) (hcap : m ≤ cap) (h9 : cap ≤ 9223372036854775807) (hkm : k ≤ 9223372036854775807) :
    Calls Try.prog 24 #[.slice a m cap, .int .i64 k] w fun e w' => e = .returned (.tuple #[.string (byt.strOf (ttl l k)), .int .i64 (ttn l k), .int .i64 (tte l k)]) ∧ w = w' := rttext_any a m cap k l w hb hcap h9 hkm
set_option maxRecDepth 100000 in
theorem texts (s : ByteArray) (k : Int) (a : Option Addr) (m cap : Nat) (l : List Nat) (w : World) (hs : s.size ≤ 140737488351232) (hb : BL w a m l) (hcap : m ≤ cap) (h9 : cap ≤ 9223372036854775807) (hkm : k ≤ 9223372036854775807) :
    Calls Try.prog 5 #[.string s, .slice a m cap, .int .i64 k] w fun e w' => e = .returned (.bool true) ∧ Below w.heap.size w w' := by
  have hs' := Lib.hid hs
  have h1 := Lib.hid hcap
  have h2 := Lib.hid h9
  have h3 := Lib.hid hkm
  clear hs hcap h9 hkm
  replace hb := Lib.hid hb
  go_enter Try.func5, Try.ntmps5
  go_wp2_with ((go_at_call 21; ((with_reducible refine (text_any _ _ _ hs'.out).mono ?_); rintro e w1 ⟨A1, m1, c1, rfl, hb1, hB1⟩)))
  go_wp2_with ((go_at_call 22; ((with_reducible refine (rtext_any _ _ _ hs'.out).mono ?_); rintro e w2 ⟨A2, m2, c2, rfl, hb2, hB2⟩)))
  have hB3 := Lib.hid (trans0 hB1 hB2)
  have k1 := Lib.hid (hb1.below hB2)
  have k2 := Lib.hid hb2
  have k0 := Lib.hid (hb.out.below hB3.out)
  clear hb1 hb2 hB1 hB2 hb
  go_wp2_with ((go_at_call 23; ((with_reducible refine (ttext_all _ _ _ _ l _ k0.out h1.out h2.out h3.out).mono ?_); rintro e w' ⟨rfl, rfl⟩)))
  go_wp2_with ((go_at_call 24; ((with_reducible refine (rttext_all _ _ _ _ l _ k0.out h1.out h2.out h3.out).mono ?_); rintro e w' ⟨rfl, rfl⟩)))
  go_wp2_with ((go_at_call 15; ((with_reducible refine (awake_any _).mono ?_); rintro e w4 ⟨rfl, hB4⟩)))
  have j1 := Lib.hid (k1.out.below hB4)
  have j2 := Lib.hid (k2.out.below hB4)
  go_wp2_with ((go_at_call 16; ((with_reducible refine (same_any _ _ _ (txl s k) _ _ _ _ j1.out j2.out).mono ?_); rintro e w' ⟨rfl, rfl⟩)))
  go_ret
  exact ⟨rfl, trans0 hB3.out hB4⟩
theorem texts_row (s : ByteArray) (a1 : Option Addr) (len1 cap1 : Nat) (z1 : List Int) (a2 : Int) (w : World) (hs : s.size ≤ 140737488351232) (w1 : IsRow .u8 w a1 len1 cap1 z1) (w2 : (Lit.int .i64 a2).wf = true) :
    Calls Try.prog 5 #[.string s, .slice a1 len1 cap1, .int .i64 a2] w fun e w' => e = .returned (.bool true) ∧ Below w.heap.size w w' := by
  have := bounds_i64 w2
  exact texts s a2 a1 len1 cap1 _ w hs (row_bl w1) (row_len w1).1 (row_len w1).2 (by omega)

/-! ### The statement NumCuts -/
theorem BL.drewN {w : World} {a : Option Addr} {n : Nat} {l : List Nat} (h : BL w a n l) (k : Nat) : BL (w.drewN k) a n l := h
theorem at_mod (t : Int) (X : Nat) (h0 : 0 < X) (hX : X ≤ 140737488355328) : ∃ i : Nat, i < X ∧ wrap64 ((IntKind.u64.wrap t).tmod X) = (i : Int) := by
  have hw := IntKind.wrap_u64 t
  have h1 : 0 ≤ IntKind.u64.wrap t := by rw [hw]; omega
  generalize IntKind.u64.wrap t = u at *
  refine ⟨(u % X).toNat, ?_, ?_⟩
  · have := Int.emod_lt_of_pos u (show (0 : Int) < X by omega)
    have := Int.emod_nonneg u (show (X : Int) ≠ 0 by omega)
    omega
  · rw [Int.tmod_eq_emod_of_nonneg h1]
    have h2 := Int.emod_lt_of_pos u (show (0 : Int) < X by omega)
    have h3 := Int.emod_nonneg u (show (X : Int) ≠ 0 by omega)
    generalize u % (X : Int) = r at *
    rw [Int.toNat_of_nonneg h3]
    unfold wrap64
    omega
theorem tt_cut (s : ByteArray) (k : Nat) (hs : s.size ≤ 140737488351232) (hk : k < (tx s).length) : tte ((tx s).take k) s.size = 2 := by
  have h64 : s.size < 18446744073709551616 := by omega
  unfold tx at hk ⊢
  rw [List.length_append, sl_len] at hk
  unfold tte
  rw [if_neg (by omega)]
  by_cases h : k < (uv s.size).length
  · have h2 := tk_cut h64 h
    rw [List.take_append_of_le_length (by omega), if_pos (by rw [h2.2.2]; decide), h2.2.2]
  · have e : (uv s.size ++ sl s).take k = uv s.size ++ (sl s).take (k - (uv s.size).length) := by
      rw [List.take_append, List.take_of_length_le (by omega)]
    rw [e]
    have h2 := tk_back h64 ((sl s).take (k - (uv s.size).length))
    rw [if_neg (by rw [h2.2.2]; decide), h2.1, h2.2.1, if_neg (by omega), if_pos]
    rw [List.length_append, List.length_take, sl_len]
    omega
theorem tuv_cut (n : Nat) (a : Option Addr) (k cap : Nat) (w : World) (hn : n < 18446744073709551616) (hk : k < (uv n).length) (hb : BL w a k ((uv n).take k)) :
    Calls Try.prog 17 #[.slice a k cap] w fun e w' => e = .returned (.tuple #[.int .u64 0, .int .i64 0, .int .i64 2]) ∧ w = w' := by
  have h := tuv_any a k cap _ w hb
  have e := tk_cut hn hk
  rw [e.1, e.2.1, e.2.2] at h
  exact h
theorem ttext_cut (s : ByteArray) (a : Option Addr) (k cap : Nat) (w : World) (hs : s.size ≤ 140737488351232) (hk : k < (tx s).length) (hcap : k ≤ cap) (h9 : cap ≤ 9223372036854775807) (hb : BL w a k ((tx s).take k)) :
    Calls Try.prog 23 #[.slice a k cap, .int .i64 s.size] w fun e w' => e = .returned (.tuple #[.string ⟨#[]⟩, .int .i64 0, .int .i64 2]) ∧ w = w' := by
  have h := ttext_any a k cap s.size _ w hb hcap h9 (by omega)
  rw [Tt.no (tt_cut s k hs hk) (by decide)] at h
  exact h
set_option maxRecDepth 100000 in
theorem cuts (n : Nat) (s : ByteArray) (at_ : Int) (w : World) (hn : n < 18446744073709551616) (hs : s.size ≤ 140737488351232) :
    Calls Try.prog 8 #[.int .u64 n, .string s, .int .i64 at_] w fun e w' => e = .returned (.bool true) ∧ Below w.heap.size w w' := by
  have hs' := Lib.hid hs
  have hn' := Lib.hid hn
  clear hs hn
  go_enter Try.func8, Try.ntmps8
  go_wp2_with ((go_at_call 19; ((with_reducible refine (uvar_any _ _ hn'.out).mono ?_); rintro e w1 ⟨A1, c1, rfl, ho1, hB1⟩)))
  refine (text_ok _ _ _ (Int.le_refl _) hs'.out).mono ?_
  rintro e w2 ⟨A2, c2, rfl, ho2, hB2⟩
  obtain ⟨_, _, e0, x1, x2, _, _, hb1⟩ := ho1.form
  cases e0
  obtain ⟨_, _, e0, y1, y2, _, _, hb2⟩ := ho2.form
  cases e0
  have k1 := Lib.hid (hb1.below hB2)
  have k2 := Lib.hid hb2
  have hB3 := Lib.hid (trans0 hB1 hB2)
  clear ho1 ho2 hb1 hb2 hB1 hB2
  have hX := uv_pos n
  have hX2 := uv_len10 hn'.out
  have hY : 0 < (tx s).length := by unfold tx; rw [List.length_append]; have := uv_pos s.size; omega
  have hY2 : (tx s).length ≤ 140737488355328 := by unfold tx; rw [List.length_append, sl_len]; have := uv_len10 (show s.size < 18446744073709551616 by have := hs'.out; omega); have := hs'.out; omega
  generalize hXe : (uv n).length = X at *
  generalize hYe : (tx s).length = Y at *
  replace hXe := Lib.hid hXe
  replace hYe := Lib.hid hYe
  have tX : ((X : Int) == 0) = false := beq_eq_false_iff_ne.2 (by omega)
  have tY : ((Y : Int) == 0) = false := beq_eq_false_iff_ne.2 (by omega)
  obtain ⟨i, hiX, hi⟩ := at_mod at_ X hX (by omega)
  obtain ⟨k, hkY, hk⟩ := at_mod at_ Y hY hY2
  replace hi := Lib.hid hi
  replace hk := Lib.hid hk
  have g1 : (i : Int) ≤ c1 := by omega
  have g2 : (k : Int) ≤ c2 := by omega
  have b1 := Lib.hid (k1.out.take i (by omega))
  have b2 := Lib.hid (k2.out.take k (by omega))
  go_wp2
  go_quiet (fail)
  rw [hi.out, hk.out]
  go_wp2_with ((go_at_call 17; ((with_reducible refine (tuv_cut n _ i _ _ hn'.out (by rw [hXe.out]; exact hiX) (BL.drewN b1.out _)).mono ?_); rintro e w' ⟨rfl, rfl⟩)))
  go_wp2_with ((go_at_call 23; ((with_reducible refine (ttext_cut s _ k _ _ hs'.out (by rw [hYe.out]; exact hkY) (by omega) (by omega) (BL.drewN b2.out _)).mono ?_); rintro e w' ⟨rfl, rfl⟩)))
  go_wp2_with ((go_at_call 15; ((with_reducible refine (awake_any _).mono ?_); rintro e w4 ⟨rfl, hB4⟩)))
  have hq : Below w.heap.size w (w2.drewN nq) := hB3.out.trans ⟨rfl, rfl, rfl, Nat.le_refl _, fun _ _ => rfl⟩
  go_ret
  exact ⟨rfl, trans0 hq hB4⟩
theorem cuts_row (a0 : Int) (s : ByteArray) (a2 : Int) (w : World) (w0 : (Lit.int .u64 a0).wf = true) (hs : s.size ≤ 140737488351232) :
    Calls Try.prog 8 #[.int .u64 a0, .string s, .int .i64 a2] w fun e w' => e = .returned (.bool true) ∧ Below w.heap.size w w' := by
  obtain ⟨h0, h1⟩ := bounds_u64 w0
  obtain ⟨n, rfl⟩ := Int.eq_ofNat_of_zero_le h0
  exact cuts n s a2 w (by omega) hs
end Go.Proofs.Ytihojeffdepddaa.numE
