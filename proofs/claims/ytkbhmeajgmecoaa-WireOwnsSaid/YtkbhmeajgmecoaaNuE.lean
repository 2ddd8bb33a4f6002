/- The contracts of Text and TakeText of the program. -/
import Derived.Test.YtkbhmeajgmecoaaNuD
import Derived.Deep.QuietTactic
import Derived.BigQuiet
namespace Go.Proofs.Ytkbhmeajgmecoaa.numE
open Go.ChangeShapes Go.WideShapes Go.ChangeAt Go.RowKit
open numM numN rowA byt numA numB numC numD

/-- A string's bytes, as numbers. -/
def sl (s : ByteArray) : List Nat := s.data.toList.map UInt8.toNat
theorem sl_len (s : ByteArray) : (sl s).length = s.size := by unfold sl; rw [List.length_map, Array.length_toList]; rfl
theorem sl_lt (s : ByteArray) : ∀ c ∈ sl s, c < 256 := by
  intro c hc
  obtain ⟨b, _, rfl⟩ := List.mem_map.1 hc
  exact b.toNat_lt
theorem sl_cells (s : ByteArray) : Lib.strCells s = ub (sl s) := by
  unfold Lib.strCells ub sl
  rw [List.map_map]; rfl
theorem str_sl (s : ByteArray) : byt.strOf (sl s) = s := by
  unfold byt.strOf strOfNums sl
  have e : ((s.data.toList.map UInt8.toNat).map fun (c : Nat) => (c : Int)).map (fun n => UInt8.ofNat n.toNat) = s.data.toList := by
    rw [List.map_map, List.map_map]
    conv => rhs; rw [← List.map_id s.data.toList]
    apply List.map_congr_left
    intro b _
    simp
  rw [e]

/-- append of a string's bytes onto a row of the call's own -/
theorem wpList_apps {P : Program} {w : World} {ops : Array Oper} {rest : List Oper} {o : Oper} {a : Act} {Q : Exit → Act → World → Prop} (hgd : o.guard = none) (x y : Operand) (t u : TypeId)
    (ho : o.op = .call { callee := .builtin .append, args := #[x, y], argTypes := #[t, u] })
    (base : Nat) (i : TypeInfo) (ht : P.underlying t = some (.slice 5)) (hu : P.underlying u = some .string) (hi : P.info? 5 = some i) (hz : i.zero = some (.int .u8 0)) (h1 : i.size = 1) (h2 : i.bytes = 1)
    (v : Value) (n : Nat) (l : List Nat) (hs : a.eval x = v) (hown : Own w base v n l) (s : ByteArray) (hx : a.eval y = .string s)
    (hroom : n + s.size ≤ 140737488355328) (hbase : base ≤ w.heap.size)
    (h : ∀ v' w', Own w' base v' (n + s.size) (l ++ sl s) → w.grownBy w' v.ownBlock → wpList P ops Q rest (a.put o.dst v') w') : wpList P ops Q (o :: rest) a w := by
  refine Lib.wpList_append_own_string w hgd x y t u ho base 5 i ht hu hi hz h1 h2 v n (ub l) hs hown.2.2.2 s hx (by unfold maxLen; omega) hroom hbase ?_
  intro v' w' ho' hg _
  rw [sl_cells, ← ub_add] at ho'
  refine h v' w' ⟨by rw [List.length_append, hown.1, sl_len], fun c hc => (List.mem_append.1 hc).elim (hown.2.1 c) (sl_lt s c), by omega, ho'⟩ hg

/-! ### Text -/
theorem text_arg (s : ByteArray) (k : Int) (w : World) (h : k < 0) :
    Calls Try.prog 94 #[.string s, .int .i64 k] w fun e w' => e = .returned (.tuple #[.slice none 0 0, .int .i64 1]) ∧ w = w' := by
  go_enter Try.func94, Try.ntmps94
  go_wp2
  go_ret2
  exact ⟨rfl, rfl⟩
theorem text_long (s : ByteArray) (k : Int) (w : World) (h : 0 ≤ k) (h2 : k < s.size) :
    Calls Try.prog 94 #[.string s, .int .i64 k] w fun e w' => e = .returned (.tuple #[.slice none 0 0, .int .i64 6]) ∧ w = w' := by
  go_enter Try.func94, Try.ntmps94
  go_wp2
  go_ret2
  exact ⟨rfl, rfl⟩
/-- the bytes of a text -/
def tx (s : ByteArray) : List Nat := uv s.size ++ sl s
set_option maxRecDepth 100000 in
theorem text_ok (s : ByteArray) (k : Int) (w : World) (h2 : (s.size : Int) ≤ k) (hs : s.size ≤ 140737488351232) :
    Calls Try.prog 94 #[.string s, .int .i64 k] w (Makes2 w (tx s)) := by
  obtain ⟨i0, hi, hz0, hz1, hz2⟩ := info_parts bytes8
  have hlen := uv_len10 (show s.size < 18446744073709551616 by omega)
  have hk0 : 0 ≤ k := by omega
  go_enter Try.func94, Try.ntmps94
  go_wp2_with (fail)
  refine (uvar_any s.size _ (by omega)).mono ?_
  rintro e w1 ⟨A, cap, rfl, hown, hB⟩
  replace hown := Lib.hid hown
  have hsz := Lib.hid hB.size
  go_wp2_with (at_builtin; (refine wpList_apps rfl _ _ 31 9 rfl w.heap.size i0 Try.underlying31 Try.underlying9 hi hz0 hz1 hz2 _ _ (uv s.size) rfl hown.out s rfl ?c1 ?c2 ?_))
  case c1 => omega
  case c2 => exact hsz.out
  intro v' w2 hown2 hgrow
  replace hown2 := Lib.hid hown2
  have hBn := Lib.hid (hown.out.grown hB hgrow hsz.out)
  clear hgrow hB
  go_wp2
  go_ret2
  exact Makes2.of (by unfold tx; rw [List.length_append, sl_len]) hown2.out hBn.out
def txl (s : ByteArray) (k : Int) : List Nat := if k < 0 then [] else if k < s.size then [] else tx s
def txe (s : ByteArray) (k : Int) : Nat := if k < 0 then 1 else if k < s.size then 6 else 0
theorem text_any (s : ByteArray) (k : Int) (w : World) (hs : s.size ≤ 140737488351232) :
    Calls Try.prog 94 #[.string s, .int .i64 k] w (Gives w (txl s k) (txe s k)) := by
  unfold txl txe
  by_cases h : k < 0
  · rw [if_pos h, if_pos h]
    refine (text_arg s k w h).mono ?_
    rintro e w' ⟨rfl, rfl⟩
    exact gives_none w 1
  · rw [if_neg h, if_neg h]
    by_cases h2 : k < s.size
    · rw [if_pos h2, if_pos h2]
      refine (text_long s k w (by omega) h2).mono ?_
      rintro e w' ⟨rfl, rfl⟩
      exact gives_none w 6
    · rw [if_neg h2, if_neg h2]
      exact (text_ok s k w (by omega) hs).mono fun e w' hm => gives_made hm
/-! ### TakeText -/
def tte (l : List Nat) (k : Int) : Nat := if k < 0 then 1 else if tke l ≠ 0 then tke l else if k < tkv l then 6 else if l.length - tkn l < tkv l then 2 else 0
def ttl (l : List Nat) (k : Int) : List Nat := if tte l k = 0 then (l.drop (tkn l)).take (tkv l) else []
def ttn (l : List Nat) (k : Int) : Nat := if tte l k = 0 then tkn l + tkv l else 0
theorem tt_no {l : List Nat} {k : Int} {e : Nat} (h : tte l k = e) (he : e ≠ 0) : ttl l k = [] ∧ ttn l k = 0 := by
  unfold ttl ttn
  rw [if_neg (by omega), if_neg (by omega)]
  exact ⟨rfl, rfl⟩
/-- What TakeText answers. -/
def Tt (l : List Nat) (k : Int) : Value := .tuple #[.string (byt.strOf (ttl l k)), .int .i64 (ttn l k), .int .i64 (tte l k)]
theorem Tt.no {l : List Nat} {k : Int} {e : Nat} (h : tte l k = e) (he : e ≠ 0) : Tt l k = .tuple #[.string ⟨#[]⟩, .int .i64 0, .int .i64 e] := by
  have h2 := tt_no h he
  unfold Tt
  rw [h2.1, h2.2, h]; rfl

set_option maxRecDepth 100000 in
theorem ttext_any (a : Option Addr) (m cap : Nat) (k : Int) (l : List Nat) (w : World) (hb : BL w a m l) (hcap : m ≤ cap) (h9 : cap ≤ 9223372036854775807) (hkm : k ≤ 9223372036854775807) :
    Calls Try.prog 96 #[.slice a m cap, .int .i64 k] w fun e w' => e = .returned (Tt l k) ∧ w = w' := by
  by_cases hk : k < 0
  · rw [Tt.no (e := 1) (by unfold tte; rw [if_pos hk]) (by decide)]
    clear hb
    go_enter Try.func96, Try.ntmps96
    go_wp2
    go_ret3
    exact ⟨rfl, rfl⟩
  · by_cases he : tke l = 0
    · obtain ⟨hv, hn0, hnl, hu⟩ := tk_yes hb.lt he
      have htu := tuv_any a m cap l w hb
      rw [he] at htu
      obtain ⟨k, rfl⟩ := Int.eq_ofNat_of_zero_le (show 0 ≤ k by omega)
      have e1 : tte l k = if k < tkv l then 6 else if m - tkn l < tkv l then 2 else 0 := by
        unfold tte
        rw [if_neg hk, if_neg (by omega), hb.1]
        by_cases h : k < tkv l
        · rw [if_pos h, if_pos (by omega)]
        · rw [if_neg h, if_neg (by omega)]
      have e2 : tte l k = 0 → Tt l k = .tuple #[.string (byt.strOf ((l.drop (tkn l)).take (tkv l))), .int .i64 ((tkn l + tkv l : Nat) : Int), .int .i64 0] := by
        intro h
        unfold Tt ttl ttn
        rw [if_pos h, if_pos h, h]; rfl
      rw [hb.1] at hnl
      obtain ⟨b, off, rfl, _⟩ := hb.at (show 0 < m by omega)
      have hsub := hb.drop (tkn l)
      have hlen := hb.1
      have hm9 := hb.2.1
      generalize hlt : (l.drop (tkn l)).take (tkv l) = lt at *
      have hmid : tkv l ≤ m - tkn l → BL w (some ⟨b, off + tkn l, none⟩) (tkv l) lt := fun h => by rw [← hlt]; exact hsub.take (tkv l) h
      clear hlt hsub hu he
      generalize tkn l = x at *
      generalize tkv l = v at *
      generalize hT : Tt l k = T at *
      have htu' := Lib.hid htu
      clear htu hb hlen
      by_cases h1 : k < v
      · rw [if_pos h1] at e1
        have hfin := Lib.hid (hT.symm.trans (Tt.no e1 (by decide)))
        clear e1 e2 hT hmid
        go_enter Try.func96, Try.ntmps96
        go_wp2_with ((go_at_call 95; ((with_reducible refine (htu'.out).mono ?_); rintro e w' ⟨rfl, rfl⟩)))
        go_ret3
        exact ⟨by rw [hfin.out]; rfl, rfl⟩
      · rw [if_neg h1] at e1
        by_cases h2 : m - x < v
        · rw [if_pos h2] at e1
          have hfin := Lib.hid (hT.symm.trans (Tt.no e1 (by decide)))
          have h3 : (m : Int) - x < v := by omega
          clear e1 e2 hT hmid
          go_enter Try.func96, Try.ntmps96
          go_wp2_with ((go_at_call 95; ((with_reducible refine (htu'.out).mono ?_); rintro e w' ⟨rfl, rfl⟩)))
          go_ret3
          exact ⟨by rw [hfin.out]; rfl, rfl⟩
        · rw [if_neg h2] at e1
          have hfin := Lib.hid (e2 e1)
          have hbm := hmid (by omega)
          have h3 : (v : Int) ≤ m - x := by omega
          clear e1 e2 hT hmid
          by_cases hx : cap = x
          · obtain rfl : v = 0 := by omega
            subst hx
            have hl0 : lt = [] := List.eq_nil_of_length_eq_zero hbm.1
            subst hl0
            have ec := run_str (P := Try.prog) (w := w) 31 5 9 Try.underlying31 Try.underlying5 Try.underlying9 0 (BL.none_ w (some ⟨b, off, none⟩))
            clear hbm
            go_enter Try.func96, Try.ntmps96
            go_wp2_with ((go_at_call 95; ((with_reducible refine (htu'.out).mono ?_); rintro e w' ⟨rfl, rfl⟩)))
            go_ret3
            exact ⟨by rw [hfin.out]; rfl, rfl⟩
          · have ec := run_str (P := Try.prog) 31 5 9 Try.underlying31 Try.underlying5 Try.underlying9 (cap - x) hbm
            clear hbm
            go_enter Try.func96, Try.ntmps96
            go_wp2_with ((go_at_call 95; ((with_reducible refine (htu'.out).mono ?_); rintro e w' ⟨rfl, rfl⟩)))
            go_ret3
            exact ⟨by rw [hfin.out]; exact ret3 rfl (congrArg (Value.int .i64) (by omega)) rfl, rfl⟩
    · have htu := tuv_any a m cap l w hb
      obtain ⟨hv, hn, he2⟩ := tk_no he
      rw [hv, hn] at htu
      rw [Tt.no (e := tke l) (by unfold tte; rw [if_neg hk, if_pos he]) he]
      have hne : ((tke l : Int) != 0) = true := by rw [bne_iff_ne]; omega
      generalize tke l = x at *
      have htu' := Lib.hid htu
      clear htu hb
      go_enter Try.func96, Try.ntmps96
      go_wp2_with ((go_at_call 95; ((with_reducible refine (htu'.out).mono ?_); rintro e w' ⟨rfl, rfl⟩)))
      go_ret3
      exact ⟨rfl, rfl⟩
end Go.Proofs.Ytkbhmeajgmecoaa.numE
