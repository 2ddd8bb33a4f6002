/- CoordStamps, plainly; the law's own map of votes; what holds between the steps of its range. -/
import Derived.Test.YtafocefbpkcoaaaCoA
import Derived.Test.YtafocefbpkcoaaaCoJ
set_option linter.unusedVariables false
set_option linter.unusedSimpArgs false
set_option maxRecDepth 100000
namespace Go.Proofs.Ytafocefbpkcoaaa.coSt
open Go.ChangeShapes Go.WideShapes Go.ChangeAt Go.RowKit Go.Deep
open opG opV chnM gen chnA chnR chnE ordA ordC coG coO coM coP coL coN coB coK coV coE coF coW coT coA coJ

/-! ### Plainly -/
def vp (vt : List Vt) : PL := vt.map fun v => (v.node, .int .u64 v.t)
theorem fnp_vp (vt : List Vt) (k : Int) : fnp (vp vt) k = (fnV vt k).map fun v => .int .u64 v.t := by
  induction vt with
  | nil => rfl
  | cons v l ih =>
    show (if v.node = k then some _ else fnp (vp l) k) = (if v.node = k then some v else fnV l k).map _
    by_cases e : v.node = k
    · rw [if_pos e, if_pos e]; rfl
    · rw [if_neg e, if_neg e]; exact ih
theorem vp_len (vt : List Vt) : (vp vt).length = vt.length := by simp [vp]
theorem vp_mrk (vt : List Vt) (n : Int) : vp (mrk vt n) = vp vt := by
  unfold vp mrk
  rw [List.map_map]
  refine List.map_congr_left fun v _ => ?_
  simp only [Function.comp]
  split <;> rfl
theorem vp_app (vt : List Vt) (n t : Int) (h : hasV vt n = false) : pup (vp vt) n (.int .u64 t) = vp (vt ++ [⟨n, t, false⟩]) := by
  have h0 : fnp (vp vt) n = none := by
    rw [fnp_vp]
    unfold hasV at h
    cases hf : fnV vt n with
    | none => rfl
    | some v => rw [hf] at h; cases h
  unfold pup
  rw [rm_none h0]
  simp [vp]
/-- what holds of the table, of the map of votes, and of both flags -/
structure SI (low : Int) (n : Nat) (os : Ens) (pl : PL) (d g : Bool) : Prop where
  ok : ok os
  sz : pl.length ≤ 6
  gone : g = true → os = []
  here : g = false → ∃ x, os = [x] ∧ x.tx = 9 ∧ x.low = low ∧ x.sh.length = n ∧ pl = vp x.vt ∧ d = dec x
section
variable {low : Int} {n : Nat} {os : Ens} {pl : PL} {d g : Bool} {x : En} {m t : Int}
theorem fnE_one (h : x.tx = 9) : fnE [x] 9 = some x := if_pos h
theorem upd_one (h : x.tx = 9) (y : En) : upd [x] 9 y = [y] := by unfold upd; simp [h]
theorem rmE_one (h : x.tx = 9) : rmE [x] 9 = [] := by unfold rmE; simp [h]
theorem pigeon : ∀ {l m : List Int}, l.Nodup → (∀ a ∈ l, a ∈ m) → l.length ≤ m.length
  | [], m, _, _ => Nat.zero_le _
  | a :: l, m, hd, h => by
    obtain ⟨h1, h2⟩ := List.nodup_cons.1 hd
    have ha := h a (List.mem_cons_self ..)
    have h3 := pigeon (m := m.erase a) h2 fun b hb => (List.mem_erase_of_ne (fun e => h1 (by rw [← e]; exact hb))).2 (h b (List.mem_cons_of_mem _ hb))
    rw [List.length_erase_of_mem ha] at h3
    have := List.length_pos_of_mem ha
    simp only [List.length_cons]
    omega
theorem vt_le (h : okX x) : x.vt.length ≤ x.sh.length := by
  have h1 : (x.vt.map (·.node)).length ≤ (nds x.sh).length := pigeon h.vd fun a ha => by
    obtain ⟨v, hv, rfl⟩ := List.mem_map.1 ha
    exact inS_iff.1 (h.vi v hv)
  simpa [nds] using h1
theorem top_is {vt : List Vt} {B : Int} (h0 : 0 ≤ B) (h1 : B ≤ top vt) (h : ∀ v ∈ vt, v.t ≤ B) : B = top vt := by
  have := top_le h0 h
  omega
/-- a vote that is taken -/
theorem si_vote (h : SI low n os pl d g) (hm : 0 ≤ t) (h1 : t < 18446744073709551616) (he : voE os 9 m t = 0) :
    fnp pl m = none ∧ g = false ∧ low < t ∧ d = false ∧ SI low n (voS os 9 m t) (pup pl m (.int .u64 t)) (voB os 9 m t) g ∧
    (voB os 9 m t = false → voT os 9 m t = 0 ∧ ¬ (pup pl m (.int .u64 t)).length = n) ∧
    (voB os 9 m t = true → (pup pl m (.int .u64 t)).length = n ∧ low < voT os 9 m t ∧ (∀ s : Int, 0 ≤ s → s ≤ voT os 9 m t → (∀ k z, fnp (pup pl m (.int .u64 t)) k = some (.int .u64 z) → z ≤ s) → s = voT os 9 m t) ∧
      0 ≤ voT os 9 m t ∧ ∀ k v, fnp (pup pl m (.int .u64 t)) k = some v → ∃ z, v = .int .u64 z ∧ 0 ≤ z ∧ z < 18446744073709551616 ∧ z ≤ voT os 9 m t) := by
  cases g with
  | true =>
    have := h.gone rfl
    subst this
    cases he
  | false =>
    obtain ⟨x, rfl, e9, el, en, rfl, rfl⟩ := h.here rfl
    have hf := fnE_one e9
    have hx := h.ok.ea x (List.mem_singleton.2 rfl)
    have he' := he
    unfold voE at he'
    rw [hf] at he'
    simp only at he'
    split at he'
    · cases he'
    · rename_i hi
      split at he'
      · cases he'
      · rename_i hv
        split at he'
        · cases he'
        · rename_i hl
          have hi' : inS x.sh m = true := by simpa using hi
          have hv' : hasV x.vt m = false := by simpa using hv
          have hl' : x.low < t := by omega
          have hX := okx_vote hx hi' hv' hl' h1
          have hle := vt_le hX
          have hlen : (voX x m t).vt.length = x.vt.length + 1 := by simp [voX]
          have hsh : (voX x m t).sh = x.sh := rfl
          have hvt : (voX x m t).vt = x.vt ++ [⟨m, t, false⟩] := rfl
          have hd : dec x = false := decide_eq_false (by rw [hlen, hsh] at hle; omega)
          have hS : voS [x] 9 m t = [voX x m t] := by
            unfold voS
            rw [hf]
            simp only
            rw [if_pos he]
            exact upd_one e9 _
          have hB : voB [x] 9 m t = dec (voX x m t) := by
            unfold voB
            rw [hf]
            simp only
            rw [decide_eq_true he, Bool.true_and]
          have hT : voT [x] 9 m t = if dec (voX x m t) = true then top (voX x m t).vt else 0 := by
            unfold voT
            rw [hf]
            simp only
            rw [hB]
          have hP := vp_app x.vt m t hv'
          rw [hP, hS, hB, hT, ← hvt]
          have hok := ok_vote (tx := 9) h.ok m h1
          rw [hS] at hok
          have hsz6 := hX.sz
          refine ⟨?_, rfl, by omega, hd, ⟨hok, by rw [vp_len]; omega, (fun e => by cases e), fun _ => ⟨_, rfl, e9, el, en, rfl, rfl⟩⟩, fun e => ?_, fun e => ?_⟩
          · rw [fnp_vp]
            unfold hasV at hv'
            cases hq : fnV x.vt m with
            | none => rfl
            | some v => rw [hq] at hv'; cases hv'
          · rw [if_neg (by rw [e]; simp)]
            refine ⟨rfl, fun e2 => ?_⟩
            rw [vp_len] at e2
            have := of_decide_eq_false (show decide ((voX x m t).vt.length = (voX x m t).sh.length) = false from e)
            rw [hsh] at this
            omega
          · rw [if_pos e]
            have e2 : (voX x m t).vt.length = (voX x m t).sh.length := of_decide_eq_true e
            have htm : t ≤ top (voX x m t).vt := top_mem_le (v := ⟨m, t, false⟩) (by rw [hvt]; simp)
            refine ⟨by rw [vp_len, e2, hsh]; exact en, by omega, fun s s0 s1 hs => top_is s0 s1 fun v hv => ?_, top_0 _, fun k v hk => ?_⟩
            · refine hs v.node v.t ?_
              have hdf : Dfp (vp (voX x m t).vt) := by
                unfold Dfp vp
                rw [List.map_map]
                exact hX.vd
              exact fnp_of_mem hdf (x := (v.node, .int .u64 v.t)) (List.mem_map.2 ⟨v, hv, rfl⟩)
            · obtain ⟨u, hu, e3⟩ := List.mem_map.1 (fnp_mem hk)
              cases e3
              have h3 := hX.vl u hu
              have h4 : x.low = (voX x m t).low := rfl
              have := hX.l0
              exact ⟨_, rfl, by omega, hX.vm u hu, top_mem_le hu⟩
/-- a vote that is not taken -/
theorem si_not (h : SI low n os pl d g) (he : ¬ voE os 9 m t = 0) : voS os 9 m t = os ∧ voB os 9 m t = false ∧ voT os 9 m t = 0 := by
  unfold voS voT voB
  cases hf : fnE os 9 with
  | none => exact ⟨rfl, rfl, rfl⟩
  | some x =>
    simp only
    rw [if_neg he, decide_eq_false he]
    exact ⟨rfl, rfl, rfl⟩
/-- an end -/
theorem si_end (h : SI low n os pl d g) : SI low n (enS os 9 m) pl d (g || enB os 9 m) ∧ (enE os 9 m = 0 → d = true) ∧ (enB os 9 m = true → g = false ∧ (enS os 9 m).length = 0 ∧ enE os 9 m = 0) := by
  cases g with
  | true =>
    have := h.gone rfl
    subst this
    exact ⟨h, fun e => (by cases e), fun e => by cases e⟩
  | false =>
    obtain ⟨x, rfl, e9, el, en, rfl, rfl⟩ := h.here rfl
    have hf := fnE_one e9
    have hE : enE [x] 9 m = 0 → dec x = true := fun e => by
      unfold enE at e
      rw [hf] at e
      simp only at e
      split at e
      · cases e
      · split at e
        · cases e
        · rename_i hd; simpa using hd
    have hok := ok_end h.ok 9 m
    by_cases he : enE [x] 9 m = 0
    · have hB : enB [x] 9 m = alle (enX x m) := by
        unfold enB
        rw [hf]
        simp only
        rw [decide_eq_true he, Bool.true_and]
      have hS : enS [x] 9 m = if alle (enX x m) = true then [] else [enX x m] := by
        unfold enS
        rw [hf]
        simp only
        rw [if_pos he, rmE_one e9, upd_one e9]
      rw [hB]
      rw [hS] at hok ⊢
      cases ha : alle (enX x m) with
      | true =>
        rw [ha] at hok
        exact ⟨⟨hok, h.sz, fun _ => rfl, fun e => by cases e⟩, fun _ => hE he, fun _ => ⟨rfl, rfl, he⟩⟩
      | false =>
        rw [ha] at hok
        refine ⟨⟨hok, h.sz, (fun e => by cases e), fun _ => ⟨enX x m, rfl, e9, el, en, (vp_mrk x.vt m).symm, ?_⟩⟩, fun _ => hE he, fun e => by cases e⟩
        show decide (x.vt.length = x.sh.length) = decide ((mrk x.vt m).length = x.sh.length)
        rw [mark_len]
    · have hB : enB [x] 9 m = false := by
        unfold enB
        rw [hf]
        simp only
        rw [decide_eq_false he, Bool.false_and]
      have hS : enS [x] 9 m = [x] := by
        unfold enS
        rw [hf]
        simp only
        rw [if_neg he]
      rw [hB, hS]
      exact ⟨h, hE, fun e => by cases e⟩
theorem si_start {sh : List Sh} (l0 : 0 ≤ low) (hs : sh.length ≤ 6) (hv : ∀ s ∈ sh, s.vs.length ≤ 8) (he : stE [] 9 sh = 0) : SI low sh.length (stS [] 9 low sh) [] false false := by
  have hok := ok_start (tx := 9) (low := low) ok_nil (by decide) (by decide) l0 hs hv
  have e0 : sh ≠ [] := fun e => by subst e; cases he
  have hS : stS [] 9 low sh = [⟨9, low, sh, []⟩] := by unfold stS; rw [if_pos he]; rfl
  rw [hS] at hok ⊢
  refine ⟨hok, by simp, (fun e => by cases e), fun _ => ⟨_, rfl, rfl, rfl, rfl, rfl, ?_⟩⟩
  exact (decide_eq_false fun e => e0 (List.eq_nil_of_length_eq_zero e.symm)).symm
theorem si_done (h : SI low n os pl d g) : ((os.length : Int) == 0) = g := by
  cases g with
  | true => rw [h.gone rfl]; rfl
  | false => obtain ⟨x, rfl, _⟩ := h.here rfl; rfl
end
/-! ### The law's map -/
def XM (mb : Nat) (pl : PL) : Wh := fun col V => ∃ D, V.ownsMap Try.prog 3 hV mb pl.length D ∧ CR .i64 pl D ∧ col mb = 3
theorem st_XM {d mb : Nat} {pl : PL} (hd : d ≠ 3) : St d (XM mb pl) := fun _ _ _ _ hg he ⟨D, h, hc, h3⟩ =>
  ⟨D, map_block h (hg.block mb h.lt (by rw [h3]; exact fun e => hd e.symm)), hc, (he mb h.lt).trans h3⟩
def colR (col : Nat → Nat) (a d : Nat) (k : Nat) : Nat := if k = a then d else col k
theorem zU (w : World) : (zeroValue 29).run Try.prog w = .ok (.int .u64 0) w := Try.zeroValue29 w
abbrev TV : TypeId := 52
section
variable {w V V' : World} {X Y : Wh} {mb : Nat} {pl : PL}
theorem j_map (h : J w X V) (hX : St 9 X) : J w (X2 X (XM V.heap.size [])) (V.alloc (.map #[] 0)) := by
  obtain ⟨col, h1, h2⟩ := h
  have hB := al0 V (.map #[] 0)
  have hE : Ext V col (colR col V.heap.size 3) := fun k hk => if_neg (by omega)
  have hC : Cn 9 col V (colR col V.heap.size 3) (V.alloc (.map #[] 0)) := ⟨hE, fun k hk => by
    have : (V.alloc (.map #[] 0)).heap.size = V.heap.size + 1 := by simp
    rw [this] at hk
    unfold colR
    rw [if_neg (by omega)]
    exact h1.fr k (by omega), Chg.of_below _ _ hB⟩
  exact ⟨_, h1.go hC (by decide), hX _ _ _ _ hC.2.2 hE h2, .map [], World.ownsMap_made V _ _ _, cr_nil _, if_pos rfl⟩
theorem jm_map (h : J w (X2 X (X2 (XM mb pl) Y)) V) : ∃ D, V.ownsMap Try.prog 3 hV mb pl.length D ∧ CR .i64 pl D := by
  obtain ⟨col, _, _, ⟨D, h1, h2, _⟩, _⟩ := h
  exact ⟨D, h1, h2⟩
theorem jm_store (h : J w (X2 X (X2 (XM mb pl) Y)) V) (hX : St 3 X) (hY : St 3 Y) (hs : pl.length ≤ 6) {n : Int} (n0 : -9223372036854775808 ≤ n) (n1 : n ≤ 9223372036854775807) (v : Value) :
    ∃ V', (Instr.mapUpdate TV (.map (some mb)) (.int .i64 n) v).run Try.prog V = .ok () V' ∧ J w (X2 X (X2 (XM mb (pup pl n v)) Y)) V' := by
  obtain ⟨col, hl, hx, ⟨D, hm, hc, h3⟩, hy⟩ := h
  obtain ⟨V', D', h1, h2, h4, h5⟩ := cr_store (tm := TV) hc hm Try.underlying3 Try.underlying52 (by unfold maxLen; omega) (wf_i n0 n1) v
  have hg : Chg col 3 V V' := Chg.grown h5.grown fun k e => by cases e; exact h3
  have hC : Cn 3 col V col V' := ⟨Ext.refl _ _, hl.fr.up hg.size, hg⟩
  exact ⟨V', h1, col, hl.go hC (by decide), hX _ _ _ _ hg (Ext.refl _ _) hx, ⟨D', h2, h4, h3⟩, hY _ _ _ _ hg (Ext.refl _ _) hy⟩
theorem jm_look (h : J w (X2 X (X2 (XM mb pl) Y)) V) {n : Int} (n0 : -9223372036854775808 ≤ n) (n1 : n ≤ 9223372036854775807) :
    (Instr.lookup TV (.map (some mb)) (.int .i64 n) true).run Try.prog V = .ok (.tuple #[(fnp pl n).getD (.int .u64 0), .bool (fnp pl n).isSome]) V := by
  obtain ⟨D, h1, h2⟩ := jm_map h
  exact cr_look (tm := TV) h2 h1 Try.underlying3 Try.underlying52 (zU V) (wf_i n0 n1)
theorem jm_len (h : J w (X2 X (X2 (XM mb pl) Y)) V) (ty : TypeId) : (Builtin.len_ #[TV] ty #[.map (some mb)]).run Try.prog V = .ok (.int .i64 (pl.length : Int)) V := by
  obtain ⟨D, h1, h2⟩ := jm_map h
  exact cr_len (tm := TV) h2 h1 Try.underlying52 ty
/-- between the steps of the range -/
structure GS (W1 : World) (mb r : Nat) (pl : PL) (D : DM) (left : Lit → Bool) (cnt : Nat) (s : Int) (wr : World) : Prop where
  bel : Below W1.heap.size W1 wr
  rg : wr.ranges Try.prog 3 hV mb r pl.length D left cnt
  cr : CR .i64 pl D
  sn : Seen .i64 pl (fun _ v => ∀ z, v = .int .u64 z → z ≤ s) left
  s0 : 0 ≤ s
  hr : W1.heap.size ≤ r
theorem GS.start {W1 w0 : World} {D : DM} (hc : CR .i64 pl D) (hrg : w0.ranges Try.prog 3 hV mb W1.heap.size pl.length D (Maps.has D) (Maps.size D)) (hg : W1.grownBy w0 none) :
    GS W1 mb W1.heap.size pl D (Maps.has D) (Maps.size D) 0 w0 :=
  ⟨⟨hg.os, hg.tape, hg.output, hg.size, fun k hk => hg.block k hk (by simp)⟩, hrg, hc, seen_start hc _, by omega, Nat.le_refl _⟩
theorem GS.step {W1 wr w1 : World} {r : Nat} {D : DM} {left : Lit → Bool} {cnt cnt1 : Nat} {s x z : Int} (h : GS W1 mb r pl D left cnt s wr) (hg : wr.grownBy w1 (some r)) (hrg : w1.ranges Try.prog 3 hV mb r pl.length D (fun z => left z && !z.sameKey (.int .i64 x)) cnt1) (hf : fnp pl x = some (.int .u64 z)) :
    GS W1 mb r pl D (fun z => left z && !z.sameKey (.int .i64 x)) cnt1 (max s z) w1 where
  bel := ⟨hg.os.trans h.bel.os, hg.tape.trans h.bel.tape, hg.output.trans h.bel.output, Nat.le_trans h.bel.size hg.size, fun k hk => (hg.block k (Nat.lt_of_lt_of_le hk h.bel.size) (by
    rintro e
    cases e
    have := h.hr
    omega)).trans (h.bel.block k hk)⟩
  rg := hrg
  cr := h.cr
  sn := Seen.step (show Seen .i64 pl (fun _ v => ∀ y, v = .int .u64 y → y ≤ max s z) left from fun k v hk hl y e => by have := h.sn k v hk hl y e; omega) fun v hv y e => by
    rw [hf] at hv
    cases hv
    cases e
    omega
  s0 := by have := h.s0; omega
  hr := h.hr
end
end Go.Proofs.Ytafocefbpkcoaaa.coSt
