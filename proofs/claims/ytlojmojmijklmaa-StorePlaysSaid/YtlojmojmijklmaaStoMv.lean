/- StoreMoves. -/
import Derived.Test.YtlojmojmijklmaaStoY
import Derived.Test.YtlojmojmijklmaaStoTw
import Derived.Test.YtlojmojmijklmaaStoD
import Derived.Test.YtlojmojmijklmaaStoT
set_option linter.unusedVariables false
set_option maxRecDepth 100000
namespace Go.Proofs.Ytlojmojmijklmaa.stoMv
open Go.ChangeShapes Go.WideShapes Go.ChangeAt Go.RowKit Go.Deep
open opV chnM gen chnA chnB chnR chnE chnF chnJ chnT stoM stoA stoL stoB stoC stoP stoPr stoG stoW stoJ stoLo stoU stoX stoY stoTw stoD stoT

theorem bchg {B0 : Nat} {K : Nat → Prop} {w wi wj : World} (h : Below B0 w wi) (hB0 : B0 ≤ wi.heap.size) (hC : Chg K wi wj) (hK : ∀ k, k < B0 → ¬ K k) : Below B0 w wj := h.trans (hC.below hB0 hK)
/-- a store beside another one that is made behind it -/
theorem widen2 {B B' : Nat → Prop} {w w2 : World} {S b : Nat} {s : St} (h : SAt B w S b s) (hB : Below w.heap.size w w2) (hk : ∀ k, k < w.heap.size → B' k → B k) (hS : B' S) (hb : B' b) (hd : ∀ k, B' k → k < w2.heap.size) : SAt B' w2 S b s := by
  obtain ⟨D, hI⟩ := h
  have hI0 := hI.below hB
  exact ⟨D, { row := hI0.row, map := hI0.map, inv := hI0.inv, ln := hI0.ln, bS := hS, bb := hb, bd := hd
              ear := ⟨hI.ear.1, fun c hc => by
                obtain ⟨v, h1, h2⟩ := hI.ear.2 c hc
                exact ⟨v, h1, (h2.wide hk).go (Chg.of_below (fun _ => False) hB) (fun _ e => e.elim)⟩⟩ }⟩
/-- the stores' blocks -/
def own4 (S1 b1 S2 b2 : Nat) (k : Nat) : Prop := own2 S1 b1 k ∨ own2 S2 b2 k
theorem own4_lt {w : World} {S1 b1 S2 b2 : Nat} (h1 : w.heap.size ≤ S1) (h2 : w.heap.size ≤ b1) (h3 : w.heap.size ≤ S2) (h4 : w.heap.size ≤ b2) : ∀ k, k < w.heap.size → ¬ own4 S1 b1 S2 b2 k := by
  rintro k hk ((rfl | rfl) | (rfl | rfl)) <;> omega
/-- what the law has in hand between two calls -/
structure Two (w : World) (S1 b1 S2 b2 : Nat) (sa sb : St) (wi : World) : Prop where
  a : SAt (own4 S1 b1 S2 b2) wi S1 b1 sa
  b : SAt (own4 S1 b1 S2 b2) wi S2 b2 sb
  bel : Below w.heap.size w wi
  h1 : w.heap.size ≤ S1
  h2 : w.heap.size ≤ b1
  h3 : w.heap.size ≤ S2
  h4 : w.heap.size ≤ b2
  n1 : S1 < S2 ∧ S1 < b2 ∧ b1 < S2 ∧ b1 < b2
section
variable {w wi wj : World} {S1 b1 S2 b2 : Nat} {sa sb sa' sb' : St}
theorem Two.below (h : Two w S1 b1 S2 b2 sa sb wi) (hB : Below wi.heap.size wi wj) : Two w S1 b1 S2 b2 sa sb wj := { h with a := h.a.below hB, b := h.b.below hB, bel := h.bel.trans (hB.mono h.bel.size) }
theorem Two.ca (h : Two w S1 b1 S2 b2 sa sb wi) (hC : Chg (own2 S1 b1) wi wj) (ha : SAt (own4 S1 b1 S2 b2) wj S1 b1 sa') : Two w S1 b1 S2 b2 sa' sb wj := by
  have hn := h.n1
  refine { h with a := ha, b := h.b.go hC (fun k e => .inl e) ?_ ?_, bel := bchg h.bel h.bel.size hC fun k hk e => own4_lt h.h1 h.h2 h.h3 h.h4 k hk (.inl e) } <;> rintro (e | e) <;> omega
theorem Two.cb (h : Two w S1 b1 S2 b2 sa sb wi) (hC : Chg (own2 S2 b2) wi wj) (hb : SAt (own4 S1 b1 S2 b2) wj S2 b2 sb') : Two w S1 b1 S2 b2 sa sb' wj := by
  have hn := h.n1
  refine { h with b := hb, a := h.a.go hC (fun k e => .inr e) ?_ ?_, bel := bchg h.bel h.bel.size hC fun k hk e => own4_lt h.h1 h.h2 h.h3 h.h4 k hk (.inr e) } <;> rintro (e | e) <;> omega
end
theorem two_new {w w1 w2 : World} {S1 b1 S2 b2 : Nat} (hB1 : Below w.heap.size w w1) (hS1 : w.heap.size ≤ S1) (hS1' : S1 < w1.heap.size) (hb1 : w.heap.size ≤ b1) (hb1' : b1 < w1.heap.size) (hm1 : ∀ B : Nat → Prop, B S1 → B b1 → (∀ k, B k → k < w1.heap.size) → SAt B w1 S1 b1 St.new)
    (hB2 : Below w1.heap.size w1 w2) (hS2 : w1.heap.size ≤ S2) (hS2' : S2 < w2.heap.size) (hb2 : w1.heap.size ≤ b2) (hb2' : b2 < w2.heap.size) (hm2 : ∀ B : Nat → Prop, B S2 → B b2 → (∀ k, B k → k < w2.heap.size) → SAt B w2 S2 b2 St.new) : Two w S1 b1 S2 b2 St.new St.new w2 := by
  have hs1 := hB1.size
  have hs2 := hB2.size
  have hd : ∀ k, own4 S1 b1 S2 b2 k → k < w2.heap.size := by rintro k ((rfl | rfl) | (rfl | rfl)) <;> omega
  refine ⟨widen2 (hm1 (own2 S1 b1) (.inl rfl) (.inr rfl) (by rintro k (rfl | rfl) <;> assumption)) hB2 (fun k hk e => ?_) (.inl (.inl rfl)) (.inl (.inr rfl)) hd, hm2 _ (.inr (.inl rfl)) (.inr (.inr rfl)) hd, trans0 hB1 hB2, hS1, hb1, by omega, by omega, by omega⟩
  rcases e with e | (rfl | rfl)
  · exact e
  · omega
  · omega
theorem not_own {w : World} {S b : Nat} {base : Nat} {A : Option Addr} {c : Nat} {l : List Ver} (h : GV w base A c l) (hS : S < base) (hb : b < base) : l = [] ∨ ∀ y, A = some y → ¬ own2 S b y.block := by
  refine .inr fun y e k => ?_
  rcases h.2 with ⟨e1, h2⟩ | ⟨g, cap, cur, e1, h2, _⟩
  · simp only [Value.slice.injEq] at e1; rw [e] at e1; cases e1.1
  · simp only [Value.slice.injEq] at e1; rw [e] at e1
    obtain ⟨e3, _, _⟩ := e1
    cases e3
    rcases k with k | k
    · have : g = S := k
      omega
    · have : g = b := k
      omega
theorem V6.chg {K : Nat → Prop} {w w1 : World} {p : Nat} {v : Ver} (h : V6 p 0 v w) (hC : Chg K w w1) (hp : ¬ K p) : V6 p 0 v w1 := h.of_block (hC.block p h.lt hp)
set_option maxHeartbeats 4000000 in
theorem moves_any (A : Option Addr) (c : Nat) (l : List Ver) (f : Int) (lo hi key : ByteArray) (sn : Int) (w : World) (hv : HV w A c l) (hk : key.size ≤ 140737488351232) :
    Calls Try.prog 4 #[.slice A l.length c, .int .u64 f, .string lo, .string hi, .string key, .int .u64 sn] w fun e w' => e = .returned (.bool true) ∧ Below w.heap.size w w' := by
  have hfew := Lib.hid (few40 A c l)
  have hk40 : (l.take 40).length ≤ 40 := by rw [List.length_take]; omega
  have hvt := hv_take hv 40
  obtain ⟨L, hL⟩ : ∃ L, l.take 40 = L := ⟨_, rfl⟩
  rw [hL] at hfew hk40 hvt
  replace hL := Lib.hid hL
  replace hv := Lib.hid hv
  replace hvt := Lib.hid hvt
  -- the stores, plainly
  obtain ⟨s1, hs1⟩ : ∃ s1, loS St.new L L.length = s1 := ⟨_, rfl⟩
  obtain ⟨hi1, hl1, -⟩ := Inv.load Inv.new L L.length
  have hc1 := ck_load Inv.new (fun c hc => by cases hc) L L.length
  have hf1 := fl_load St.new L L.length
  rw [hs1] at hi1 hl1 hc1 hf1
  obtain ⟨F, hF⟩ : ∃ F, tmF 0 f = F := ⟨_, rfl⟩
  obtain ⟨sa, hsa⟩ : ∃ sa, (⟨tmC s1.ch F, F⟩ : St) = sa := ⟨_, rfl⟩
  have hia : Inv sa := by rw [← hsa]; exact Inv.trim hi1 F F
  have hca : Ck sa := by rw [← hsa]; exact ck_trim hc1 F F
  have hfa : sa.fl = F := by rw [← hsa]
  have hta : ∀ c ∈ sa.ch, trm c.l F = c.l := by
    rw [← hsa]
    intro c hc
    obtain ⟨d, hd, rfl⟩ := List.mem_map.1 hc
    exact trm_trm d.l F
  have hla : ln sa.ch ≤ 40 := by
    have h1 := ln_trim F s1.ch
    have h2 : ln St.new.ch = 0 := rfl
    rw [← hsa]; show ln (tmC s1.ch F) ≤ 40; omega
  obtain ⟨M, hM⟩ : ∃ M, al sa.ch lo hi = M := ⟨_, rfl⟩
  obtain ⟨hmv1, hmv2⟩ := moved hia hca hfa hta lo hi
  obtain ⟨hse1, hse2⟩ := seen_moved hia lo hi key sn
  have hlp := ln_parts2 (fun c => wth c.key lo hi) sa.ch
  have hMl : M.length ≤ 40 := by
    rw [← hM]; unfold al sp
    rw [cc_len]
    have := ln_filter (fun c => wth c.key lo hi) sa.ch
    omega
  rw [hM] at hmv1 hmv2
  rw [hfa] at hse1 hse2
  obtain ⟨sb, hsb⟩ : ∃ sb, (⟨sp sa.ch lo hi, F⟩ : St) = sb := ⟨_, rfl⟩
  obtain ⟨sd, hsd⟩ : ∃ sd, (⟨dr sa.ch lo hi, F⟩ : St) = sd := ⟨_, rfl⟩
  have hnew : (⟨tmC St.new.ch (tmF St.new.fl f), tmF St.new.fl f⟩ : St) = ⟨[], F⟩ := by
    have : tmF St.new.fl f = F := hF
    rw [this]; rfl
  have hlb : ln sd.ch + ln sb.ch = ln sa.ch := by
    rw [← hsb, ← hsd]; show ln (dr sa.ch lo hi) + ln (sp sa.ch lo hi) = _
    unfold dr sp; omega
  have hald : al sd.ch lo hi = [] := by rw [← hsd]; exact al_dr _ _ _
  have hEb : gtE sb sn = gtE sa sn ∧ gtE sd sn = gtE sa sn := by rw [← hsb, ← hsd]; unfold gtE; rw [hfa]; exact ⟨rfl, rfl⟩
  rw [hsb] at hmv2 hse1 hse2
  rw [hsd] at hse2
  have htm : (⟨tmC s1.ch (tmF s1.fl f), tmF s1.fl f⟩ : St) = sa := by
    rw [hf1, ← hsa]
    have : tmF St.new.fl f = F := hF
    rw [this]
  have hdd : (⟨dr sa.ch lo hi, sa.fl⟩ : St) = sd := by rw [hfa]; exact hsd
  have hl1' : ln s1.ch ≤ 40 := by have : ln St.new.ch = 0 := rfl; omega
  have hln0 : ln St.new.ch = 0 := rfl
  replace hs1 := Lib.hid hs1
  replace hi1 := Lib.hid hi1
  replace hia := Lib.hid hia
  replace hmv1 := Lib.hid hmv1
  replace hmv2 := Lib.hid hmv2
  replace hse1 := Lib.hid hse1
  replace hse2 := Lib.hid hse2
  replace hnew := Lib.hid hnew
  replace hald := Lib.hid hald
  replace hEb := Lib.hid hEb
  replace htm := Lib.hid htm
  replace hdd := Lib.hid hdd
  replace hM := Lib.hid hM
  replace hlb := Lib.hid hlb
  clear hc1 hf1 hca hfa hta hlp hF hsa hsb hsd hl1
  have hn := new_any w
  go_enter Try.func4, Try.ntmps4
  go_wp2_with (fail)
  with_reducible refine hn.mono ?_
  rintro e w1 ⟨S1, b1, rfl, hB1, hS1, hS1', hb1, hb1', hm1⟩
  clear hn
  have hn2 := Lib.hid (new_any w1)
  replace hm1 := Lib.hid hm1
  go_wp2_with (fail)
  with_reducible refine hn2.out.mono ?_
  rintro e w2 ⟨S2, b2, rfl, hB2, hS2, hS2', hb2, hb2', hm2⟩
  have hT2 := Lib.hid (two_new hB1 hS1 hS1' hb1 hb1' hm1.out hB2 hS2 hS2' hb2 hb2' hm2)
  clear hB1 hB2 hm1 hm2 hn2 hS1 hS1' hb1 hb1' hS2 hS2' hb2 hb2'
  have hld := Lib.hid (load_any (S := S1) (b := b1) A c L w2 hT2.out.a (hvt.out.below hT2.out.bel) (own_not hvt.out hT2.out.h1 hT2.out.h2) (by omega))
  -- Load
  go_wp2_with (go_at_call 10; (with_reducible refine (hfew.out w2 (hv.out.below hT2.out.bel)).mono ?_); rintro e w' ⟨rfl, rfl⟩)
  with_reducible refine hld.out.mono ?_
  rintro e w3 ⟨rfl, hC3, hA3⟩
  rw [hs1.out] at hA3
  have hT3 := Lib.hid (hT2.out.ca hC3 hA3)
  have htr := Lib.hid (trim_store f w3 hA3)
  clear hld hC3 hA3 hT2
  -- Trim, both
  go_wp2_with (fail)
  with_reducible refine htr.out.mono ?_
  rintro e w4 ⟨rfl, hC4, hA4⟩
  rw [htm.out] at hA4
  have hT4 := Lib.hid (hT3.out.ca hC4 hA4)
  have htr2 := Lib.hid (trim_store f w4 hT4.out.b)
  clear htr hC4 hA4 hT3
  go_wp2_with (fail)
  with_reducible refine htr2.out.mono ?_
  rintro e w5 ⟨rfl, hC5, hA5⟩
  rw [hnew.out] at hA5
  have hT5 := Lib.hid (hT4.out.cb hC5 hA5)
  have hgt := Lib.hid (get_any key sn w5 hT5.out.a hk)
  clear htr2 hC5 hA5 hT4
  -- Get
  go_wp2_with (fail)
  with_reducible refine hgt.out.mono ?_
  rintro e w6 ⟨rfl, hB6⟩
  obtain ⟨wV, hwV⟩ : ∃ wV, gtV sa key sn = wV := ⟨_, rfl⟩
  obtain ⟨wB, hwB⟩ : ∃ wB, gtB sa key sn = wB := ⟨_, rfl⟩
  rw [hwV, hwB] at hse1 hse2
  rw [hwV, hwB]
  have hT6 := Lib.hid (hT5.out.below hB6)
  obtain ⟨w7, hw7⟩ : ∃ w7, w6.alloc (.cells #[.string wV.key, .string wV.val, .bool wV.gone, .int .u64 wV.ts, .int .i64 wV.dc, .int .i64 wV.tx] 35) = w7 := ⟨_, rfl⟩
  have hT7 : Two w S1 b1 S2 b2 sa ⟨[], F⟩ w7 := by rw [← hw7]; exact hT6.out.below (al0 _ _)
  have hV7 : V6 w6.heap.size 0 wV w7 := by rw [← hw7]; exact V6.new w6 wV _
  obtain ⟨p1, hp1⟩ : ∃ p1, w6.heap.size = p1 := ⟨_, rfl⟩
  have hpn : ∀ k, own4 S1 b1 S2 b2 k → k < p1 := by
    intro k e
    obtain ⟨D, hI⟩ := hT6.out.a
    have := hI.bd k e
    omega
  rw [hp1] at hV7
  replace hV7 := Lib.hid hV7
  replace hT7 := Lib.hid hT7
  replace hpn := Lib.hid hpn
  replace hw7 := Lib.hid hw7
  have hall := Lib.hid (all_any lo hi w7 hT7.out.a)
  rw [hM.out] at hall
  clear hgt hB6 hT5 hT6
  -- All
  go_wp2_with (fail)
  rw [hw7.out]
  with_reducible refine hall.out.mono ?_
  rintro e w8 ⟨A8, c8, rfl, hG8, hB8⟩
  have hT8 := Lib.hid (hT7.out.below hB8)
  have hV8 := Lib.hid (hV7.out.below hB8)
  have hlen := Lib.hid (len_any w8 hT8.out.a)
  have hp8 : Hid (∀ k, own4 S1 b1 S2 b2 k → k < w7.heap.size) := Lib.hid fun k e => by obtain ⟨D, hI⟩ := hT7.out.a; exact hI.bd k e
  replace hG8 := Lib.hid hG8
  clear hall hB8 hw7 hV7
  -- Len
  go_wp2_with (fail)
  with_reducible refine hlen.out.mono ?_
  rintro e w9 ⟨rfl, hB9⟩
  have hT9 := Lib.hid (hT8.out.below hB9)
  have hV9 := Lib.hid (hV8.out.below hB9)
  have hG9 := Lib.hid (hG8.out.below hB9)
  have hld2 := Lib.hid (load_any (S := S2) (b := b2) A8 c8 M w9 hT9.out.b (hG9.out.hv (by omega)) (not_own hG9.out (hp8.out _ (.inr (.inl rfl))) (hp8.out _ (.inr (.inr rfl)))) (by show ln [] + _ ≤ _; have : ln [] = 0 := rfl; omega))
  clear hlen hB9 hT8 hV8 hG8
  -- the moved ones
  go_wp2_with (fail)
  with_reducible refine hld2.out.mono ?_
  rintro e w10 ⟨rfl, hC10, hA10⟩
  rw [hmv2.out] at hA10
  rw [hmv1.out]
  have hT10 := Lib.hid (hT9.out.cb hC10 hA10)
  have hV10 := Lib.hid (V6.chg hV9.out hC10 (fun e => by have := hpn.out p1 (.inr e); omega))
  have hdr := Lib.hid (drop_any lo hi w10 hT10.out.a)
  clear hld2 hC10 hA10 hT9 hV9 hG9
  go_wp2_with (fail)
  with_reducible refine hdr.out.mono ?_
  rintro e w11 ⟨rfl, hC11, hA11⟩
  rw [hM.out]
  rw [hdd.out] at hA11
  have hT11 := Lib.hid (hT10.out.ca hC11 hA11)
  have hV11 := Lib.hid (V6.chg hV10.out hC11 (fun e => by have := hpn.out p1 (.inl e); omega))
  have hlen := Lib.hid (len_any w11 hT11.out.a)
  clear hdr hC11 hA11 hT10 hV10
  go_wp2_with (fail)
  with_reducible refine hlen.out.mono ?_
  rintro e w12 ⟨rfl, hB12⟩
  have hT12 := Lib.hid (hT11.out.below hB12)
  have hV12 := Lib.hid (hV11.out.below hB12)
  have hlen2 := Lib.hid (len_any w12 hT12.out.b)
  clear hlen hB12 hT11 hV11
  go_wp2_with (fail)
  with_reducible refine hlen2.out.mono ?_
  rintro e w13 ⟨rfl, hB13⟩
  have hT13 := Lib.hid (hT12.out.below hB13)
  have hV13 := Lib.hid (hV12.out.below hB13)
  have hlbI : (ln sd.ch : Int) + (ln sb.ch : Int) = (ln sa.ch : Int) := by have := hlb.out; omega
  have hall := Lib.hid (all_any lo hi w13 hT13.out.a)
  rw [hald.out] at hall
  clear hlen2 hB13 hT12 hV12
  go_wp2_with (fail)
  with_reducible refine hall.out.mono ?_
  rintro e w14 ⟨A14, c14, rfl, -, hB14⟩
  have hT14 := Lib.hid (hT13.out.below hB14)
  have hV14 := Lib.hid (hV13.out.below hB14)
  have hgt := Lib.hid (get_any key sn w14 hT14.out.b hk)
  clear hall hB14 hT13 hV13 hlbI
  -- Get of the other one
  go_wp2_with (fail)
  with_reducible refine hgt.out.mono ?_
  rintro e w15 ⟨rfl, hB15⟩
  rw [hEb.out.1]
  obtain ⟨xV, hxV⟩ : ∃ xV, gtV sb key sn = xV := ⟨_, rfl⟩
  obtain ⟨xB, hxB⟩ : ∃ xB, gtB sb key sn = xB := ⟨_, rfl⟩
  rw [hxV, hxB] at hse1
  rw [hxB] at hse2
  rw [hxV, hxB]
  have hT15 := Lib.hid (hT14.out.below hB15)
  have hV15 := Lib.hid (hV14.out.below hB15)
  obtain ⟨w16, hw16⟩ : ∃ w16, w15.alloc (.cells #[.string xV.key, .string xV.val, .bool xV.gone, .int .u64 xV.ts, .int .i64 xV.dc, .int .i64 xV.tx] 35) = w16 := ⟨_, rfl⟩
  have hT16 : Two w S1 b1 S2 b2 sd sb w16 := by rw [← hw16]; exact hT15.out.below (al0 _ _)
  have hV16 : V6 p1 0 wV w16 := by rw [← hw16]; exact hV15.out.below (al0 _ _)
  have hX16 : R6 w15.heap.size xV w16 := by rw [← hw16]; exact R6.new w15 xV
  have hpp : p1 < w15.heap.size := hV15.out.lt
  have hpo : ∀ k, own4 S1 b1 S2 b2 k → k < w15.heap.size := fun k e => by have := hpn.out k e; omega
  obtain ⟨p2, hp2⟩ : ∃ p2, w15.heap.size = p2 := ⟨_, rfl⟩
  have hwp : w.heap.size ≤ p2 := by rw [← hp2]; exact hT15.out.bel.size
  rw [hp2] at hX16 hpp hpo
  replace hT16 := Lib.hid hT16
  replace hV16 := Lib.hid hV16
  replace hX16 := Lib.hid hX16
  replace hw16 := Lib.hid hw16
  clear hgt hB15 hT14 hT15 hV14 hV15
  have hq := fun v w => eql_ver v v w
  simp only [decide_true] at hq
  cases xB
  case true =>
    obtain ⟨e1, e2⟩ := hse1.out rfl
    subst e1
    subst e2
    clear hse1 hse2
    go_wp2_with (fail)
    rw [hw16.out]
    with_reducible refine (awake_any w16).mono ?_
    rintro e w17 ⟨rfl, hB17⟩
    obtain ⟨a0, a1, a2, a3, a4, a5⟩ := hV16.out.below hB17
    obtain ⟨z0, z1, z2, z3, z4, z5⟩ := (hX16.out.below hB17).v6
    have hfin := Lib.hid ((hT16.out.below hB17).bel)
    have hqv := hq xV
    clear hB17 hT16 hV16 hX16 hq
    go_wp2
    go_ret
    exact ⟨rfl, hfin.out⟩
  case false =>
    obtain ⟨e1, e2⟩ := hse2.out rfl
    clear hse1 hse2
    have hgt := Lib.hid (get_any key sn w16 hT16.out.a hk)
    go_wp2_with (fail)
    rw [hw16.out]
    with_reducible refine hgt.out.mono ?_
    rintro e w17 ⟨rfl, hB17⟩
    rw [hEb.out.2, e1, e2]
    have hT17 := Lib.hid (hT16.out.below hB17)
    have hV17 := Lib.hid (hV16.out.below hB17)
    have hX17 := hX16.out.below hB17
    obtain ⟨z0, z1, z2, z3, z4, z5⟩ := hX17.v6
    obtain ⟨f0, f1, f2, f3, f4, f5⟩ := hX17.fz
    have hX18 := Lib.hid (hX17.put wV)
    obtain ⟨w18, hw18⟩ : ∃ w18, put6 w17 p2 wV = w18 := ⟨_, rfl⟩
    rw [hw18] at hX18
    have hBp : Below p2 w17 w18 := by rw [← hw18]; exact put6_below ⟨rfl, rfl, rfl, Nat.le_refl _, fun _ _ => rfl⟩ (Nat.le_refl _) wV
    have hV18 : V6 p1 0 wV w18 := V6.of_block hV17.out (hBp.block p1 hpp)
    unfold put6 at hw18
    replace hw18 := Lib.hid hw18
    have hB18 := Lib.hid (hT17.out.bel.trans (hBp.mono hwp))
    replace hV18 := Lib.hid hV18
    have hqv := hq wV
    clear hgt hB17 hT16 hV16 hX16 hX17 hq hT17 hV17 hBp
    go_wp2_with (fail)
    rw [hw18.out]
    with_reducible refine (awake_any w18).mono ?_
    rintro e w19 ⟨rfl, hB19⟩
    clear z0 z1 z2 z3 z4 z5 f0 f1 f2 f3 f4 f5
    obtain ⟨a0, a1, a2, a3, a4, a5⟩ := hV18.out.below hB19
    obtain ⟨z0, z1, z2, z3, z4, z5⟩ := (hX18.out.below hB19).v6
    have hfin := Lib.hid (hB18.out.trans (hB19.mono hB18.out.size))
    clear hB19 hV18 hX18 hB18 hw18
    go_wp2
    go_ret
    exact ⟨rfl, hfin.out⟩
end Go.Proofs.Ytlojmojmijklmaa.stoMv
