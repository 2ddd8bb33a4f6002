/- The contract of a store's Put. -/
import Derived.Test.YtlojmojmijklmaaStoC
import Derived.Test.YtlojmojmijklmaaChnJ
set_option linter.unusedVariables false
set_option maxRecDepth 100000
namespace Go.Proofs.Ytlojmojmijklmaa.stoP
open Go.ChangeShapes Go.WideShapes Go.ChangeAt Go.RowKit Go.Deep
open opV chnM gen chnA chnB chnR chnE chnG chnJ stoM stoA stoL stoB stoC

theorem look_all {B : Nat → Prop} {w : World} {S b : Nat} {s : St} {D : DataW Value} (h : SIs B w S b s D) (k : ByteArray) (hk : k.size ≤ maxLen) :
    ∃ A c, (∀ W', Below w.heap.size w W' → (Instr.lookup 63 (.map (some b)) (.string k) false).run Try.prog W' = .ok (.slice A (of s.ch k).length c) W') ∧ HV w A c (of s.ch k) ∧ (of s.ch k = [] ∨ ∀ y, A = some y → ¬ B y.block) := by
  have hl := fun (W' : World) (hB : Below w.heap.size w W') => World.ownsMap.lookup (w := W') (P := Try.prog) (h.below hB).map law Try.underlying63 (zeroE W') (zd := .held (.slice none 0 0)) (zp := []) rfl (hkey k hk)
  rcases of_cases h.inv.srt k with ⟨c, hc, rfl, e⟩ | ⟨h0, e⟩
  · obtain ⟨v, hv, A, cp, rfl, hd⟩ := h.ear.2 c hc
    rw [e]
    refine ⟨A, cp, fun W' hB => ?_, hd⟩
    obtain ⟨u, ps, h1, h2⟩ := hl W' hB
    unfold hR at h2
    rw [hv] at h2
    simp only [Option.some.injEq, Prod.mk.injEq, DataW.held.injEq] at h2
    rw [h2.1] at h1
    exact h1
  · have hn : Maps.has D (kS k) = false := by
      cases e2 : Maps.has D (kS k)
      · rfl
      · obtain ⟨c, hc, e3⟩ := (h.ear.1 k).1 e2
        exact absurd e3 (h0 c hc)
    rw [e]
    refine ⟨none, 0, fun W' hB => ?_, (GV.nil_ w 0).hv (by simp), .inl rfl⟩
    obtain ⟨u, ps, h1, h2⟩ := hl W' hB
    unfold hR at h2
    rw [Maps.atKey_of_not_has hn] at h2
    simp only [Option.some.injEq, Prod.mk.injEq, DataW.held.injEq] at h2
    rw [h2.1] at h1
    exact h1
theorem chk_zero {v : Ver} (h : chk v = 0) : v.key.size ≤ 16 ∧ v.val.size ≤ 64 := by
  unfold chk at h
  split at h
  · cases h
  · omega
/-- what a call leaves of a store -/
def Put (B : Nat → Prop) (S b : Nat) (s : St) (v : Ver) (w : World) (e : Ending) (w' : World) : Prop :=
  e = .returned (.int .i64 (puE s v : Nat)) ∧ Chg (own2 S b) w w' ∧ SAt B w' S b (puS s v)
theorem Put.no {B : Nat → Prop} {S b : Nat} {s : St} {v : Ver} {w w' : World} {E : Int} (h : SAt B w S b s) (hE : (puE s v : Int) = E) (h0 : puE s v ≠ 0) (hB : Below w.heap.size w w') : Put B S b s v w (.returned (.int .i64 E)) w' :=
  ⟨by rw [hE], Chg.of_below _ hB, by unfold puS; rw [if_neg h0]; exact h.below hB⟩
abbrev SC (S b : Nat) (f : Int) (w : World) : Prop := w.cell? ⟨S, 0, none⟩ = some (.map (some b)) ∧ w.cell? ⟨S, 1, none⟩ = some (.int .u64 f)
theorem SC.below {S b : Nat} {f : Int} {w w1 : World} (h : SC S b f w) (hB : Below w.heap.size w w1) : SC S b f w1 := ⟨keep_cell hB h.1, keep_cell hB h.2⟩
set_option maxHeartbeats 2000000 in
theorem put_chk {B : Nat → Prop} {S b : Nat} {s : St} (v : Ver) (w : World) (h : SAt B w S b s) (hc : chk v ≠ 0) :
    Calls Try.prog 11 #[.pointer (some ⟨S, 0, none⟩), .agg #[.string v.key, .string v.val, .bool v.gone, .int .u64 v.ts, .int .i64 v.dc, .int .i64 v.tx]] w (Put B S b s v w) := by
  have he : (puE s v : Int) = (chk v : Nat) := by unfold puE; rw [if_pos hc]
  have he0 : puE s v ≠ 0 := by omega
  have hfin : Hid (∀ w', Below w.heap.size w w' → Put B S b s v w (.returned (.int .i64 (chk v : Nat))) w') := Lib.hid fun w' hB => Put.no h he he0 hB
  have hne : ((chk v : Int) != 0) = true := by rw [bne_iff_ne]; omega
  have hB0 := Lib.hid (al0 w (.cells #[.string v.key, .string v.val, .bool v.gone, .int .u64 v.ts, .int .i64 v.dc, .int .i64 v.tx] 35))
  have hv0 := V6.new w v 35
  obtain ⟨W, hW⟩ : ∃ W, w.alloc (.cells #[.string v.key, .string v.val, .bool v.gone, .int .u64 v.ts, .int .i64 v.dc, .int .i64 v.tx] 35) = W := ⟨_, rfl⟩
  rw [hW] at hB0
  have hck := Lib.hid (check_any v W)
  replace hW := Lib.hid hW
  clear h hc he he0
  generalize (chk v : Nat) = E at *
  obtain ⟨a0, a1, a2, a3, a4, a5⟩ := hv0
  go_enter Try.func11, Try.ntmps11
  go_wp2_with (fail)
  rw [hW.out]
  with_reducible refine hck.out.mono ?_
  rintro e w1 ⟨rfl, hB1⟩
  have hx := Lib.hid (hfin.out _ (trans0 hB0.out hB1))
  clear hfin hB1 a0 a1 a2 a3 a4 a5
  go_wp2
  go_ret
  exact hx.out
set_option maxHeartbeats 4000000 in
theorem put_has {B : Nat → Prop} {S b : Nat} {s : St} (v : Ver) (w : World) (h : SAt B w S b s) (hc : chk v = 0) (hp : putE (of s.ch v.key) v ≠ 0) :
    Calls Try.prog 11 #[.pointer (some ⟨S, 0, none⟩), .agg #[.string v.key, .string v.val, .bool v.gone, .int .u64 v.ts, .int .i64 v.dc, .int .i64 v.tx]] w (Put B S b s v w) := by
  have he : (puE s v : Int) = (putE (of s.ch v.key) v : Nat) := by unfold puE; rw [if_neg (by omega), if_pos hp]
  have he0 : puE s v ≠ 0 := by omega
  have hfin : Hid (∀ w', Below w.heap.size w w' → Put B S b s v w (.returned (.int .i64 (putE (of s.ch v.key) v : Nat))) w') := Lib.hid fun w' hB => Put.no h he he0 hB
  obtain ⟨hk1, hk2⟩ := chk_zero hc
  obtain ⟨D, hI⟩ := h
  obtain ⟨A, c, hlk, hHV, -⟩ := look_all hI v.key (by unfold maxLen; omega)
  have hSC : Hid (SC S b s.fl w) := Lib.hid (SIs.cells hI)
  have hll := Nat.le_trans (of_len hI.inv v.key) hI.ln
  have hne : ((putE (of s.ch v.key) v : Int) != 0) = true := by rw [bne_iff_ne]; omega
  have hB0 := al0 w (.cells #[.string v.key, .string v.val, .bool v.gone, .int .u64 v.ts, .int .i64 v.dc, .int .i64 v.tx] 35)
  have hv0 := R6.new w v
  obtain ⟨W, hW⟩ : ∃ W, w.alloc (.cells #[.string v.key, .string v.val, .bool v.gone, .int .u64 v.ts, .int .i64 v.dc, .int .i64 v.tx] 35) = W := ⟨_, rfl⟩
  rw [hW] at hB0 hv0
  have hck := Lib.hid (check_any v W)
  rw [hc] at hck
  have hpc := fun w' => put_any A c (of s.ch v.key) v w'
  replace hpc := Lib.hid fun w' (hB : Below w.heap.size w w') => hpc w' (hHV.below hB) (by omega)
  have hB0' := Lib.hid hB0
  have hv0' := Lib.hid hv0
  replace hW := Lib.hid hW
  replace hlk := Lib.hid hlk
  clear hI hp hc he he0 hB0 hHV hv0
  generalize (of s.ch v.key).length = n at *
  generalize putL (of s.ch v.key) v = L at *
  generalize putE (of s.ch v.key) v = E at *
  go_enter Try.func11, Try.ntmps11
  obtain ⟨a0, a1, a2, a3, a4, a5⟩ := hv0'.out.v6
  go_wp2_with (fail)
  rw [hW.out]
  with_reducible refine hck.out.mono ?_
  rintro e w1 ⟨rfl, hB1⟩
  clear a0 a1 a2 a3 a4 a5
  obtain ⟨a0, a1, a2, a3, a4, a5⟩ := (hv0'.out.below hB1).v6
  have hBw1 := Lib.hid (trans0 hB0'.out hB1)
  have hV1 := Lib.hid (hv0'.out.below hB1)
  clear hB1
  go_wp2_with (fail)
  with_reducible refine (texts_any v w1 (by omega) (by omega)).mono ?_
  rintro e w2 ⟨rfl, hB2⟩
  clear a0 a1 a2 a3 a4 a5
  obtain ⟨a0, a1, a2, a3, a4, a5⟩ := (hV1.out.below hB2).v6
  obtain ⟨f0, f1, f2, f3, f4, f5⟩ := (hV1.out.below hB2).fz
  have hV2 := Lib.hid (hV1.out.below hB2)
  have hBw2 := Lib.hid (trans0 hBw1.out hB2)
  obtain ⟨w3, hw3⟩ : ∃ w3, put6 w2 w.heap.size v = w3 := ⟨_, rfl⟩
  have hV3 := hV2.out.put v
  have hBw3 : Below w.heap.size w w3 := by rw [← hw3]; exact put6_below hBw2.out (Nat.le_refl _) v
  rw [hw3] at hV3
  unfold put6 at hw3
  replace hw3 := Lib.hid hw3
  have hlk3 := hlk.out _ (hBw3.drew)
  have hpc3 := Lib.hid (hpc.out w3.drew hBw3.drew)
  have hfin3 : Hid (∀ w', Below w3.drew.heap.size w3.drew w' → Put B S b s v w (.returned (.int .i64 E)) w') := Lib.hid fun w' hB => hfin.out _ (trans0 hBw3 (undrew hB))
  clear hB2 hfin
  go_wp2_with (fail)
  rw [hw3.out]
  clear a0 a1 a2 a3 a4 a5 f0 f1 f2 f3 f4 f5
  obtain ⟨a0, a1, a2, a3, a4, a5⟩ := hV3.v6
  obtain ⟨c0, c1⟩ := hSC.out.below hBw3
  clear hV1 hV2 hBw1 hBw2 hlk hpc hv0' hck hB0' hSC hW hw3 hV3 hBw3
  go_region_law ((go_simp; go_at_call 32; (with_reducible refine (hpc3.out).mono ?_); rintro e w' ⟨A', c', rfl, hG, hB3⟩))
  all_goals
    have hx := Lib.hid (hfin3.out _ hB3)
    clear hfin3 hB3 hG hpc3 hlk3 c0 c1
    go_wp2
    go_ret
    exact hx.out
/-- what the regions of Put read -/
abbrev LS (S b : Nat) (f : Int) (w0 : World) (v : Ver) (A : Option Addr) (n c : Nat) (w : World) : Prop :=
  SC S b f w ∧ R6 w0.heap.size v w ∧ V6 w0.heap.size 0 v w ∧ (Instr.lookup 63 (.map (some b)) (.string v.key) false).run Try.prog w = .ok (.slice A n c) w ∧ Below w0.heap.size w0 w
theorem LS.of {S b n c : Nat} {f : Int} {w0 w w1 : World} {v : Ver} {A : Option Addr} (hlk : Hid (∀ W', Below w0.heap.size w0 W' → (Instr.lookup 63 (.map (some b)) (.string v.key) false).run Try.prog W' = .ok (.slice A n c) W')) (h : LS S b f w0 v A n c w) (hB : Below w.heap.size w w1) : LS S b f w0 v A n c w1 :=
  ⟨h.1.below hB, h.2.1.below hB, (h.2.1.below hB).v6, hlk.out _ (trans0 h.2.2.2.2 hB), trans0 h.2.2.2.2 hB⟩
theorem LS.put {S b n c p : Nat} {f : Int} {w0 w : World} {v u : Ver} {A : Option Addr} (hlk : Hid (∀ W', Below w0.heap.size w0 W' → (Instr.lookup 63 (.map (some b)) (.string v.key) false).run Try.prog W' = .ok (.slice A n c) W')) (h : LS S b f w0 v A n c w) (hp : Hid (w0.heap.size < p ∧ S < p)) : LS S b f w0 v A n c (put6 w p u) := by
  have hp := hp.out
  have hB := put6_below h.2.2.2.2 (show w0.heap.size ≤ p by omega) u
  have hR : R6 w0.heap.size v (put6 w p u) := by
    have hne : w0.heap.size ≠ p := by omega
    exact (((((h.2.1.setOther (a := ⟨p, 0, none⟩) hne _).setOther (a := ⟨p, 1, none⟩) hne _).setOther (a := ⟨p, 2, none⟩) hne _).setOther (a := ⟨p, 3, none⟩) hne _).setOther (a := ⟨p, 4, none⟩) hne _).setOther (a := ⟨p, 5, none⟩) hne _
  have hc : ∀ i u', w.cell? ⟨S, i, none⟩ = some u' → (put6 w p u).cell? ⟨S, i, none⟩ = some u' := fun i u' e =>
    (World.cell?_of_block (a := ⟨S, i, none⟩) ((put6_below (B := p) ((Below.refl w.heap.size w).mono (Nat.zero_le _) |> fun h => ⟨h.os, h.tape, h.output, h.size, fun _ _ => rfl⟩) (Nat.le_refl _) u).block S (by omega))).trans e
  exact ⟨⟨hc _ _ h.1.1, hc _ _ h.1.2⟩, hR, hR.v6, hlk.out _ hB, hB⟩
theorem put_fin {B : Nat → Prop} {w w6 w9 : World} {S b base : Nat} {s : St} {D : DataW Value} {v : Ver} {A2 : Option Addr} {c2 : Nat} (h : SIs B w S b s D) (hz : puE s v = 0) (hln : ln s.ch < 60000)
    (hB : Below w.heap.size w w6) (hG : GV w6 base A2 c2 (puC s v)) (hbase : w.heap.size ≤ base)
    (hm : w9.ownsMap Try.prog 9 hR b (s.ch.length + 1) (D.put (kS v.key) (.held (.slice A2 (puC s v).length c2)))) (ht : w6.mapTurned w9 b) : Put B S b s v w (.returned (.int .i64 0)) w9 := by
  have h6 := h.below hB
  have hgr := ht.grown
  have hch : Chg (own2 S b) w6 w9 := Chg.grown hgr (fun k e => by cases e; exact .inr rfl)
  have hK : ∀ k, own2 S b k → B k := fun k e => by rcases e with rfl | rfl; exact h.bS; exact h.bb
  have hisM : Maps.IsMap D := World.ownsMap.isMap h.map
  have hkz : v.key.size ≤ maxLen := by have := chk_zero (puE_zero hz).1; unfold maxLen; omega
  have hkl : WideAt.IsKeyLit (kS v.key) := law.key (hkey v.key hkz)
  have hlc := puC_le s v
  have hol := Nat.le_trans (of_len h.inv v.key) h.ln
  have hd : DV B w9 (.slice A2 (puC s v).length c2) (puC s v) := (DV.of_gv hG (by omega) (fun k hk => Nat.lt_of_lt_of_le (h.bd k hk) hbase)).go hch hK
  have e0 : puS s v = ⟨stC s.ch v.key (puC s v), s.fl⟩ := by unfold puS; rw [if_pos hz]
  refine ⟨by rw [hz]; rfl, (Chg.of_below _ hB).trans hch, D.put (kS v.key) (.held (.slice A2 (puC s v).length c2)), ?_⟩
  have hear : Ear B w9 (D.put (kS v.key) (.held (.slice A2 (puC s v).length c2))) (stC s.ch v.key (puC s v)) := by
    refine ⟨fun k => ?_, fun c hc => ?_⟩
    · by_cases e : k = v.key
      · subst e
        rw [Maps.has_put_same hisM hkl]
        exact ⟨fun _ => ⟨_, (mem_stC h.inv.srt).2 (.inl rfl), rfl⟩, fun _ => rfl⟩
      · rw [Maps.has_put_other (kS_ne e), h.ear.1 k]
        constructor
        · rintro ⟨c, hc, rfl⟩
          exact ⟨c, (mem_stC h.inv.srt).2 (.inr ⟨hc, e⟩), rfl⟩
        · rintro ⟨c, hc, rfl⟩
          rcases (mem_stC h.inv.srt).1 hc with rfl | ⟨hc, _⟩
          · exact absurd rfl e
          · exact ⟨c, hc, rfl⟩
    · rcases (mem_stC h.inv.srt).1 hc with rfl | ⟨hc, hne⟩
      · exact ⟨_, fun z => Maps.atKey_put_same hisM hkl _ z, hd⟩
      · obtain ⟨u, h1, h2⟩ := h6.ear.2 c hc
        exact ⟨u, fun z => by rw [Maps.atKey_put_other (kS_ne hne)]; exact h1 z, h2.go hch hK⟩
  rw [e0]
  have hl1 := ln_put h.inv v
  have hi1 := h.inv.put v
  rw [e0] at hl1 hi1
  exact
    { row := h6.row.of_block (hgr.block S h6.row.lt (fun e => h.ne (by cases e; rfl)))
      map := map_tight hm (srt_stC h.inv.srt _ _) hear.1
      ear := hear
      inv := hi1
      ln := by have := hl1; show ln (stC s.ch v.key (puC s v)) ≤ _; simp only at this; omega
      bS := h.bS
      bb := h.bb
      bd := fun k hk => Nat.lt_of_lt_of_le (h6.bd k hk) hgr.size }
end Go.Proofs.Ytlojmojmijklmaa.stoP
