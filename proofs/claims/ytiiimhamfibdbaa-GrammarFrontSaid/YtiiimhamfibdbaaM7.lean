/- What the landed code's calls of a grammar give, Whole among them, event by event. Of every text of at most 900000 bytes and every depth. -/
import Derived.Test.YtiiimhamfibdbaaM6
import Derived.Test.YtiiimhamfibdbaaM3
import Derived.Test.YtiiimhamfibdbaaM1
import Derived.Test.YtiiimhamfibdbaaL3
namespace Go.Proofs.Ytiiimhamfibdbaa
open Go.RowKit Go.PlainAid
set_option linter.unusedVariables false
theorem gram_ev {L : List Ev} (hf : VS.all VS.new L) (hg : GS.fine 64 GS.new L) (hcs : GS.cans GS.new L) {q : Nat} {e : Ev} (he : L[q]? = some e) (hn : (VS.run VS.new (L.take q)).bad = false) (hp : q ≤ (partsG L).length) :
  (GS.new.run (L.take q)).op ≠ [] ∧ ((GS.new.run (L.take q)).op.length : Int) ≤ 65 ∧ (GS.new.run (L.take q)).can e ∧ GS.new.run (L.take (q + 1)) = (GS.new.run (L.take q)).push e ∧
  (((VS.run VS.new (L.take q)).next e).bad = true → gF L = some (q, 7)) ∧
  (((VS.run VS.new (L.take q)).next e).bad = false → ((GS.new.run (L.take q)).push e).part = 0 → gF L = some (q, 8)) ∧
  (((GS.new.run (L.take q)).push e).part ≠ 0 → q + 1 ≤ (partsG L).length) := by
 obtain ⟨hN, hfit, hnx, hvf⟩ := step_ev hf he hn
 obtain ⟨hq, rfl⟩ := List.getElem?_eq_some_iff.1 he
 obtain ⟨g1, g2, g3, g4, g5, g6⟩ := GS.steps L GS.new hg (by decide) q hq hp
 have hT : GS.new.run (L.take (q + 1)) = (GS.new.run (L.take q)).push L[q] := by
  rw [List.take_succ_eq_append_getElem hq, GS.run_append]; rfl
 refine ⟨g1, g2, g6 hcs, hT, fun hb => ?_, fun hb h0 => ?_, fun h0 => ?_⟩
 ·have hv := hvf hb
  unfold gF
  rw [hv, if_pos ⟨by omega, by omega⟩, Int.toNat_natCast]
 ·have hpl : (partsG L).length = q := by
   rcases Nat.lt_or_ge q (partsG L).length with h | h
   ·obtain ⟨g7, g8⟩ := g5 h
    rw [h0] at g7
    exact absurd g7.symm g8
   ·omega
  obtain ⟨_, v3⟩ := v_bad hf
  have h2 := v3 (q + 1) hq
  rw [hnx, hb] at h2
  have h2 := of_decide_eq_false h2.symm
  unfold gF
  rw [hpl, if_neg (by omega), if_pos hq]
 ·rcases Nat.lt_or_ge q (partsG L).length with h | h
  ·exact h
  ·exact absurd (g4 (show q = (partsG L).length by omega)) h0
theorem gram_none {L : List Ev} (hf : VS.all VS.new L) (hn : (VS.run VS.new L).bad = false) (hp : L.length ≤ (partsG L).length) : gF L = none := by
 obtain ⟨⟨_, v2⟩, v3⟩ := v_bad hf
 have h := v3 L.length (Nat.le_refl _)
 rw [List.take_length, hn] at h
 have h := of_decide_eq_false h.symm
 have hl := parts_le L
 unfold gF
 rw [if_neg (by omega), if_neg (by omega)]
theorem gram_end {b : ByteArray} {dep : Int} {L : List Ev} {E : Int} {P : Nat} (hs : b.size ≤ maxLen) (hw : evW b dep = (L, E, P)) {m : EM} {A : Nat} (hA : A ≤ L.length) (ha : allTo b dep b.size = some (m, L.take A)) (hn : (VS.run VS.new (L.take A)).bad = false) (hp : A ≤ (partsG L).length) : gramW b dep = ((if m.done = true then 0 else 2), (b.size : Int)) := by
 have h := allTo_end ha
 rw [hw] at h
 simp only [Prod.mk.injEq] at h
 obtain ⟨h1, h2, h3⟩ := h
 have hAL : A = L.length := by
  have := congrArg List.length h1
  rw [List.length_take] at this; omega
 rw [← h1] at hn
 rw [gramW_none hw (gram_none (evW_fits hs hw) hn (by omega)), h2, h3]
theorem gram_stop {b : ByteArray} {dep : Int} {L : List Ev} {E : Int} {P : Nat} (hs : b.size ≤ maxLen) (hw : evW b dep = (L, E, P)) {A i : Nat} {er : Int} (h : E = er ∧ P = i ∧ A = L.length) (hn : (VS.run VS.new (L.take A)).bad = false) (hp : A ≤ (partsG L).length) : gramW b dep = (er, (i : Int)) := by
 obtain ⟨rfl, rfl, rfl⟩ := h
 rw [List.take_length] at hn
 exact gramW_none hw (gram_none (evW_fits hs hw) hn hp)
theorem gram_at {b : ByteArray} {dep : Int} {L : List Ev} {E : Int} {P : Nat} (hw : evW b dep = (L, E, P)) {q : Nat} {e : Ev} (he : L[q]? = some e) {z : Int} (hg : gF L = some (q, z)) : gramW b dep = (z, e.at_) := by
 rw [gramW_some hw hg, atOf_some he]
set_option maxRecDepth 100000 in
set_option maxHeartbeats 16000000 in
theorem gLook_any {w : World} {kc kg : Nat} {Fc Fg : Nat → Prop} {vs : VS} {s : GS} (e : Ev) (hv : VCk w kc Fc vs) (hok : vs.Ok) (hfit : vs.fits e) (hg : GAt w kg Fg (some s)) (hd : ∀ j, Fg j → ¬ Fc j) (hne : s.op ≠ []) (hl : (s.op.length : Int) ≤ 65) (hk : 1 ≤ e.k ∧ e.k ≤ 5) (hc : s.can e) {Z : Int} (hZ : Z = if (vs.next e).bad = true then 7 else if (s.push e).part = 0 then 8 else 0) :
  Calls Try.prog 11 #[.pointer (some ⟨kc, 0, none⟩), .pointer (some ⟨kg, 0, none⟩), evV e] w fun r w' => ∃ Fc' Fg', r = .returned (.int .i64 Z) ∧ ((vs.next e).bad = false → (s.push e).part ≠ 0 → VCk w' kc Fc' (vs.next e) ∧ GAt w' kg Fg' (some (s.push e))) ∧ (∀ j, Fc' j → Fc j ∨ w.heap.size ≤ j) ∧ (∀ j, Fg' j → (Fg j ∨ w.heap.size ≤ j) ∧ ¬ Fc' j) ∧ Chg (fun j => Fc j ∨ Fg j) w w' := by
 have HZ := Lib.hid hZ
 have HVP := Lib.hid (fun (W : World) (hb : Below w.heap.size w W) => push_v e (vck_aside hv (Chg.of_below hb : Chg (fun _ => False) w W) (fun _ _ h => h)) hok hfit)
 have HGP := Lib.hid (fun (W : World) (hb : Chg Fc w W) => gPush_any e (gat_aside hg hb hd) hne hl hk hc)
 have HA : Hid ((s.push e).part ≠ 0 → s.after e = some (s.push e)) := Lib.hid (fun h => if_neg h)
 have HLc := Lib.hid (vck_lt hv)
 have HLg : Hid (∀ j, Fg j → j < w.heap.size) := Lib.hid hg.1
 have HD := Lib.hid hd
 clear hZ hv hok hfit hg hd hne hl hk hc
 generalize vs.next e = vn at *
 generalize s.after e = sa at *
 generalize s.push e = sp at *
 have hev : evV e = .agg #[.int .i64 e.k, .int .i64 e.at_, .int .i64 e.c, .int .i64 e.t, .bool e.f, .int .i64 e.n, .int .u8 e.b] := rfl
 rw [hev] at HVP HGP ⊢
 clear hev
 generalize e.k = x0 at *
 generalize e.at_ = x1 at *
 generalize e.c = x2 at *
 generalize e.t = x3 at *
 generalize e.f = x4 at *
 generalize e.n = x5 at *
 generalize e.b = x6 at *
 go_enter Try.func11, Try.ntmps11
 go_upto_region 1 with (fail)
 have hb1 : Below w.heap.size w (w.alloc (.cells #[.int .i64 x0, .int .i64 x1, .int .i64 x2, .int .i64 x3, .bool x4, .int .i64 x5, .int .u8 x6] 34)) := (Below.refl _ _).alloc (Nat.le_refl _) _
 have HX : Hid (Row (w.alloc (.cells #[.int .i64 x0, .int .i64 x1, .int .i64 x2, .int .i64 x3, .bool x4, .int .i64 x5, .int .u8 x6] 34)) w.heap.size 34 (evC ⟨x0, x1, x2, x3, x4, x5, x6⟩)) := Lib.hid (Row.new w _ _)
 have HT1 := Lib.hid (HVP.out _ hb1)
 have HB1 := Lib.hid hb1
 clear hb1 HVP
 generalize w.alloc (.cells #[.int .i64 x0, .int .i64 x1, .int .i64 x2, .int .i64 x3, .bool x4, .int .i64 x5, .int .u8 x6] 34) = W1 at *
 obtain ⟨y0, y1, y2, y3, y4, y5, y6⟩ := ev_facts HX.out
 cases hbad : vn.bad
 ·rw [hbad] at HT1 HZ
  go_wp2_with fail
  refine HT1.out.mono ?_
  rintro r w3 ⟨F3, rfl, hF3, hv3, hc3⟩
  have HX3 := Lib.hid (HX.out.chg hc3 (fun h => by have := HLc.out _ h; omega))
  have hcc : Chg Fc w w3 := (Chg.of_below HB1.out : Chg Fc w W1).trans hc3 (fun i hi => .inl hi)
  have HC3 := Lib.hid hcc
  have HG3 := Lib.hid (HGP.out w3 hcc)
  have HV3 := Lib.hid hv3
  have HF3 : Hid (∀ j, F3 j → Fc j ∨ w.heap.size ≤ j) := Lib.hid (fun j hj => by
   rcases hF3 j hj with h | h
   ·exact .inl h
   ·exact .inr (Nat.le_trans HB1.out.size h))
  clear hF3 hv3 hc3 hcc HGP HT1 HX HB1 y0 y1 y2 y3 y4 y5 y6
  obtain ⟨y0, y1, y2, y3, y4, y5, y6⟩ := ev_facts HX3.out
  obtain ⟨Y, hY⟩ : ∃ Y : Int, (if sp.part = 0 then (8 : Int) else 0) = Y := ⟨_, rfl⟩
  have hZY : Z = Y := by rw [HZ.out, if_neg (by decide), hY]
  rw [hY] at HG3
  clear HZ hY
  subst hZY
  go_wp2_with fail
  refine HG3.out.mono ?_
  rintro r w5 ⟨F5, rfl, hF5, hg5, hc5⟩
  have HD5 : Hid (∀ j, F5 j → (Fg j ∨ w.heap.size ≤ j) ∧ ¬ F3 j) := Lib.hid (fun j hj => by
   rcases hF5 j hj with h | h
   ·refine ⟨.inl h, fun h3 => ?_⟩
    rcases HF3.out j h3 with h4 | h4
    ·exact HD.out j h h4
    ·have := HLg.out j h; omega
   ·refine ⟨.inr (Nat.le_trans HC3.out.size h), fun h3 => ?_⟩
    have := vck_lt HV3.out j h3; omega)
  have HC5 : Hid (Chg (fun j => Fc j ∨ Fg j) w w5) := Lib.hid (Chg.trans (⟨HC3.out.os, HC3.out.tape, HC3.out.output, HC3.out.size, fun j h1 h2 => HC3.out.block j h1 (fun h => h2 (.inl h))⟩ : Chg (fun j => Fc j ∨ Fg j) w w3) hc5 (fun j hj => .inl (.inr hj)))
  have HV5 := Lib.hid (vck_aside HV3.out hc5 (fun j h3 hj => by
   rcases HF3.out j h3 with h4 | h4
   ·exact HD.out j hj h4
   ·have := HLg.out j hj; omega))
  have HG5 := Lib.hid hg5
  clear hF5 hg5 hc5 HG3 HX3 HC3 HV3 y0 y1 y2 y3 y4 y5 y6
  go_wp2
  go_returns
  exact ⟨F3, F5, rfl, fun _ hp => ⟨HV5.out, by rw [← HA.out hp]; exact HG5.out⟩, HF3.out, HD5.out, HC5.out⟩
 ·rw [hbad] at HT1 HZ
  have hZ7 : Z = 7 := HZ.out
  subst hZ7
  clear HZ
  go_wp2_with fail
  refine HT1.out.mono ?_
  rintro r w3 ⟨F3, rfl, hF3, hv3, hc3⟩
  have HC3 : Hid (Chg (fun j => Fc j ∨ Fg j) w w3) := Lib.hid ((Chg.of_below HB1.out : Chg (fun j => Fc j ∨ Fg j) w W1).trans hc3 (fun j hj => .inl (.inl hj)))
  have HF3 : Hid (∀ j, F3 j → Fc j ∨ w.heap.size ≤ j) := Lib.hid (fun j hj => by
   rcases hF3 j hj with h | h
   ·exact .inl h
   ·exact .inr (Nat.le_trans HB1.out.size h))
  clear hF3 hv3 hc3 HGP HT1 HX HB1 y0 y1 y2 y3 y4 y5 y6
  go_wp2
  go_returns
  exact ⟨F3, fun _ => False, rfl, fun h => (by rw [hbad] at h; cases h), HF3.out, fun _ h => h.elim, HC3.out⟩
set_option maxRecDepth 100000 in
set_option maxHeartbeats 40000000 in
theorem gWhole_any (b : ByteArray) (depth : Int) (w : World) (hs : b.size ≤ 900000) (hd : -9223372036854775808 ≤ depth ∧ depth ≤ 9223372036854775807) :
  Calls Try.prog 5 #[.string b, .int .i64 depth] w fun e w' => e = .returned (.tuple #[.int .i64 (gramW b depth).1, .int .i64 (gramW b depth).2]) ∧ Below w.heap.size w w' := by
 obtain ⟨L, E, P, hw⟩ : ∃ L e p, evW b depth = (L, e, p) := ⟨_, _, _, rfl⟩
 have hm : b.size ≤ maxLen := by unfold maxLen; omega
 have hln := evW_len b depth
 rw [hw] at hln
 have hln : L.length ≤ 900000 := by have h : L.length ≤ b.size := hln; omega
 have HFt := Lib.hid (evW_fits hm hw)
 have HFn := Lib.hid (evW_fine hm hw).1
 have HKi := Lib.hid (evW_fine hm hw).2
 have HCs := Lib.hid (evW_cans hw (evW_fine hm hw).2)
 have HW := Lib.hid hw
 have HMx := Lib.hid hm
 obtain ⟨V, hV⟩ : ∃ V, gramW b depth = V := ⟨_, rfl⟩
 have HV := Lib.hid hV
 rw [hV]
 clear hV hw hm
 obtain ⟨d, hdd⟩ : ∃ d, evMost depth = d := ⟨_, rfl⟩
 have HD := Lib.hid hdd
 have HA0 := Lib.hid (allTo_zero b depth)
 have HN1 := Lib.hid (fun (w1 : World) (hb : Below w.heap.size w w1) => evSpec.new_on depth hd hb)
 rw [hdd] at HN1
 clear hdd
 go_enter Try.func5, Try.ntmps5
 go_wp2_with fail
 refine (HN1.out _ (Below.refl w.heap.size w)).mono ?_
 rintro e1 w1 ⟨km, Fm, rfl, hm1, _⟩
 have HM1 := Lib.hid hm1
 clear hm1 HN1
 go_wp2_with fail
 refine (new_v _).mono ?_
 rintro r w2 ⟨kc, Fc, rfl, hFc, hVc, hb⟩
 have HM2 := Lib.hid (HM1.out.step evSpec hb)
 have HV2 := Lib.hid hVc
 have HG2 : Hid (∀ j, Fc j → w.heap.size ≤ j ∧ ¬ Fm j) := Lib.hid (fun j hj => ⟨Nat.le_trans HM1.out.bel.size (hFc j hj), fun f => by have := evSpec.lt HM1.out.at_ _ f; have := hFc j hj; omega⟩)
 clear hb hFc hVc HM1
 go_wp2_with fail
 refine (gNew_any _).mono ?_
 rintro r w3 ⟨kg, Fg, rfl, hFg, hGg, hb⟩
 have HM3 := Lib.hid (HM2.out.step evSpec hb)
 have HV3 := Lib.hid (vck_aside HV2.out (Chg.of_below hb : Chg (fun _ => False) w2 w3) (fun _ _ h => h))
 have HD3 := Lib.hid hGg
 have HE3 : Hid (∀ j, Fg j → w.heap.size ≤ j ∧ ¬ Fm j ∧ ¬ Fc j) := Lib.hid (fun j hj => ⟨Nat.le_trans HM2.out.bel.size (hFg j hj), fun f => by have := evSpec.lt HM2.out.at_ _ f; have := hFg j hj; omega, fun f => by have := vck_lt HV2.out j f; have := hFg j hj; omega⟩)
 have HP0 : Hid (0 ≤ (partsG L).length) := Lib.hid (Nat.zero_le _)
 clear hb hFg hGg HM2 HV2
 go_wp2_with fail
 go_loopg [21] b.size (fun gk iv wr => ∃ (i A : Nat) (Gm Gc Gg : Nat → Prop) (m : EM), iv = .int .i64 (i : Int) ∧ i ≤ b.size ∧ b.size - i ≤ gk ∧ A ≤ L.length ∧ Hid (allTo b depth i = some (m, L.take A)) ∧ Hid (MOn MAt w wr km Gm d m) ∧ Hid (VCk wr kc Gc (VS.run VS.new (L.take A))) ∧ Hid ((VS.run VS.new (L.take A)).bad = false) ∧ Hid (∀ j, Gc j → w.heap.size ≤ j ∧ ¬ Gm j) ∧ Hid (GAt wr kg Gg (some (GS.new.run (L.take A)))) ∧ Hid (∀ j, Gg j → w.heap.size ≤ j ∧ ¬ Gm j ∧ ¬ Gc j) ∧ Hid (A ≤ (partsG L).length))
 case atStart => exact ⟨0, 0, Fm, Fc, Fg, EM.new, rfl, by omega, by omega, Nat.zero_le _, HA0, HM3, HV3, Lib.hid rfl, HG2, HD3, HE3, HP0⟩
 case round =>
  clear HA0 HM3 HV3 HG2 HD3 HE3 HP0
  obtain ⟨i, A, Gm, Gc, Gg, m, rfl, hi, hgk, hA, HA, HM, HC, HN, HG, HR, HS, HT⟩ := hrel
  obtain ⟨hat, hov⟩ := allTo_at hi HA.out
  by_cases hlt : i < b.size
  ·have hlt2 : (i : Int) < (b.size : Int) := by omega
   have hbt := get_bt b i hlt
   obtain ⟨x, hx⟩ : ∃ x, bt b i = x := ⟨_, rfl⟩
   have hx0 := bt_nonneg b i
   have hx1 := bt_le b i
   rw [hx] at hbt hx0 hx1
   obtain ⟨er, l, m', hst⟩ : ∃ er l m', m.step d x = (er, l, m') := ⟨_, _, _, rfl⟩
   have HP := Lib.hid (evSpec.push_on HM.out x hx0 hx1 (by omega) hst)
   have hst2 : m.step (evMost depth) (bt b i) = (er, l, m') := by rw [HD.out, hx]; exact hst
   obtain ⟨hre, hrk⟩ := whole_round HW.out hlt hA HA.out hst2
   by_cases he : er = 0
   ·subst he
    obtain ⟨hk1, hk2, hk3⟩ := hrk rfl
    have HA' := Lib.hid hk2
    have HL' := Lib.hid hk3
    have HA1 := Lib.hid hk1
    clear hre hrk hk2 hk3 hst hst2 hov hx hk1
    go_wp2_with fail
    refine HP.out.mono ?_
    rintro r w4 ⟨o1, n1, c1, F3, rfl, he3, hn3, hm3, hf3, hc3⟩
    subst hn3
    have HE3 := Lib.hid he3
    have HM3 := Lib.hid hm3
    have HC3 := Lib.hid (vck_aside HC.out hc3 (fun j hj => (HG.out j hj).2))
    have HG3 : Hid (∀ j, Gc j → w.heap.size ≤ j ∧ ¬ F3 j ∧ ∀ g, (Value.slice o1 l.length c1).ownBlock = some g → j ≠ g) := Lib.hid (fun j hj => by
     have hj1 := vck_lt HC.out j hj
     refine ⟨(HG.out j hj).1, fun f => ?_, fun g hg e => ?_⟩
     ·rcases hf3 j f with h | h
      ·exact (HG.out j hj).2 h
      ·omega
     ·have := (he3.lt g hg).1
      omega)
    have HR3 : Hid (GAt w4 kg Gg (some (GS.new.run (L.take (A + 0))))) := Lib.hid (gat_aside HR.out hc3 (fun j hj => (HS.out j hj).2.1))
    have HS3 : Hid (∀ j, Gg j → w.heap.size ≤ j ∧ ¬ F3 j ∧ ¬ Gc j ∧ ∀ g, (Value.slice o1 l.length c1).ownBlock = some g → j ≠ g) := Lib.hid (fun j hj => by
     have hj1 := HR.out.1 j hj
     refine ⟨(HS.out j hj).1, fun f => ?_, (HS.out j hj).2.2, fun g hg e => ?_⟩
     ·rcases hf3 j f with h | h
      ·exact (HS.out j hj).2.1 h
      ·omega
     ·have := (he3.lt g hg).1
      omega)
    have HT3 : Hid (A + 0 ≤ (partsG L).length) := HT
    have HN3 : Hid ((VS.run VS.new (L.take (A + 0))).bad = false) := HN
    have hln2 : l.length ≤ 900000 := by have := HA1.out; omega
    clear he3 hm3 hf3 hc3 HP HC HG HM HN HA hbt HR HS HT
    generalize wr.heap.size = B1 at *
    go_wp2_with fail
    go_loopg [38] l.length (fun gj jv wr => ∃ (j : Nat) (G H : Nat → Prop), jv = .int .i64 (j : Int) ∧ j ≤ l.length ∧ l.length - j ≤ gj ∧ Hid (MOn MAt w wr km F3 d m') ∧ Hid (VCk wr kc G (VS.run VS.new (L.take (A + j)))) ∧ Hid ((VS.run VS.new (L.take (A + j))).bad = false) ∧ Hid (Evs wr B1 (.slice o1 l.length c1) l) ∧ Hid (∀ y, G y → w.heap.size ≤ y ∧ ¬ F3 y ∧ ∀ g, (Value.slice o1 l.length c1).ownBlock = some g → y ≠ g) ∧ Hid (GAt wr kg H (some (GS.new.run (L.take (A + j))))) ∧ Hid (∀ y, H y → w.heap.size ≤ y ∧ ¬ F3 y ∧ ¬ G y ∧ ∀ g, (Value.slice o1 l.length c1).ownBlock = some g → y ≠ g) ∧ Hid (A + j ≤ (partsG L).length))
    case atStart => exact ⟨0, Gc, Gg, rfl, by omega, by omega, HM3, HC3, HN3, HE3, HG3, HR3, HS3, HT3⟩
    case round =>
     clear HM3 HC3 HN3 HE3 HG3 HR3 HS3 HT3
     obtain ⟨j, G, H, rfl, hj, hgj, HM, HC, HN, HE, HG, HR, HS, HT⟩ := hrel
     by_cases hjl : j < l.length
     ·have hjl2 : (j : Int) < (l.length : Int) := by omega
      obtain ⟨g, c, hv, hc1, hcm, hgw⟩ : ∃ g c, Value.slice o1 l.length c1 = .slice (some ⟨g, 0, none⟩) l.length c ∧ l.length ≤ c ∧ c ≤ maxLen ∧ g < wr.heap.size := by
       rcases HE.out.shape with ⟨_, hh⟩ | hh
       ·rw [hh] at hjl; simp at hjl
       ·obtain ⟨g, c, q1, q2, q3, _, q4⟩ := hh
        exact ⟨g, c, q1, q2, q3, q4⟩
      injection hv with e1 _ e3
      subst e1 e3
      obtain ⟨⟨x0, x1, x2, x3, x4, x5, x6⟩, he⟩ : ∃ e, l[j] = e := ⟨_, rfl⟩
      have hLj := HL'.out j hjl
      rw [he] at hLj
      obtain ⟨hok, hfit, hnx, hvf⟩ := step_ev HFt.out hLj HN.out
      obtain ⟨u1, u2, u3, u4, u5, u6, u7⟩ := gram_ev HFt.out HFn.out HCs.out hLj HN.out HT.out
      have HL7 := Lib.hid (fun h => gram_at HW.out hLj (u5 h))
      have HL8 := Lib.hid (fun h h' => gram_at HW.out hLj (u6 h h'))
      have HKj := HKi.out _ (List.mem_of_getElem? hLj)
      obtain ⟨y0, y1, y2, y3, y4, y5, y6⟩ := HE.out.evAt j hjl he
      have HFit := Lib.hid hfit
      have HOk := Lib.hid hok
      have HNx := Lib.hid hnx
      have HU1 := Lib.hid u1
      have HU2 := Lib.hid u2
      have HU3 := Lib.hid u3
      have HU4 := Lib.hid u4
      have HU7 := Lib.hid u7
      have hc1' : j < c1 := by omega
      clear hok hfit hnx hvf he hLj u1 u2 u3 u4 u5 u6 u7
      go_upto_region 11 with (fail)
      have HX : Hid (Row (wr.alloc (.cells #[.int .i64 x0, .int .i64 x1, .int .i64 x2, .int .i64 x3, .bool x4, .int .i64 x5, .int .u8 x6] 34)) wr.heap.size 34 (evC ⟨x0, x1, x2, x3, x4, x5, x6⟩)) := Lib.hid (Row.new wr 34 (evC ⟨x0, x1, x2, x3, x4, x5, x6⟩))
      have hbb : Below wr.heap.size wr (wr.alloc (.cells #[.int .i64 x0, .int .i64 x1, .int .i64 x2, .int .i64 x3, .bool x4, .int .i64 x5, .int .u8 x6] 34)) := (Below.refl _ _).alloc (Nat.le_refl _) _
      have HC5 := Lib.hid (vck_aside HC.out (Chg.of_below hbb) (F' := fun _ => False) (fun _ _ h => h))
      have HR5 := Lib.hid (gat_aside HR.out (Chg.of_below hbb) (F' := fun _ => False) (fun _ _ h => h))
      have HE5 := Lib.hid (HE.out.below hbb)
      have HM5 := Lib.hid (HM.out.step evSpec hbb)
      have hgW : g < (wr.alloc (.cells #[.int .i64 x0, .int .i64 x1, .int .i64 x2, .int .i64 x3, .bool x4, .int .i64 x5, .int .u8 x6] 34)).heap.size := Nat.lt_of_lt_of_le hgw hbb.size
      have hxb : wr.heap.size < (wr.alloc (.cells #[.int .i64 x0, .int .i64 x1, .int .i64 x2, .int .i64 x3, .bool x4, .int .i64 x5, .int .u8 x6] 34)).heap.size := HX.out.lt
      have HGx : Hid (∀ y, G y ∨ H y → y ≠ wr.heap.size) := Lib.hid (fun y hy => by
       rcases hy with h | h
       ·have := vck_lt HC.out y h; omega
       ·have := HR.out.1 y h; omega)
      clear hbb HC HE HM HR y0 y1 y2 y3 y4 y5 y6
      generalize wr.alloc (.cells #[.int .i64 x0, .int .i64 x1, .int .i64 x2, .int .i64 x3, .bool x4, .int .i64 x5, .int .u8 x6] 34) = W at *
      generalize wr.heap.size = bx at *
      obtain ⟨k0, k1, k2, k3, k4, k5, k6⟩ := ev_facts HX.out
      obtain ⟨Z, hZ⟩ : ∃ Z : Int, Z = if ((VS.run VS.new (L.take (A + j))).next ⟨x0, x1, x2, x3, x4, x5, x6⟩).bad = true then 7 else if ((GS.new.run (L.take (A + j))).push ⟨x0, x1, x2, x3, x4, x5, x6⟩).part = 0 then 8 else 0 := ⟨_, rfl⟩
      have HP := Lib.hid (gLook_any _ HC5.out HOk.out HFit.out HR5.out (fun y hy => (HS.out y hy).2.2.1) HU1.out HU2.out HKj HU3.out hZ)
      have hZ3 : Z = 0 ∧ ((VS.run VS.new (L.take (A + j))).next ⟨x0, x1, x2, x3, x4, x5, x6⟩).bad = false ∧ ((GS.new.run (L.take (A + j))).push ⟨x0, x1, x2, x3, x4, x5, x6⟩).part ≠ 0 ∨ Z ≠ 0 ∧ V = (Z, x1) := by
       cases hbd : ((VS.run VS.new (L.take (A + j))).next ⟨x0, x1, x2, x3, x4, x5, x6⟩).bad
       ·rw [hbd, if_neg (by decide)] at hZ
        by_cases hp0 : ((GS.new.run (L.take (A + j))).push ⟨x0, x1, x2, x3, x4, x5, x6⟩).part = 0
        ·rw [if_pos hp0] at hZ
         right
         have h := HL8.out hbd hp0
         rw [HV.out] at h
         exact ⟨by omega, by rw [hZ]; exact h⟩
        ·rw [if_neg hp0] at hZ
         exact .inl ⟨hZ, rfl, hp0⟩
       ·rw [hbd, if_pos rfl] at hZ
        right
        have h := HL7.out hbd
        rw [HV.out] at h
        exact ⟨by omega, by rw [hZ]; exact h⟩
      clear hZ HL7 HL8 HFit HOk HU1 HU2 HU3
      rcases hZ3 with ⟨rfl, hgood, hp0⟩ | ⟨hZn, hVV⟩
      ·have HN6 : Hid ((VS.run VS.new (L.take (A + (j + 1)))).bad = false) := Lib.hid (by rw [← Nat.add_assoc, HNx.out]; exact hgood)
       have HT6 : Hid (A + (j + 1) ≤ (partsG L).length) := Lib.hid (by rw [← Nat.add_assoc]; exact HU7.out hp0)
       clear HN HT HU7
       go_wp2_with fail
       refine HP.out.mono ?_
       rintro r w5 ⟨F5, F6, rfl, hvg, hF5, hF6, hc5⟩
       obtain ⟨hV5, hG5⟩ := hvg hgood hp0
       have HE6 := Lib.hid (HE5.out.chg hc5 (fun y hy hG => by
        rcases hG with h | h
        ·exact (HG.out y h).2.2 y hy rfl
        ·exact (HS.out y h).2.2.2 y hy rfl))
       have HM6 := Lib.hid (HM5.out.beside evSpec hc5 (fun y hf hg => by
        rcases hg with h | h
        ·exact (HG.out y h).2.1 hf
        ·exact (HS.out y h).2.1 hf) (fun y hy => by
        rcases hy with h | h
        ·exact (HG.out y h).1
        ·exact (HS.out y h).1))
       have HG6 : Hid (∀ y, F5 y → w.heap.size ≤ y ∧ ¬ F3 y ∧ ∀ g', (Value.slice (some ⟨g, 0, none⟩) l.length c1).ownBlock = some g' → y ≠ g') := Lib.hid (fun y hy => by
        rcases hF5 y hy with h | h
        ·exact HG.out y h
        ·refine ⟨Nat.le_trans HM5.out.bel.size h, fun f => ?_, fun g' hg' he => ?_⟩
         ·have := evSpec.lt HM5.out.at_ _ f
          omega
         ·have hj2 : g = g' := by injection hg'
          omega)
       have HS6 : Hid (∀ y, F6 y → w.heap.size ≤ y ∧ ¬ F3 y ∧ ¬ F5 y ∧ ∀ g', (Value.slice (some ⟨g, 0, none⟩) l.length c1).ownBlock = some g' → y ≠ g') := Lib.hid (fun y hy => by
        obtain ⟨h1, h2⟩ := hF6 y hy
        rcases h1 with h | h
        ·exact ⟨(HS.out y h).1, (HS.out y h).2.1, h2, (HS.out y h).2.2.2⟩
        ·refine ⟨Nat.le_trans HM5.out.bel.size h, fun f => ?_, h2, fun g' hg' he => ?_⟩
         ·have := evSpec.lt HM5.out.at_ _ f
          omega
         ·have hj2 : g = g' := by injection hg'
          omega)
       have HV6 := Lib.hid hV5
       rw [← HNx.out, Nat.add_assoc] at HV6
       have HR6 := Lib.hid hG5
       rw [← HU4.out, Nat.add_assoc] at HR6
       clear hc5 hF5 hF6 hV5 hG5 hvg HE5 HM5 HG HS HP k0 k1 k2 k3 k4 k5 k6 HX HC5 HR5 HNx HU4
       go_wp2_with fail
       go_roundg (l.length - (j + 1))
       case measure => omega
       case rel => exact ⟨j + 1, F5, F6, by simp, by omega, by omega, HM6, HV6, HN6, HE6, HG6, HR6, HS6, HT6⟩
      ·have hne : (Z != 0) = true := by simpa using hZn
       have HVV := Lib.hid hVV
       clear HC5 HR5 HNx HU4 HU7 hVV HN HT
       go_wp2_with fail
       refine HP.out.mono ?_
       rintro r w5 ⟨F5, F6, rfl, _, _, _, hc5⟩
       have HX5 := HX.out.chg hc5 (fun h => HGx.out _ h rfl)
       have HB6 := hc5.to_below HM5.out.bel (fun y hy => by
        rcases hy with h | h
        ·exact (HG.out y h).1
        ·exact (HS.out y h).1)
       clear hc5 HP HX HG HS HM5 HE5 k0 k1 k2 k3 k4 k5 k6
       obtain ⟨k0, k1, k2, k3, k4, k5, k6⟩ := ev_facts HX5
       go_wp2_with fail
       go_quiet (fail)
       go_wp2
       go_returns
       exact ⟨rets2 (congrArg (Value.int .i64) (show Z = V.1 by rw [HVV.out])) (congrArg (Value.int .i64) (show x1 = V.2 by rw [HVV.out])), HB6.trans (draws_below' _ _ HB6.size)⟩
     ·have hjl2 : ¬ (j : Int) < (l.length : Int) := by omega
      obtain rfl : j = l.length := by omega
      have HG7 : Hid (∀ y, G y → w.heap.size ≤ y ∧ ¬ F3 y) := Lib.hid (fun y hy => ⟨(HG.out y hy).1, (HG.out y hy).2.1⟩)
      have HS7 : Hid (∀ y, H y → w.heap.size ≤ y ∧ ¬ F3 y ∧ ¬ G y) := Lib.hid (fun y hy => ⟨(HS.out y hy).1, (HS.out y hy).2.1, (HS.out y hy).2.2.1⟩)
      clear HE HG HS
      go_wp2_with fail
      go_roundg (b.size - (i + 1))
      case measure => omega
      case rel => exact ⟨i + 1, A + l.length, F3, G, H, m', by simp, by omega, by omega, HA1.out, HA', HM, HC, HN, HG7, HR, HS7, HT⟩
   ·have hVV := gram_stop HMx.out HW.out (hre he) HN.out HT.out
    rw [HV.out] at hVV
    have HVV := Lib.hid hVV
    have hne : (er != 0) = true := by simpa using he
    clear hre hrk hst hst2 hov hx he hVV HG HC HN HA HR HS HT
    go_wp2_with fail
    refine HP.out.mono ?_
    rintro r w3 ⟨o1, n1, c1, F3, rfl, he3, hn3, hm3, hf3, hc3⟩
    have HB := hm3.bel
    clear he3 hn3 hm3 hf3 hc3 HP HM
    go_wp2
    go_returns
    exact ⟨rets2 (congrArg (Value.int .i64) (show er = V.1 by rw [HVV.out])) (congrArg (Value.int .i64) (show (i : Int) = V.2 by rw [HVV.out])), HB⟩
  ·have hlt2 : ¬ (i : Int) < (b.size : Int) := by omega
   obtain rfl : i = b.size := by omega
   have hVV := gram_end HMx.out HW.out hA HA.out HN.out HT.out
   rw [HV.out] at hVV
   have HVV := Lib.hid hVV
   have HDn := Lib.hid (evSpec.done_on HM.out)
   clear hVV HG HC HN HA hov HR HS HT
   generalize m.done = dn at *
   go_wp2_with fail
   refine HDn.out.mono ?_
   rintro r w3 ⟨rfl, hm3, _⟩
   have HB := hm3.bel
   clear hm3 HDn HM
   cases dn
   ·go_wp2
    go_returns
    exact ⟨rets2 (congrArg (Value.int .i64) (show (2 : Int) = V.1 by rw [HVV.out]; rfl)) (congrArg (Value.int .i64) (show (b.size : Int) = V.2 by rw [HVV.out])), HB⟩
   ·go_wp2
    go_returns
    exact ⟨rets2 (congrArg (Value.int .i64) (show (0 : Int) = V.1 by rw [HVV.out]; rfl)) (congrArg (Value.int .i64) (show (b.size : Int) = V.2 by rw [HVV.out])), HB⟩
theorem gramSpec : GramSpec GAt where
 lt := fun h i hi => h.1 i hi
 aside := gat_aside
 new := gNew_any
 push := fun e h hne hl _ hk _ hc => gPush_any e h hne hl hk hc
 dead := fun e h _ _ => gDead_any e h
 whole := gWhole_any
end Go.Proofs.Ytiiimhamfibdbaa
/- The document's fixed answers, of the landed grammar. -/
namespace Go.Proofs.Ytiiimhamfibdbaa
open Go.RowKit
theorem awake20_is (w : World) :
  Calls Try.prog 4 #[] w fun e w' => e = .returned (.bool true) ∧ Below w.heap.size w w' := awake20_any gramSpec w
end Go.Proofs.Ytiiimhamfibdbaa
