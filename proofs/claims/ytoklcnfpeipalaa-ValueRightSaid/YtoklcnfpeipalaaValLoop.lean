/- What value's Whole gives: the landed code's contract. Of every text of at most 900000 bytes and every depth. -/
import Derived.Test.YtoklcnfpeipalaaValPush
namespace Go.Proofs.Ytoklcnfpeipalaa
open Go.RowKit Go.PlainAid
set_option linter.unusedVariables false
theorem vck_lt {w : World} {k : Nat} {F : Nat → Prop} {s : VS} (h : VCk w k F s) : ∀ i, F i → i < w.heap.size := by obtain ⟨_, _, _, _, h4, _⟩ := h; exact h4
theorem whole_end {b : ByteArray} {dep : Int} {L : List Ev} {E : Int} {P : Nat} (hs : b.size ≤ maxLen) (hw : evW b dep = (L, E, P)) {m : EM} {A : Nat} (hA : A ≤ L.length) (ha : allTo b dep b.size = some (m, L.take A)) (hn : (VS.run VS.new (L.take A)).bad = false) : valW b dep = ((if m.done = true then 0 else 2), (b.size : Int)) := by
  have h := allTo_end ha
  rw [hw] at h
  simp only [Prod.mk.injEq] at h
  obtain ⟨h1, h2, h3⟩ := h
  rw [← h1] at hn
  rw [valW_all hs hw hn, h2, h3]
theorem whole_stop {b : ByteArray} {dep : Int} {L : List Ev} {E : Int} {P : Nat} (hs : b.size ≤ maxLen) (hw : evW b dep = (L, E, P)) {A i : Nat} {er : Int} (h : E = er ∧ P = i ∧ A = L.length) (hn : (VS.run VS.new (L.take A)).bad = false) : valW b dep = (er, (i : Int)) := by
  obtain ⟨rfl, rfl, rfl⟩ := h
  rw [List.take_length] at hn
  exact valW_all hs hw hn
set_option maxRecDepth 100000 in
set_option maxHeartbeats 40000000 in
theorem whole_v (b : ByteArray) (depth : Int) (w : World) (hs : b.size ≤ 900000) (hd : -9223372036854775808 ≤ depth ∧ depth ≤ 9223372036854775807) :
    Calls Try.prog 6 #[.string b, .int .i64 depth] w fun e w' => e = .returned (.tuple #[.int .i64 (valW b depth).1, .int .i64 (valW b depth).2]) ∧ Below w.heap.size w w' := by
  obtain ⟨L, E, P, hw⟩ : ∃ L e p, evW b depth = (L, e, p) := ⟨_, _, _, rfl⟩
  have hm : b.size ≤ maxLen := by unfold maxLen; omega
  have hln := evW_len b depth
  rw [hw] at hln
  have hln : L.length ≤ 900000 := by have h : L.length ≤ b.size := hln; omega
  have HFt := Lib.hid (evW_fits hm hw)
  have HW := Lib.hid hw
  have HMx := Lib.hid hm
  obtain ⟨V, hV⟩ : ∃ V, valW b depth = V := ⟨_, rfl⟩
  have HV := Lib.hid hV
  rw [hV]
  clear hV hw hm
  obtain ⟨d, hdd⟩ : ∃ d, evMost depth = d := ⟨_, rfl⟩
  have HD := Lib.hid hdd
  have HA0 := Lib.hid (allTo_zero b depth)
  have HN1 := Lib.hid (fun (w1 : World) (hb : Below w.heap.size w w1) => evSpec.new_on depth hd hb)
  rw [hdd] at HN1
  clear hdd
  go_enter Try.func6, Try.ntmps6
  go_wp2_with fail
  refine (HN1.out _ (Below.refl w.heap.size w)).mono ?_
  rintro e1 w1 ⟨km, Fm, rfl, hm1, _⟩
  have HM1 := Lib.hid hm1
  clear hm1 HN1
  go_wp2_with fail
  refine (new_v _).mono ?_
  rintro r w2 ⟨kc, Fc, rfl, hFc, hVc, hb⟩
  have HM2 := Lib.hid (HM1.out.step evSpec hb)
  have HV2 := Lib.hid hVc
  have HG2 : Hid (∀ j, Fc j → w.heap.size ≤ j ∧ ¬ Fm j) := Lib.hid (fun j hj => ⟨Nat.le_trans HM1.out.bel.size (hFc j hj), fun f => by have := evSpec.lt HM1.out.at_ _ f; have := hFc j hj; omega⟩)
  clear hb hFc hVc HM1
  go_wp2_with fail
  go_loopg [19] b.size (fun gk iv wr => ∃ (i A : Nat) (Gm Gc : Nat → Prop) (m : EM), iv = .int .i64 (i : Int) ∧ i ≤ b.size ∧ b.size - i ≤ gk ∧ A ≤ L.length ∧ Hid (allTo b depth i = some (m, L.take A)) ∧ Hid (MOn MAt w wr km Gm d m) ∧ Hid (VCk wr kc Gc (VS.run VS.new (L.take A))) ∧ Hid ((VS.run VS.new (L.take A)).bad = false) ∧ Hid (∀ j, Gc j → w.heap.size ≤ j ∧ ¬ Gm j))
  case atStart => exact ⟨0, 0, Fm, Fc, EM.new, rfl, by omega, by omega, Nat.zero_le _, HA0, HM2, HV2, Lib.hid rfl, HG2⟩
  case round =>
    clear HA0 HM2 HV2 HG2
    obtain ⟨i, A, Gm, Gc, m, rfl, hi, hgk, hA, HA, HM, HC, HN, HG⟩ := hrel
    obtain ⟨hat, hov⟩ := allTo_at hi HA.out
    by_cases hlt : i < b.size
    · have hlt2 : (i : Int) < (b.size : Int) := by omega
      have hbt := get_bt b i hlt
      obtain ⟨x, hx⟩ : ∃ x, bt b i = x := ⟨_, rfl⟩
      have hx0 := bt_nonneg b i
      have hx1 := bt_le b i
      rw [hx] at hbt hx0 hx1
      obtain ⟨er, l, m', hst⟩ : ∃ er l m', m.step d x = (er, l, m') := ⟨_, _, _, rfl⟩
      have HP := Lib.hid (evSpec.push_on HM.out x hx0 hx1 (by omega) hst)
      have hst2 : m.step (evMost depth) (bt b i) = (er, l, m') := by rw [HD.out, hx]; exact hst
      obtain ⟨hre, hrk⟩ := whole_round HW.out hlt hA HA.out hst2
      by_cases he : er = 0
      · subst he
        obtain ⟨hk1, hk2, hk3⟩ := hrk rfl
        have HA' := Lib.hid hk2
        have HL' := Lib.hid hk3
        have HA1 := Lib.hid hk1
        clear hre hrk hk2 hk3 hst hst2 hov hx hk1
        go_wp2_with fail
        refine HP.out.mono ?_
        rintro r w3 ⟨o1, n1, c1, F3, rfl, he3, hn3, hm3, hf3, hc3⟩
        subst hn3
        have HE3 := Lib.hid he3
        have HM3 := Lib.hid hm3
        have HC3 := Lib.hid (vck_aside HC.out hc3 (fun j hj => (HG.out j hj).2))
        have HG3 : Hid (∀ j, Gc j → w.heap.size ≤ j ∧ ¬ F3 j ∧ ∀ g, (Value.slice o1 l.length c1).ownBlock = some g → j ≠ g) := Lib.hid (fun j hj => by
          have hj1 := vck_lt HC.out j hj
          refine ⟨(HG.out j hj).1, fun f => ?_, fun g hg e => ?_⟩
          · rcases hf3 j f with h | h
            · exact (HG.out j hj).2 h
            · omega
          · have := (he3.lt g hg).1
            omega)
        have HN3 : Hid ((VS.run VS.new (L.take (A + 0))).bad = false) := HN
        have hln2 : l.length ≤ 900000 := by have := HA1.out; omega
        clear he3 hm3 hf3 hc3 HP HC HG HM HN HA hbt
        generalize wr.heap.size = B1 at *
        go_wp2_with fail
        go_loopg [36] l.length (fun gj jv wr => ∃ (j : Nat) (G : Nat → Prop), jv = .int .i64 (j : Int) ∧ j ≤ l.length ∧ l.length - j ≤ gj ∧ Hid (MOn MAt w wr km F3 d m') ∧ Hid (VCk wr kc G (VS.run VS.new (L.take (A + j)))) ∧ Hid ((VS.run VS.new (L.take (A + j))).bad = false) ∧ Hid (Evs wr B1 (.slice o1 l.length c1) l) ∧ Hid (∀ y, G y → w.heap.size ≤ y ∧ ¬ F3 y ∧ ∀ g, (Value.slice o1 l.length c1).ownBlock = some g → y ≠ g))
        case atStart => exact ⟨0, Gc, rfl, by omega, by omega, HM3, HC3, HN3, HE3, HG3⟩
        case round =>
          clear HM3 HC3 HN3 HE3 HG3
          obtain ⟨j, G, rfl, hj, hgj, HM, HC, HN, HE, HG⟩ := hrel
          by_cases hjl : j < l.length
          · have hjl2 : (j : Int) < (l.length : Int) := by omega
            obtain ⟨g, c, hv, hc1, hcm, hgw⟩ : ∃ g c, Value.slice o1 l.length c1 = .slice (some ⟨g, 0, none⟩) l.length c ∧ l.length ≤ c ∧ c ≤ maxLen ∧ g < wr.heap.size := by
              rcases HE.out.shape with ⟨_, hh⟩ | hh
              · rw [hh] at hjl; simp at hjl
              · obtain ⟨g, c, q1, q2, q3, _, q4⟩ := hh
                exact ⟨g, c, q1, q2, q3, q4⟩
            injection hv with e1 _ e3
            subst e1 e3
            obtain ⟨⟨x0, x1, x2, x3, x4, x5, x6⟩, he⟩ : ∃ e, l[j] = e := ⟨_, rfl⟩
            have hLj := HL'.out j hjl
            rw [he] at hLj
            obtain ⟨hok, hfit, hnx, hvf⟩ := step_ev HFt.out hLj HN.out
            have HVe := Lib.hid (fun h => valW_ev HW.out hLj (hvf h))
            obtain ⟨y0, y1, y2, y3, y4, y5, y6⟩ := HE.out.evAt j hjl he
            have HFit := Lib.hid hfit
            have HOk := Lib.hid hok
            have HNx := Lib.hid hnx
            have hc1' : j < c1 := by omega
            clear hok hfit hnx hvf he hLj
            go_upto_region 11 with (fail)
            have HX : Hid (Row (wr.alloc (.cells #[.int .i64 x0, .int .i64 x1, .int .i64 x2, .int .i64 x3, .bool x4, .int .i64 x5, .int .u8 x6] 41)) wr.heap.size 41 (evC ⟨x0, x1, x2, x3, x4, x5, x6⟩)) := Lib.hid (Row.new wr 41 (evC ⟨x0, x1, x2, x3, x4, x5, x6⟩))
            have hbb : Below wr.heap.size wr (wr.alloc (.cells #[.int .i64 x0, .int .i64 x1, .int .i64 x2, .int .i64 x3, .bool x4, .int .i64 x5, .int .u8 x6] 41)) := (Below.refl _ _).alloc (Nat.le_refl _) _
            have HC5 := Lib.hid (vck_aside HC.out (Chg.of_below hbb) (F' := fun _ => False) (fun _ _ h => h))
            have HE5 := Lib.hid (HE.out.below hbb)
            have HM5 := Lib.hid (HM.out.step evSpec hbb)
            have hgW : g < (wr.alloc (.cells #[.int .i64 x0, .int .i64 x1, .int .i64 x2, .int .i64 x3, .bool x4, .int .i64 x5, .int .u8 x6] 41)).heap.size := Nat.lt_of_lt_of_le hgw hbb.size
            have hxb : wr.heap.size < (wr.alloc (.cells #[.int .i64 x0, .int .i64 x1, .int .i64 x2, .int .i64 x3, .bool x4, .int .i64 x5, .int .u8 x6] 41)).heap.size := HX.out.lt
            have HGx : Hid (∀ y, G y → y ≠ wr.heap.size) := Lib.hid (fun y hy => by have := vck_lt HC.out y hy; omega)
            clear hbb HC HE HM y0 y1 y2 y3 y4 y5 y6
            generalize wr.alloc (.cells #[.int .i64 x0, .int .i64 x1, .int .i64 x2, .int .i64 x3, .bool x4, .int .i64 x5, .int .u8 x6] 41) = W at *
            generalize wr.heap.size = bx at *
            obtain ⟨k0, k1, k2, k3, k4, k5, k6⟩ := ev_facts HX.out
            have HP := Lib.hid (push_v _ HC5.out HOk.out HFit.out)
            by_cases hbad : ((VS.run VS.new (L.take (A + j))).next ⟨x0, x1, x2, x3, x4, x5, x6⟩).bad = true
            · rw [if_pos hbad] at HP
              have hVV := HVe.out hbad
              rw [HV.out] at hVV
              have hVV : V = (7, x1) := hVV
              have HVV := Lib.hid hVV
              clear HFit HOk HC5 hbad HVe hVV HNx HN
              go_wp2_with fail
              refine HP.out.mono ?_
              rintro r w5 ⟨F5, rfl, hF5, hV5, hc5⟩
              have HX5 := HX.out.chg hc5 (fun h => HGx.out _ h rfl)
              have HB6 := hc5.to_below HM5.out.bel (fun y hy => (HG.out y hy).1)
              clear hc5 hF5 hV5 HP HX HG HM5 HE5 k0 k1 k2 k3 k4 k5 k6
              obtain ⟨k0, k1, k2, k3, k4, k5, k6⟩ := ev_facts HX5
              go_wp2_with fail
              go_quiet (fail)
              go_wp2
              go_returns
              exact ⟨rets2 (congrArg (Value.int .i64) (show (7 : Int) = V.1 by rw [HVV.out])) (congrArg (Value.int .i64) (show x1 = V.2 by rw [HVV.out])), HB6.trans (draws_below' _ _ HB6.size)⟩
            · rw [if_neg hbad] at HP
              have hgood : ((VS.run VS.new (L.take (A + j))).next ⟨x0, x1, x2, x3, x4, x5, x6⟩).bad = false := by simpa using hbad
              have HN6 : Hid ((VS.run VS.new (L.take (A + (j + 1)))).bad = false) := Lib.hid (by rw [← Nat.add_assoc, HNx.out]; exact hgood)
              clear HFit HOk HC5 HVe hbad hgood HN
              go_wp2_with fail
              refine HP.out.mono ?_
              rintro r w5 ⟨F5, rfl, hF5, hV5, hc5⟩
              have HE6 := Lib.hid (HE5.out.chg hc5 (fun y hy hG => (HG.out y hG).2.2 y hy rfl))
              have HM6 := Lib.hid (HM5.out.beside evSpec hc5 (fun y hf hg => (HG.out y hg).2.1 hf) (fun y hy => (HG.out y hy).1))
              have HG6 : Hid (∀ y, F5 y → w.heap.size ≤ y ∧ ¬ F3 y ∧ ∀ g', (Value.slice (some ⟨g, 0, none⟩) l.length c1).ownBlock = some g' → y ≠ g') := Lib.hid (fun y hy => by
                rcases hF5 y hy with h | h
                · exact HG.out y h
                · refine ⟨Nat.le_trans HM5.out.bel.size h, fun f => ?_, fun g' hg' he => ?_⟩
                  · have := evSpec.lt HM5.out.at_ _ f
                    omega
                  · have hj2 : g = g' := by injection hg'
                    omega)
              have HV6 := Lib.hid hV5
              rw [← HNx.out, Nat.add_assoc] at HV6
              clear hc5 hF5 hV5 HE5 HM5 HG HP k0 k1 k2 k3 k4 k5 k6 HX
              go_wp2_with fail
              go_roundg (l.length - (j + 1))
              case measure => omega
              case rel => exact ⟨j + 1, F5, by simp, by omega, by omega, HM6, HV6, HN6, HE6, HG6⟩
          · have hjl2 : ¬ (j : Int) < (l.length : Int) := by omega
            obtain rfl : j = l.length := by omega
            have HG7 : Hid (∀ y, G y → w.heap.size ≤ y ∧ ¬ F3 y) := Lib.hid (fun y hy => ⟨(HG.out y hy).1, (HG.out y hy).2.1⟩)
            clear HE HG
            go_wp2_with fail
            go_roundg (b.size - (i + 1))
            case measure => omega
            case rel => exact ⟨i + 1, A + l.length, F3, G, m', by simp, by omega, by omega, HA1.out, HA', HM, HC, HN, HG7⟩
      · have hVV := whole_stop HMx.out HW.out (hre he) HN.out
        rw [HV.out] at hVV
        have HVV := Lib.hid hVV
        have hne : (er != 0) = true := by simpa using he
        clear hre hrk hst hst2 hov hx he hVV HG HC HN HA
        go_wp2_with fail
        refine HP.out.mono ?_
        rintro r w3 ⟨o1, n1, c1, F3, rfl, he3, hn3, hm3, hf3, hc3⟩
        have HB := hm3.bel
        clear he3 hn3 hm3 hf3 hc3 HP HM
        go_wp2
        go_returns
        exact ⟨rets2 (congrArg (Value.int .i64) (show er = V.1 by rw [HVV.out])) (congrArg (Value.int .i64) (show (i : Int) = V.2 by rw [HVV.out])), HB⟩
    · have hlt2 : ¬ (i : Int) < (b.size : Int) := by omega
      obtain rfl : i = b.size := by omega
      have hVV := whole_end HMx.out HW.out hA HA.out HN.out
      rw [HV.out] at hVV
      have HVV := Lib.hid hVV
      have HDn := Lib.hid (evSpec.done_on HM.out)
      clear hVV HG HC HN HA hov
      generalize m.done = dn at *
      go_wp2_with fail
      refine HDn.out.mono ?_
      rintro r w3 ⟨rfl, hm3, _⟩
      have HB := hm3.bel
      clear hm3 HDn HM
      cases dn
      · go_wp2
        go_returns
        exact ⟨rets2 (congrArg (Value.int .i64) (show (2 : Int) = V.1 by rw [HVV.out]; rfl)) (congrArg (Value.int .i64) (show (b.size : Int) = V.2 by rw [HVV.out])), HB⟩
      · go_wp2
        go_returns
        exact ⟨rets2 (congrArg (Value.int .i64) (show (0 : Int) = V.1 by rw [HVV.out]; rfl)) (congrArg (Value.int .i64) (show (b.size : Int) = V.2 by rw [HVV.out])), HB⟩
theorem valSpec : ValSpec VCk where
  lt := fun h i hi => by obtain ⟨_, _, _, _, h4, _⟩ := h; exact h4 i hi
  aside := vck_aside
  new := new_v
  push := push_v
  whole := whole_v
end Go.Proofs.Ytoklcnfpeipalaa
