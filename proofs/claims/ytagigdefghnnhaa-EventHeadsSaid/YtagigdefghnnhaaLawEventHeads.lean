/- Of every text of at most 300 bytes (of others the law asks only for the fixed answers): a whole element is its events, one by one: each head put again, and each byte of content. No condition but the form of the row. -/
import Derived.Test.YtagigdefghnnhaaEvAwake
import Derived.Test.YtagigdefghnnhaaEvHeads
import Derived.Test.YtagigdefghnnhaaRows
import Derived.Deep.CutRange
import Derived.Deep.QuietTactic
import Derived.BigQuiet
import Derived.WalkKit
import Derived.ProofKit
import Derived.OpenShut
import Derived.ShutString
import Derived.ChangeOld
import Derived.Below
namespace Go.Proofs.Ytagigdefghnnhaa
open Go.ChangeShapes Go.WideShapes Go.ChangeAt Go.RowKit
open Go.ChangeMaps (open_string shut_string)
open Go.PlainAid
set_option linter.unusedVariables false
set_option maxRecDepth 100000 in
set_option maxHeartbeats 4000000 in
theorem walkEventHeads (a0 : ByteArray) (b0 : a0.size ≤ maxLen) (w : World) :
    Calls Try.prog 9 #[.string a0] w fun e w' => e = .returned (.bool true) ∧ Below w.heap.size w w' := by
  have HG := Lib.hid (great_any a0 b0)
  by_cases hl : (300 : Int) < (a0.size : Int)
  · rw [show decide ((300 : Int) < (a0.size : Int)) = true by simpa using hl] at HG
    clear hl b0
    go_enter Try.func9, Try.ntmps9
    go_wp2_with fail
    refine (awake09_any _).mono ?_
    rintro e w1 ⟨rfl, hB1⟩
    go_wp2_with fail
    refine (HG.out _).mono ?_
    rintro e w2 ⟨rfl, rfl⟩
    go_wp2_with fail
    refine (awake09_any _).mono ?_
    rintro e w3 ⟨rfl, hb⟩
    have hB2 := hB1.trans (hb.mono hB1.size)
    go_wp2
    go_returns
    exact ⟨rfl, hB2⟩
  · rw [show decide ((300 : Int) < (a0.size : Int)) = false by simpa using hl] at HG
    have hs : a0.size ≤ 300 := by omega
    obtain ⟨L, E, P, hw⟩ : ∃ L e p, evW a0 64 = (L, e, p) := ⟨_, _, _, rfl⟩
    obtain ⟨hna, hnf⟩ := evW_heads hw
    have HC := Lib.hid (fun w => evSpec.whole_is a0 64 (by omega) (by decide) hw w)
    have hLn : L.length ≤ 300 := by have := evW_len a0 64; rw [hw] at this; simp only at this; omega
    by_cases hE : E = 0
    · subst hE
      have HA0 : Hid (HOK [] (L.drop 0)) := Lib.hid hna
      have HR0 : Hid ([] ++ outL (L.drop 0) = bl a0) := Lib.hid (hnf rfl)
      clear hl b0 hw hna hnf
      go_enter Try.func9, Try.ntmps9
      go_wp2_with fail
      refine (awake09_any _).mono ?_
      rintro e w1 ⟨rfl, hB1⟩
      go_wp2_with fail
      refine (HG.out _).mono ?_
      rintro e' w0 ⟨rfl, hw0⟩
      subst hw0
      go_wp2_with fail
      refine (HC.out _).mono ?_
      rintro r w3 ⟨o1, n1, c1, rfl, he1, hn1, hb⟩
      have hB3 := hB1.trans (hb.mono hB1.size)
      have HE1 := Lib.hid he1
      clear hb he1 hB1
      subst hn1
      go_wp2_with fail
      go_loopg [6, 28] L.length (fun gk sv iv wr => ∃ (i : Nat) (O : List Int), sv = .string (strOfNums O) ∧ iv = .int .i64 (i : Int) ∧ i ≤ L.length ∧ L.length - i ≤ gk ∧ Hid (HOK O (L.drop i)) ∧ Hid (O ++ outL (L.drop i) = bl a0) ∧ Hid (Below w3.heap.size w3 wr))
      case atStart => exact ⟨0, [], rfl, rfl, by omega, by omega, HA0, HR0, Lib.hid (Below.refl _ _)⟩
      case round =>
        obtain ⟨i, O, rfl, rfl, hi, hgk, HA, HR, HB⟩ := hrel
        by_cases hlt : i < L.length
        · have hlt2 : (i : Int) < (L.length : Int) := by omega
          have hL := HE1.out.below HB.out
          obtain ⟨g, c, hv, hc1, hcm, hgw⟩ : ∃ g c, Value.slice o1 L.length c1 = .slice (some ⟨g, 0, none⟩) L.length c ∧ L.length ≤ c ∧ c ≤ maxLen ∧ g < wr.heap.size := by
            rcases hL.shape with ⟨_, hh⟩ | hh
            · rw [hh] at hlt; simp at hlt
            · obtain ⟨g, c, q1, q2, q3, _, q4⟩ := hh
              exact ⟨g, c, q1, q2, q3, q4⟩
          injection hv with v1 _ v3
          subst v1 v3
          obtain ⟨e, he⟩ : ∃ e, L[i] = e := ⟨_, rfl⟩
          have hD : L.drop i = e :: L.drop (i + 1) := by rw [List.drop_eq_getElem_cons hlt, he]
          have hA := HA.out
          have hR := HR.out
          rw [hD] at hA hR
          obtain ⟨⟨g1, g2⟩, hA⟩ := hA
          have hR : O ++ (outE e ++ outL (L.drop (i + 1))) = bl a0 := hR
          obtain ⟨x0, x1, x2, x3, x4, x5, x6⟩ := e
          obtain ⟨y0, y1, y2, y3, y4, y5, y6⟩ := hL.evAt i hlt he
          have hc1' : i < c1 := by omega
          simp only at g1 g2
          clear hL he hD
          have HB4 : Hid (Below w3.heap.size w3 (wr.alloc (evO ⟨x0, x1, x2, x3, x4, x5, x6⟩))) := Lib.hid (HB.out.alloc HB.out.size _)
          have hX : wr.alloc (.cells #[.int .i64 x0, .int .i64 x1, .int .i64 x2, .int .i64 x3, .bool x4, .int .i64 x5, .int .u8 x6] 42) = wr.alloc (evO ⟨x0, x1, x2, x3, x4, x5, x6⟩) := rfl
          have HE4 : Hid (Row (wr.alloc (evO ⟨x0, x1, x2, x3, x4, x5, x6⟩)) wr.heap.size 42 (evC ⟨x0, x1, x2, x3, x4, x5, x6⟩)) := Lib.hid (Row.new wr 42 (evC ⟨x0, x1, x2, x3, x4, x5, x6⟩))
          go_upto_region 10 with (fail)
          clear hX y0 y1 y2 y3 y4 y5 y6 HB
          generalize wr.alloc (evO ⟨x0, x1, x2, x3, x4, x5, x6⟩) = W at *
          generalize wr.heap.size = kx at *
          obtain ⟨z0, z1, z2, z3, z4, z5, z6⟩ := ev_facts HE4.out
          by_cases h1 : x0 = 1
          · subst h1
            obtain ⟨hok, hat⟩ := g1 (by decide)
            have hO1 : outE ⟨1, x1, x2, x3, x4, x5, x6⟩ = hdPut x2 x3 x4 x5 := rfl
            rw [hO1] at hA hR hat
            have hln := (hdOk_iff.1 hok).2
            have hlb : 0 ≤ x5 ∧ x5 ≤ 2305843009213693951 := by unfold lenOk at hln; simpa using hln
            have hps := hpS_ok (k := x4) hok
            have hpe : hpE x2 x3 x5 = 0 := hpE_ok.2 hok
            have HP := Lib.hid (fun w => refHeadPut_all x2 x3 x4 x5 ⟨by omega, by omega⟩ w)
            rw [hps, hpe] at HP
            have HA2 := Lib.hid hA
            have HR2 : Hid (O ++ hdPut x2 x3 x4 x5 ++ outL (L.drop (i + 1)) = bl a0) := Lib.hid (by rw [List.append_assoc]; exact hR)
            have hlen : (O ++ hdPut x2 x3 x4 x5).length ≤ 300 := by
              have := congrArg List.length HR2.out
              rw [List.length_append, bl_length] at this
              omega
            have hsz1 : (strOfNums O).size ≤ 300 := by rw [strOfNums_size]; rw [List.length_append] at hlen; omega
            have hsz2 : (strOfNums (hdPut x2 x3 x4 x5)).size ≤ 300 := by rw [strOfNums_size]; rw [List.length_append] at hlen; omega
            have HJ : Hid (strOfNums O ++ strOfNums (hdPut x2 x3 x4 x5) = strOfNums (O ++ hdPut x2 x3 x4 x5)) := Lib.hid (strOfNums_append _ _).symm
            have hsz3 : ((strOfNums (O ++ hdPut x2 x3 x4 x5)).size : Int) = x1 + 1 := by rw [strOfNums_size, hat]; omega
            clear hok hln hlb hps hpe hA hR hat hO1 g1 g2 HA HR
            generalize hH : hdPut x2 x3 x4 x5 = H at *
            clear hH
            go_upto_region 13 with fail
            go_wp2_with fail
            refine (HP.out _).mono ?_
            rintro r w5 ⟨rfl, hb5⟩
            have HE5 := Lib.hid (Row.below HE4.out hb5 HE4.out.lt)
            have HB5 := Lib.hid (HB4.out.trans (hb5.mono HB4.out.size))
            clear hb5 HE4 HB4 z0 z1 z2 z3 z4 z5 z6 HP
            obtain ⟨z0, z1, z2, z3, z4, z5, z6⟩ := ev_facts HE5.out
            go_upto_region 17 with fail
            rw [HJ.out]
            clear HJ
            generalize hS : strOfNums (O ++ H) = s at *
            have HS := Lib.hid hS
            clear hS
            have hx1 : x1 = (s.size : Int) - 1 := by omega
            have hs300 : s.size ≤ 300 := by rw [← HS.out, strOfNums_size]; exact hlen
            subst hx1
            clear hsz3
            go_wp2_with fail
            go_roundg (L.length - (i + 1))
            case measure => omega
            case rel => exact ⟨i + 1, O ++ H, by rw [HS.out], by simp, by omega, by omega, HA2, HR2, HB5⟩
          · by_cases h2 : x0 = 2
            · subst h2
              obtain ⟨hok, hat⟩ := g1 (by decide)
              have hO1 : outE ⟨2, x1, x2, x3, x4, x5, x6⟩ = hdPut x2 x3 x4 x5 := rfl
              rw [hO1] at hA hR hat
              have hln := (hdOk_iff.1 hok).2
              have hlb : 0 ≤ x5 ∧ x5 ≤ 2305843009213693951 := by unfold lenOk at hln; simpa using hln
              have hps := hpS_ok (k := x4) hok
              have hpe : hpE x2 x3 x5 = 0 := hpE_ok.2 hok
              have HP := Lib.hid (fun w => refHeadPut_all x2 x3 x4 x5 ⟨by omega, by omega⟩ w)
              rw [hps, hpe] at HP
              have HA2 := Lib.hid hA
              have HR2 : Hid (O ++ hdPut x2 x3 x4 x5 ++ outL (L.drop (i + 1)) = bl a0) := Lib.hid (by rw [List.append_assoc]; exact hR)
              have hlen : (O ++ hdPut x2 x3 x4 x5).length ≤ 300 := by
                have := congrArg List.length HR2.out
                rw [List.length_append, bl_length] at this
                omega
              have hsz1 : (strOfNums O).size ≤ 300 := by rw [strOfNums_size]; rw [List.length_append] at hlen; omega
              have hsz2 : (strOfNums (hdPut x2 x3 x4 x5)).size ≤ 300 := by rw [strOfNums_size]; rw [List.length_append] at hlen; omega
              have HJ : Hid (strOfNums O ++ strOfNums (hdPut x2 x3 x4 x5) = strOfNums (O ++ hdPut x2 x3 x4 x5)) := Lib.hid (strOfNums_append _ _).symm
              have hsz3 : ((strOfNums (O ++ hdPut x2 x3 x4 x5)).size : Int) = x1 + 1 := by rw [strOfNums_size, hat]; omega
              clear hok hln hlb hps hpe hA hR hat hO1 g1 g2 HA HR
              generalize hH : hdPut x2 x3 x4 x5 = H at *
              clear hH
              go_upto_region 13 with fail
              go_wp2_with fail
              refine (HP.out _).mono ?_
              rintro r w5 ⟨rfl, hb5⟩
              have HE5 := Lib.hid (Row.below HE4.out hb5 HE4.out.lt)
              have HB5 := Lib.hid (HB4.out.trans (hb5.mono HB4.out.size))
              clear hb5 HE4 HB4 z0 z1 z2 z3 z4 z5 z6 HP
              obtain ⟨z0, z1, z2, z3, z4, z5, z6⟩ := ev_facts HE5.out
              go_upto_region 17 with fail
              rw [HJ.out]
              clear HJ
              generalize hS : strOfNums (O ++ H) = s at *
              have HS := Lib.hid hS
              clear hS
              have hx1 : x1 = (s.size : Int) - 1 := by omega
              have hs300 : s.size ≤ 300 := by rw [← HS.out, strOfNums_size]; exact hlen
              subst hx1
              clear hsz3
              go_wp2_with fail
              go_roundg (L.length - (i + 1))
              case measure => omega
              case rel => exact ⟨i + 1, O ++ H, by rw [HS.out], by simp, by omega, by omega, HA2, HR2, HB5⟩
            · by_cases h3 : x0 = 3
              · subst h3
                have hO1 : outE ⟨3, x1, x2, x3, x4, x5, x6⟩ = [x6] := rfl
                rw [hO1] at hA hR
                have HA2 := Lib.hid hA
                have HR2 : Hid (O ++ [x6] ++ outL (L.drop (i + 1)) = bl a0) := Lib.hid (by rw [List.append_assoc]; exact hR)
                have hlen : (O ++ [x6]).length ≤ 300 := by
                  have := congrArg List.length HR2.out
                  rw [List.length_append, bl_length] at this
                  omega
                have hsz1 : (strOfNums O).size ≤ 300 := by rw [strOfNums_size]; rw [List.length_append] at hlen; omega
                have hsz2 : (strOfNums [x6]).size = 1 := by rw [strOfNums_size]; rfl
                have HJ : Hid (strOfNums O ++ strOfNums [x6] = strOfNums (O ++ [x6])) := Lib.hid (strOfNums_append _ _).symm
                have hcv := conv_at x6
                have HB5 := Lib.hid (HB4.out.alloc HB4.out.size (.cells #[.int .u8 x6] 5))
                clear hA hR hO1 g1 g2 HA HR
                go_wp2_with fail
                rw [HJ.out]
                go_roundg (L.length - (i + 1))
                case measure => omega
                case rel => exact ⟨i + 1, O ++ [x6], rfl, by simp, by omega, by omega, HA2, HR2, HB5⟩
              · have hO1 : outE ⟨x0, x1, x2, x3, x4, x5, x6⟩ = [] := by unfold outE; simp [h1, h2, h3]
                rw [hO1, List.append_nil] at hA
                rw [hO1, List.nil_append] at hR
                have HA2 := Lib.hid hA
                have HR2 := Lib.hid hR
                clear hA hR hO1 g1 g2 HA HR
                go_wp2_with fail
                go_roundg (L.length - (i + 1))
                case measure => omega
                case rel => exact ⟨i + 1, O, rfl, by simp, by omega, by omega, HA2, HR2, HB4⟩
        · have hlt2 : ¬ (i : Int) < (L.length : Int) := by omega
          have hie : i = L.length := by omega
          have hR := HR.out
          rw [hie, List.drop_length] at hR
          have hR : O ++ [] = bl a0 := hR
          rw [List.append_nil] at hR
          subst hR
          rw [str_bl]
          have hBel := hB3.trans (HB.out.mono hB3.size)
          clear HA HR HB HA0 HR0 HC HE1
          go_wp2_with fail
          go_returns
          exact ⟨rfl, hBel⟩
    · have hEb : (E != 0) = true := by simpa using hE
      clear hl b0 hw hna hnf
      go_enter Try.func9, Try.ntmps9
      go_wp2_with fail
      refine (awake09_any _).mono ?_
      rintro e w1 ⟨rfl, hB1⟩
      go_wp2_with fail
      refine (HG.out _).mono ?_
      rintro e' w0 ⟨rfl, hw0⟩
      subst hw0
      go_wp2_with fail
      refine (HC.out _).mono ?_
      rintro r w3 ⟨o1, n1, c1, rfl, he1, hn1, hb⟩
      have hB3 := hB1.trans (hb.mono hB1.size)
      have HE1 := Lib.hid he1
      clear hb he1 hB1
      subst hn1
      go_wp2_with fail
      go_returns
      exact ⟨rfl, hB3⟩


/-! ### EventHeads: the step from the walk to the statement -/
namespace eventHeads
theorem own : ownKnob Try.prog.godebug = none := by kernel_rfl
set_option maxRecDepth 100000 in
theorem lifted (os : Os) (started : os.Started) (H : Type) (enc : TypeId × Value → H) :
    ReturnsInHanded {} Try.checked os 9 .any (Rows.eventHeadsSpec.pre6 enc Try.prog Try.f9 Rows.eventHeadsRow.domain false) (Rows.eventHeadsSpec.post enc Try.prog Try.f9 false true false false) := by
  refine returnsInHanded_of_change (C := Try.checked) own started (by kernel_rfl) Try.func9
    (ChangeSpec.witness6 (enc := enc) (C := Try.checked) false ⟨#[], #[.string ByteArray.empty], []⟩ 8 (by kernel_rfl) (by kernel_rfl) (by kernel_rfl) (by kernel_rfl)) ?_
  intro W base args ds gs before hval0 hW hcnd _
  have hval : ∀ (j : Nat) t v, Try.f9.params[j]? = some t → args[j]? = some v → Value.okWide Try.prog W .any base t v := hval0
  have hW' := hW
  obtain ⟨p, q, hA0, hV, rfl, hfz, hnd⟩ := hW
  have hA : DataW.TrodAll enc Try.prog W 0 (fun _ => true) true Try.f9.params.toList args.toList ds p := hA0
  rw [Try.params9] at hA hval
  obtain ⟨v0, vs0, d0, ds0, p0, q0, hargs, rfl, rfl, h0, r0⟩ := trodAll_cons hA
  obtain ⟨rfl, rfl, rfl⟩ := trodAll_nil r0
  obtain rfl : args = #[v0] := by cases args; simp_all
  obtain ⟨rfl, rfl⟩ := trodVars_none hV
  obtain ⟨a0, rfl, rfl, rfl, w0⟩ := open_string Try.underlying9 (hval 0 9 v0 rfl rfl) h0
  clear hA0 hval0
  simp only [List.append_nil] at hW'
  refine (walkEventHeads a0 w0 W).mono fun e W' ⟨he, bel⟩ => ?_
  subst he
  exact ⟨_, rfl, _, _, _, [], [], [], hW', trodAll_mk1 (shut_bool Try.underlying4 _), (trodAll_cons_mk (shut_string Try.underlying9 w0) trodAll_mk0), rfl, bel.frame _, fun h => by cases h⟩
theorem over : Rows.eventHeadsRow.holds Try.pinned (OpenSpec.ofChange Rows.eventHeadsSpec) :=
  OpenClaim.holds_of_wide 9 Try.f9 rfl rfl rfl rfl rfl rfl rfl ⟨rfl, rfl, rfl, rfl, rfl⟩ rfl rfl rfl rfl rfl (by kernel_rfl) Try.func9 (by kernel_rfl)
    (of_decide_eq_true (by kernel_rfl)) (by unfold Func.isWrapper; first | (rw [if_pos (by decide +kernel)]; kernel_rfl) | (rw [if_neg (by decide +kernel)]; exact ⟨rfl, rfl⟩))
    (fun os started H enc _ => lifted os started H enc)
/-- THE STATEMENT. -/
theorem proved : Rows.EventHeadsSaid := over
end eventHeads
end Go.Proofs.Ytagigdefghnnhaa
