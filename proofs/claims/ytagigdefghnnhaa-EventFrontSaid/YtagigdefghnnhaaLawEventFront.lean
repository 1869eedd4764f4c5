/- Of every text of at most 300 bytes (of others the law asks only for the fixed answers), every number and depth: a beginning of the text brings about the events that its bytes bring about of all of it. No condition but the form of the row. -/
import Derived.Test.YtagigdefghnnhaaEvAwake
import Derived.Test.YtagigdefghnnhaaEvFront
import Derived.Test.YtagigdefghnnhaaRows
import Derived.Deep.Cut
import Derived.Deep.QuietTactic
import Derived.BigQuiet
import Derived.WalkKit
import Derived.ProofKit
import Derived.OpenShut
import Derived.ShutString
import Derived.ChangeOld
import Derived.Below
namespace Go.Proofs.Ytagigdefghnnhaa
open Go.ChangeShapes Go.WideShapes Go.ChangeAt Go.RowKit
open Go.ChangeMaps (open_string shut_string)
set_option linter.unusedVariables false
set_option maxRecDepth 100000 in
set_option maxHeartbeats 4000000 in
theorem walkEventFront (a0 : ByteArray) (a1 : Int) (a2 : Int) (b0 : a0.size ≤ maxLen) (b1 : -9223372036854775808 ≤ a1 ∧ a1 ≤ 9223372036854775807) (b2 : -9223372036854775808 ≤ a2 ∧ a2 ≤ 9223372036854775807) (w : World) :
    Calls Try.prog 5 #[.string a0, .int .i64 a1, .int .i64 a2] w fun e w' => e = .returned (.bool true) ∧ Below w.heap.size w w' := by
  have HG := Lib.hid (great_any a0 b0)
  by_cases hl : (300 : Int) < (a0.size : Int)
  · rw [show decide ((300 : Int) < (a0.size : Int)) = true by simpa using hl] at HG
    clear hl b0 b1 b2
    go_enter Try.func5, Try.ntmps5
    go_wp2_with fail
    refine (awake09_any _).mono ?_
    rintro e w1 ⟨rfl, hB1⟩
    go_wp2_with fail
    refine (HG.out _).mono ?_
    rintro e w2 ⟨rfl, rfl⟩
    go_wp2_with fail
    refine (awake09_any _).mono ?_
    rintro e w3 ⟨rfl, hb⟩
    have hB2 := hB1.trans (hb.mono hB1.size)
    go_wp2
    go_returns
    exact ⟨rfl, hB2⟩
  · rw [show decide ((300 : Int) < (a0.size : Int)) = false by simpa using hl] at HG
    by_cases hc : 0 ≤ a1 ∧ a1 ≤ (a0.size : Int)
    · obtain ⟨g1, g2⟩ := hc
      obtain ⟨k, rfl⟩ := Int.eq_ofNat_of_zero_le g1
      have hk : k ≤ a0.size := by omega
      have hs : a0.size ≤ 300 := by omega
      obtain ⟨L, E, P, hw⟩ : ∃ L e p, evW a0 a2 = (L, e, p) := ⟨_, _, _, rfl⟩
      obtain ⟨L', E', P', hw'⟩ : ∃ L e p, evW (a0.extract 0 k) a2 = (L, e, p) := ⟨_, _, _, rfl⟩
      obtain ⟨hf1, hf2, hf3⟩ := evW_front hk hw hw'
      have HLN := evW_len a0 a2
      rw [hw] at HLN
      have hLn : L.length ≤ 100000000 := by have h := HLN; simp only at h; omega
      have HC := Lib.hid (fun w => evSpec.whole_is a0 a2 (by omega) b2 hw w)
      have HK := Lib.hid (fun w => evSpec.whole_is (a0.extract 0 k) a2 (by rw [ByteArray.size_extract]; omega) b2 hw' w)
      have HF1 := Lib.hid hf1
      clear hl b0 b2 hw hw' hf1 HLN
      go_enter Try.func5, Try.ntmps5
      go_wp2_with fail
      refine (awake09_any _).mono ?_
      rintro e w1 ⟨rfl, hB1⟩
      go_wp2_with fail
      refine (HG.out _).mono ?_
      rintro e' w0 ⟨rfl, hw0⟩
      subst hw0
      go_wp2_with fail
      refine (HC.out _).mono ?_
      rintro r w2 ⟨o1, n1, c1, rfl, he1, hn1, hb⟩
      have hB2 := hB1.trans (hb.mono hB1.size)
      have HE1 := Lib.hid he1
      clear hb he1 hB1
      subst hn1
      go_wp2_with fail
      refine (HK.out _).mono ?_
      rintro r w3 ⟨o2, n2, c2, rfl, he2, hn2, hb⟩
      have hB3 := hB2.trans (hb.mono hB2.size)
      have HE2 := Lib.hid (HE1.out.below hb)
      have HE3 := Lib.hid he2
      clear hb he2 hB2 HE1
      subst hn2
      go_wp2_with fail
      go_loopg [13, 51] L.length (fun gk gv iv wr => ∃ (i : Nat) (og : Option Addr) (ng cg : Nat), gv = .slice og ng cg ∧ iv = .int .i64 (i : Int) ∧ i ≤ L.length ∧ L.length - i ≤ gk ∧ Hid (Evs wr w3.heap.size (.slice og ng cg) ((L.take i).filter (fun e => decide (e.at_ < (k : Int))))) ∧ Hid (Below w3.heap.size w3 wr))
      case atStart => exact ⟨0, none, 0, 0, rfl, rfl, by omega, by omega, Lib.hid (Evs.nil _ _), Lib.hid (Below.refl _ _)⟩
      case round =>
        obtain ⟨i, og, ng, cg, rfl, rfl, hi, hgk, HG, HB⟩ := hrel
        by_cases hlt : i < L.length
        · have hlt2 : (i : Int) < (L.length : Int) := by omega
          have hL := HE2.out.below HB.out
          obtain ⟨g, c, hv, hc1, hcm, hgw⟩ : ∃ g c, Value.slice o1 L.length c1 = .slice (some ⟨g, 0, none⟩) L.length c ∧ L.length ≤ c ∧ c ≤ maxLen ∧ g < wr.heap.size := by
            rcases hL.shape with ⟨_, hh⟩ | hh
            · rw [hh] at hlt; simp at hlt
            · obtain ⟨g, c, q1, q2, q3, _, q4⟩ := hh
              exact ⟨g, c, q1, q2, q3, q4⟩
          injection hv with v1 _ v3
          subst v1 v3
          obtain ⟨⟨x0, x1, x2, x3, x4, x5, x6⟩, he⟩ : ∃ e, L[i] = e := ⟨_, rfl⟩
          have HLen : Hid (((L.take i).filter (fun e => decide (e.at_ < (k : Int)))).length ≤ 100000000) := Lib.hid (by
            have := List.length_filter_le (fun e : Ev => decide (e.at_ < (k : Int))) (L.take i); rw [List.length_take] at this; omega)
          have HT := Lib.hid (List.take_succ_eq_append_getElem hlt)
          rw [he] at HT
          obtain ⟨y0, y1, y2, y3, y4, y5, y6⟩ := hL.evAt i hlt he
          have hc1' : i < c1 := by omega
          clear hL he
          by_cases hp : x1 < (k : Int)
          · have HF : Hid ((L.take (i + 1)).filter (fun e => decide (e.at_ < (k : Int))) = (L.take i).filter (fun e => decide (e.at_ < (k : Int))) ++ [⟨x0, x1, x2, x3, x4, x5, x6⟩]) := Lib.hid (by rw [HT.out, List.filter_append]; simp [hp])
            clear HT
            generalize (L.take i).filter (fun e => decide (e.at_ < (k : Int))) = acc at *
            go_upto_region 9 with (fail)
            have hX : wr.alloc (.cells #[.int .i64 x0, .int .i64 x1, .int .i64 x2, .int .i64 x3, .bool x4, .int .i64 x5, .int .u8 x6] 42) = wr.alloc (evO ⟨x0, x1, x2, x3, x4, x5, x6⟩) := rfl
            have HR : Hid (Row (wr.alloc (evO ⟨x0, x1, x2, x3, x4, x5, x6⟩)) wr.heap.size 42 (evC ⟨x0, x1, x2, x3, x4, x5, x6⟩)) := Lib.hid (Row.new wr 42 (evC ⟨x0, x1, x2, x3, x4, x5, x6⟩))
            have hbw : w3.heap.size ≤ wr.heap.size := HB.out.size
            have HB4 : Hid (Below w3.heap.size w3 (wr.alloc (evO ⟨x0, x1, x2, x3, x4, x5, x6⟩))) := Lib.hid (HB.out.alloc hbw _)
            have HG4 := Lib.hid (HG.out.below (w' := wr.alloc (evO ⟨x0, x1, x2, x3, x4, x5, x6⟩)) ((Below.refl _ _).alloc (Nat.le_refl _) _))
            have hWs : (wr.alloc (evO ⟨x0, x1, x2, x3, x4, x5, x6⟩)).heap.size = wr.heap.size + 1 := by simp
            rw [hX]
            clear hX HG HB y0 y1 y2 y3 y4 y5 y6
            generalize wr.alloc (evO ⟨x0, x1, x2, x3, x4, x5, x6⟩) = W at *
            obtain ⟨k0, k1, k2, k3, k4, k5, k6⟩ := ev_facts HR.out
            have hwW : w3.heap.size ≤ W.heap.size := by omega
            have HBW := Lib.hid (fun (X : World) (h : Below W.heap.size W X) => HB4.out.trans (h.mono hwW))
            have HN4 : Hid (Evs (W.alloc (evO ⟨x0, x1, x2, x3, x4, x5, x6⟩)) W.heap.size (.slice (some ⟨W.heap.size, 0, none⟩) 1 1) [⟨x0, x1, x2, x3, x4, x5, x6⟩]) := Lib.hid (by
              refine ⟨rfl, .inr ⟨W.heap.size, 1, (evC ⟨x0, x1, x2, x3, x4, x5, x6⟩).toArray, rfl, Nat.le_refl _, ?_, Nat.le_refl _, by unfold maxLen; omega, rfl, rfl⟩⟩
              exact Row.new W 42 (evC ⟨x0, x1, x2, x3, x4, x5, x6⟩))
            have HG5 := Lib.hid (HG4.out.below (w' := W.alloc (evO ⟨x0, x1, x2, x3, x4, x5, x6⟩)) ((Below.refl _ _).alloc (Nat.le_refl _) _))
            have HB5 := Lib.hid (HB4.out.alloc hwW (evO ⟨x0, x1, x2, x3, x4, x5, x6⟩))
            go_wp2_with (at_builtin; refine wpList_append_evs rfl (.tmp 59) (.tmp 61) rfl w3.heap.size rfl (l1 := acc) ?h1 rfl (l2 := [⟨x0, x1, x2, x3, x4, x5, x6⟩]) (base2 := W.heap.size) ?h2 ?h3 ?h4 ?h5)
            case h1 => exact HG5.out
            case h2 => rw [← hWs]; exact HN4.out
            case h3 => omega
            case h4 => have := HLen.out; omega
            intro v6 w6 he6 hg6 hob6
            obtain ⟨o6, n6, c6, rfl⟩ := he6.shaped
            have HE6 := Lib.hid he6
            have HB6 := Lib.hid (HB5.out.grown hg6 HB5.out.size (fun q h => (HG5.out.lt q h).1))
            clear he6 hg6 hob6
            go_wp2
            go_roundg (L.length - (i + 1))
            case measure => omega
            case rel => exact ⟨i + 1, o6, n6, c6, rfl, by simp, by omega, by omega, Lib.hid (by rw [HF.out]; exact HE6.out), HB6⟩
          · have HF : Hid ((L.take (i + 1)).filter (fun e => decide (e.at_ < (k : Int))) = (L.take i).filter (fun e => decide (e.at_ < (k : Int)))) := Lib.hid (by rw [HT.out, List.filter_append]; simp [hp])
            clear HT
            go_wp2_with fail
            go_roundg (L.length - (i + 1))
            case measure => omega
            case rel => exact ⟨i + 1, og, ng, cg, rfl, by simp, by omega, by omega, Lib.hid (by rw [HF.out]; exact HG.out.below ((Below.refl _ _).alloc (Nat.le_refl _) _)), Lib.hid (HB.out.alloc HB.out.size _)⟩
        · have hlt2 : ¬ (i : Int) < (L.length : Int) := by omega
          have hie : i = L.length := by omega
          have hLw : (L.take i).filter (fun e => decide (e.at_ < (k : Int))) = L' := by rw [hie, List.take_length]; exact HF1.out
          have HSm : Hid (Calls Try.prog 15 #[.slice o2 L'.length c2, .slice og ng cg] wr fun r w' => r = .returned (.bool true) ∧ ∃ m, w' = wr.drewN m) := Lib.hid (refSame_any (HE3.out.below HB.out) (hLw ▸ HG.out) (by rw [← hLw]; have := List.length_filter_le (fun e : Ev => decide (e.at_ < (k : Int))) (L.take i); rw [List.length_take] at this; omega))
          have hBel := hB3.trans (HB.out.mono hB3.size)
          have hle : (P' : Int) ≤ (k : Int) := by omega
          clear HG HB HE2 HE3 HF1 hLw hie
          have hcs : (P' : Int) < (k : Int) ∨ (¬ (P' : Int) < (k : Int) ∧ E' = 0) ∨ (¬ (P' : Int) < (k : Int) ∧ E' = 2) := by omega
          clear hf2 hf3
          rcases hcs with hq | ⟨hq, rfl⟩ | ⟨hq, rfl⟩
          all_goals
            go_wp2_with fail
            refine HSm.out.mono ?_
            rintro r w9 ⟨rfl, nq, rfl⟩
            go_wp2
            go_returns
            exact ⟨rfl, hBel.trans (draws_below' _ nq hBel.size)⟩
    · have hcw : a1 < 0 ∨ (0 ≤ a1 ∧ (a0.size : Int) < a1) := by omega
      clear hl b0 b2 hc
      rcases hcw with g1 | ⟨g1, g2⟩
      all_goals
        go_enter Try.func5, Try.ntmps5
        go_wp2_with fail
        refine (awake09_any _).mono ?_
        rintro e w1 ⟨rfl, hB1⟩
        go_wp2_with fail
        refine (HG.out _).mono ?_
        rintro e w2 ⟨rfl, rfl⟩
        go_wp2_with fail
        refine (awake09_any _).mono ?_
        rintro e w3 ⟨rfl, hb⟩
        have hB2 := hB1.trans (hb.mono hB1.size)
        go_wp2
        go_returns
        exact ⟨rfl, hB2⟩


/-! ### EventFront: the step from the walk to the statement -/
namespace eventFront
theorem own : ownKnob Try.prog.godebug = none := by kernel_rfl
set_option maxRecDepth 100000 in
theorem lifted (os : Os) (started : os.Started) (H : Type) (enc : TypeId × Value → H) :
    ReturnsInHanded {} Try.checked os 5 .any (Rows.eventFrontSpec.pre6 enc Try.prog Try.f5 Rows.eventFrontRow.domain false) (Rows.eventFrontSpec.post enc Try.prog Try.f5 false true false false) := by
  refine returnsInHanded_of_change (C := Try.checked) own started (by kernel_rfl) Try.func5
    (ChangeSpec.witness6 (enc := enc) (C := Try.checked) false ⟨#[], #[.string ByteArray.empty, .int .i64 0, .int .i64 0], []⟩ 8 (by kernel_rfl) (by kernel_rfl) (by kernel_rfl) (by kernel_rfl)) ?_
  intro W base args ds gs before hval0 hW hcnd _
  have hval : ∀ (j : Nat) t v, Try.f5.params[j]? = some t → args[j]? = some v → Value.okWide Try.prog W .any base t v := hval0
  have hW' := hW
  obtain ⟨p, q, hA0, hV, rfl, hfz, hnd⟩ := hW
  have hA : DataW.TrodAll enc Try.prog W 0 (fun _ => true) true Try.f5.params.toList args.toList ds p := hA0
  rw [Try.params5] at hA hval
  obtain ⟨v0, vs0, d0, ds0, p0, q0, hargs, rfl, rfl, h0, r0⟩ := trodAll_cons hA
  obtain ⟨v1, vs1, d1, ds1, p1, q1, rfl, rfl, rfl, h1, r1⟩ := trodAll_cons r0
  obtain ⟨v2, vs2, d2, ds2, p2, q2, rfl, rfl, rfl, h2, r2⟩ := trodAll_cons r1
  obtain ⟨rfl, rfl, rfl⟩ := trodAll_nil r2
  obtain rfl : args = #[v0, v1, v2] := by cases args; simp_all
  obtain ⟨rfl, rfl⟩ := trodVars_none hV
  obtain ⟨a0, rfl, rfl, rfl, w0⟩ := open_string Try.underlying9 (hval 0 9 v0 rfl rfl) h0
  obtain ⟨a1, rfl, rfl, rfl, w1⟩ := open_int Try.underlying3 (hval 1 3 v1 rfl rfl) h1
  obtain ⟨a2, rfl, rfl, rfl, w2⟩ := open_int Try.underlying3 (hval 2 3 v2 rfl rfl) h2
  clear hA0 hval0
  simp only [List.append_nil] at hW'
  refine (walkEventFront a0 a1 a2 w0 (bounds_i64 w1) (bounds_i64 w2) W).mono fun e W' ⟨he, bel⟩ => ?_
  subst he
  exact ⟨_, rfl, _, _, _, [], [], [], hW', trodAll_mk1 (shut_bool Try.underlying4 _), (trodAll_cons_mk (shut_string Try.underlying9 w0) (trodAll_cons_mk (shut_int Try.underlying3 w1) (trodAll_cons_mk (shut_int Try.underlying3 w2) trodAll_mk0))), rfl, bel.frame _, fun h => by cases h⟩
theorem over : Rows.eventFrontRow.holds Try.pinned (OpenSpec.ofChange Rows.eventFrontSpec) :=
  OpenClaim.holds_of_wide 5 Try.f5 rfl rfl rfl rfl rfl rfl rfl ⟨rfl, rfl, rfl, rfl, rfl⟩ rfl rfl rfl rfl rfl (by kernel_rfl) Try.func5 (by kernel_rfl)
    (of_decide_eq_true (by kernel_rfl)) (by unfold Func.isWrapper; first | (rw [if_pos (by decide +kernel)]; kernel_rfl) | (rw [if_neg (by decide +kernel)]; exact ⟨rfl, rfl⟩))
    (fun os started H enc _ => lifted os started H enc)
/-- THE STATEMENT. -/
theorem proved : Rows.EventFrontSaid := over
end eventFront
end Go.Proofs.Ytagigdefghnnhaa
