/- Of every list, number and text behind (of more than the sizes that are named the law asks only for the fixed answers): what is encoded is a list; cut off anywhere it is cut off; with more behind there is more. No condition but the form of the row. -/
import Derived.Test.YtiiimhamfibdbaaGreatM7
import Derived.Test.YtiiimhamfibdbaaGreatF1
import Derived.Test.YtiiimhamfibdbaaGreatG2
import Derived.Test.YtiiimhamfibdbaaGreatC1
import Derived.Test.YtiiimhamfibdbaaGreatRows
import Derived.WalkKit
import Derived.ProofKit
import Derived.OpenShut
import Derived.ShutString
import Derived.ChangeOld
import Derived.Below
import Derived.Carry
namespace Go.Proofs.YtiiimhamfibdbaaGreat
open Go.ChangeShapes Go.WideShapes Go.ChangeAt Go.RowKit
open Go.ChangeMaps (open_string shut_string)
set_option linter.unusedVariables false
open Go.PlainAid in
set_option maxRecDepth 100000 in
set_option maxHeartbeats 16000000 in
theorem walkGrammarTakes (a0 : CrlV) (e0 : CrlR) (a1 : Int) (a2 : ByteArray) (cp0 : CrlCap a0 e0) (el0 : a0.Fits) (b1 : -9223372036854775808 ≤ a1 ∧ a1 ≤ 9223372036854775807) (b2 : a2.size ≤ maxLen) (w : World) (ca0 : CameCrl w a0 e0) :
  Calls Tryz.prog 5 #[crlV a0 e0, .int .i64 a1, .string a2] w fun e w' => e = .returned (.bool true) ∧ Below w.heap.size w w' := by
 have HK0 : Hid (Row (w.alloc (.cells #[.bool a0.v2, .slice e0.oa a0.alg.length e0.ca, .slice e0.oi a0.issuer.length e0.ci, .string a0.this, .string a0.next, .slice e0.oe a0.entries.length e0.ce, .slice e0.ox a0.exts.length e0.cx, .string a0.sig] 48)) w.heap.size 48 [.bool a0.v2, .slice e0.oa a0.alg.length e0.ca, .slice e0.oi a0.issuer.length e0.ci, .string a0.this, .string a0.next, .slice e0.oe a0.entries.length e0.ce, .slice e0.ox a0.exts.length e0.cx, .string a0.sig]) := Lib.hid (Row.new w _ [.bool a0.v2, .slice e0.oa a0.alg.length e0.ca, .slice e0.oi a0.issuer.length e0.ci, .string a0.this, .string a0.next, .slice e0.oe a0.entries.length e0.ce, .slice e0.ox a0.exts.length e0.cx, .string a0.sig])
 have HB0 : Hid (Below w.heap.size w (w.alloc (.cells #[.bool a0.v2, .slice e0.oa a0.alg.length e0.ca, .slice e0.oi a0.issuer.length e0.ci, .string a0.this, .string a0.next, .slice e0.oe a0.entries.length e0.ce, .slice e0.ox a0.exts.length e0.cx, .string a0.sig] 48))) := Lib.hid ((Below.refl _ _).alloc (Nat.le_refl _) _)
 have HC := Lib.hid ca0
 clear ca0
 unfold crlV
 go_enter Tryz.func5, Tryz.ntmps5
 go_upto_region 1 with (fail)
 generalize (w.alloc (.cells #[.bool a0.v2, .slice e0.oa a0.alg.length e0.ca, .slice e0.oi a0.issuer.length e0.ci, .string a0.this, .string a0.next, .slice e0.oe a0.entries.length e0.ce, .slice e0.ox a0.exts.length e0.cx, .string a0.sig] 48)) = w1 at *
 have HB : Hid (Below w1.heap.size w1 w1) := Lib.hid (Below.refl _ _)
 go_wp2_with fail
 refine (awake20_is w1).mono ?_
 rintro e w2 ⟨rfl, hb9⟩
 replace HB := Lib.hid (HB.out.trans (hb9.mono HB.out.size))
 clear hb9 
 have z00 : w2.cell? ⟨w.heap.size, 0, none⟩ = some (.bool a0.v2) := (HK0.out.below HB.out HK0.out.lt).cell 0
 have z01 : w2.cell? ⟨w.heap.size, 1, none⟩ = some (.slice e0.oa a0.alg.length e0.ca) := (HK0.out.below HB.out HK0.out.lt).cell 1
 have z02 : w2.cell? ⟨w.heap.size, 2, none⟩ = some (.slice e0.oi a0.issuer.length e0.ci) := (HK0.out.below HB.out HK0.out.lt).cell 2
 have z03 : w2.cell? ⟨w.heap.size, 3, none⟩ = some (.string a0.this) := (HK0.out.below HB.out HK0.out.lt).cell 3
 have z04 : w2.cell? ⟨w.heap.size, 4, none⟩ = some (.string a0.next) := (HK0.out.below HB.out HK0.out.lt).cell 4
 have z05 : w2.cell? ⟨w.heap.size, 5, none⟩ = some (.slice e0.oe a0.entries.length e0.ce) := (HK0.out.below HB.out HK0.out.lt).cell 5
 have z06 : w2.cell? ⟨w.heap.size, 6, none⟩ = some (.slice e0.ox a0.exts.length e0.cx) := (HK0.out.below HB.out HK0.out.lt).cell 6
 have z07 : w2.cell? ⟨w.heap.size, 7, none⟩ = some (.string a0.sig) := (HK0.out.below HB.out HK0.out.lt).cell 7
 have HG := Lib.hid (refGreat19_any a0 e0 cp0 w2 (HC.out.below (HB0.out.trans (HB.out.mono HB0.out.size))))
 cases hgr : greatC a0 with
 |true =>
  rw [hgr] at HG
  go_wp2_with fail
  refine (HG.out).mono ?_
  rintro e w3 ⟨rfl, hb9⟩
  replace HB := Lib.hid (HB.out.trans (hb9.mono HB.out.size))
  clear hb9 HG z00 z01 z02 z03 z04 z05 z06 z07
  go_wp2_with fail
  refine (awake20_is w3).mono ?_
  rintro e w4 ⟨rfl, hb9⟩
  replace HB := Lib.hid (HB.out.trans (hb9.mono HB.out.size))
  clear hb9 
  go_wp2
  go_returns
  exact ⟨rfl, HB0.out.trans (HB.out.mono HB0.out.size)⟩
 |false =>
  have HS := Lib.hid (small_of el0 hgr)
  rw [hgr] at HG
  by_cases hl : 100 < (a2.size : Int)
  ·go_wp2_with fail
   refine (HG.out).mono ?_
   rintro e w3 ⟨rfl, hb9⟩
   replace HB := Lib.hid (HB.out.trans (hb9.mono HB.out.size))
   clear hb9 HG z00 z01 z02 z03 z04 z05 z06 z07
   go_wp2_with fail
   refine (awake20_is w3).mono ?_
   rintro e w4 ⟨rfl, hb9⟩
   replace HB := Lib.hid (HB.out.trans (hb9.mono HB.out.size))
   clear hb9 
   go_wp2
   go_returns
   exact ⟨rfl, HB0.out.trans (HB.out.mono HB0.out.size)⟩
  ·go_wp2_with fail
   refine (HG.out).mono ?_
   rintro e w3 ⟨rfl, hb9⟩
   replace HB := Lib.hid (HB.out.trans (hb9.mono HB.out.size))
   clear hb9 HG z00 z01 z02 z03 z04 z05 z06 z07
   have z00 : w3.cell? ⟨w.heap.size, 0, none⟩ = some (.bool a0.v2) := (HK0.out.below HB.out HK0.out.lt).cell 0
   have z01 : w3.cell? ⟨w.heap.size, 1, none⟩ = some (.slice e0.oa a0.alg.length e0.ca) := (HK0.out.below HB.out HK0.out.lt).cell 1
   have z02 : w3.cell? ⟨w.heap.size, 2, none⟩ = some (.slice e0.oi a0.issuer.length e0.ci) := (HK0.out.below HB.out HK0.out.lt).cell 2
   have z03 : w3.cell? ⟨w.heap.size, 3, none⟩ = some (.string a0.this) := (HK0.out.below HB.out HK0.out.lt).cell 3
   have z04 : w3.cell? ⟨w.heap.size, 4, none⟩ = some (.string a0.next) := (HK0.out.below HB.out HK0.out.lt).cell 4
   have z05 : w3.cell? ⟨w.heap.size, 5, none⟩ = some (.slice e0.oe a0.entries.length e0.ce) := (HK0.out.below HB.out HK0.out.lt).cell 5
   have z06 : w3.cell? ⟨w.heap.size, 6, none⟩ = some (.slice e0.ox a0.exts.length e0.cx) := (HK0.out.below HB.out HK0.out.lt).cell 6
   have z07 : w3.cell? ⟨w.heap.size, 7, none⟩ = some (.string a0.sig) := (HK0.out.below HB.out HK0.out.lt).cell 7
   have H1 := Lib.hid (refEncode_any a0 e0 HS.out cp0 w3 (HC.out.below (HB0.out.trans (HB.out.mono HB0.out.size))))
   have HSZ : Hid (tbsE a0 = 0 → (crlS a0).size ≤ 83938) := Lib.hid (fun h => by
    unfold crlS
    rw [if_pos h, encS_size]
    exact (crlF_len HS.out (tbsE_zero h)).2)
   have HRT : Hid (tbsE a0 = 0 → gramW (crlS a0) 64 = (0, ((crlS a0).size : Int)) ∧ (∀ m : ByteArray, m.size ≠ 0 → gramW (crlS a0 ++ m) 64 = (6, ((crlS a0).size : Int))) ∧ ∀ n : Nat, n < (crlS a0).size → gramW ((crlS a0).extract 0 n) 64 = (2, (n : Int))) := Lib.hid (fun h => gram_crl HS.out h (Nat.le_trans (HSZ.out h) (by decide)))
   generalize crlS a0 = CS at *
   generalize tbsE a0 = TE at *
   go_wp2_with fail
   refine (H1.out).mono ?_
   rintro e w4 ⟨rfl, hb9⟩
   replace HB := Lib.hid (HB.out.trans (hb9.mono HB.out.size))
   clear hb9 H1 z00 z01 z02 z03 z04 z05 z06 z07
   have HF := Lib.hid (HB0.out.trans (HB.out.mono HB0.out.size))
   by_cases h0 : TE = 0
   ·obtain ⟨q1, q2, q3⟩ := HRT.out h0
    have q4 := HSZ.out h0
    subst h0
    clear HRT HSZ HK0 HC HS
    have HW1 := Lib.hid (fun W => gramSpec.whole_is CS 64 (by omega) (by decide) q1 W)
    have HW2 : Hid (∀ W, Calls Tryz.prog 11 #[.string (CS ++ a2), .int .i64 64] W fun r w' => r = .returned (.tuple #[.int .i64 (if a2.size = 0 then 0 else 6), .int .i64 (CS.size : Int)]) ∧ Below W.heap.size W w') := Lib.hid (fun W => by
     by_cases hm : a2.size = 0
     ·have he : a2 = ByteArray.empty := ByteArray.size_eq_zero_iff.1 hm
      subst he
      rw [ByteArray.append_empty]
      exact gramSpec.whole_is CS 64 (by omega) (by decide) q1 W
     ·rw [if_neg hm]
      exact gramSpec.whole_is (CS ++ a2) 64 (by rw [ByteArray.size_append]; omega) (by decide) (q2 a2 hm) W)
    have HW3 : Hid (∀ n : Nat, n < CS.size → ∀ W, Calls Tryz.prog 11 #[.string (CS.extract 0 n), .int .i64 64] W fun r w' => r = .returned (.tuple #[.int .i64 2, .int .i64 (n : Int)]) ∧ Below W.heap.size W w') := Lib.hid (fun n hn W => gramSpec.whole_is (CS.extract 0 n) 64 (by rw [ByteArray.size_extract]; omega) (by decide) (q3 n hn) W)
    clear q1 q2 q3
    go_wp2_with fail
    refine (HW1.out _).mono ?_
    rintro e w5 ⟨rfl, hb9⟩
    replace HB := Lib.hid (HB.out.trans (hb9.mono HB.out.size))
    clear hb9 HW1 HF
    go_wp2_with fail
    refine (HW2.out _).mono ?_
    rintro e w6 ⟨rfl, hb9⟩
    replace HB := Lib.hid (HB.out.trans (hb9.mono HB.out.size))
    clear hb9 HW2
    by_cases hc : 0 ≤ a1 ∧ a1 < (CS.size : Int)
    ·obtain ⟨g1, g2⟩ := hc
     obtain ⟨k, rfl⟩ := Int.eq_ofNat_of_zero_le g1
     have HW4 := Lib.hid (HW3.out k (by omega))
     have hg3 : ¬ (k : Int) < 0 := by omega
     have hg4 : ¬ (CS.size : Int) ≤ (k : Int) := by omega
     clear HW3
     rcases Nat.eq_zero_or_pos a2.size with hm | hm
     ·have he : a2 = ByteArray.empty := ByteArray.size_eq_zero_iff.1 hm
      subst he
      go_wp2_with fail
      refine (HW4.out _).mono ?_
      rintro e w7 ⟨rfl, hb9⟩
      replace HB := Lib.hid (HB.out.trans (hb9.mono HB.out.size))
      clear hb9 HW4
      go_wp2
      go_returns
      exact ⟨rfl, HB0.out.trans (HB.out.mono HB0.out.size)⟩
     ·have hm2 : ¬ a2.size = 0 := by omega
      have hm3 : ¬ a2.toList = [] := fun h => by
       rw [ByteArray.toList_eq] at h
       have h := congrArg List.length h
       simp only [Array.length_toList, List.length_nil] at h
       exact hm2 h
      rw [if_neg hm2]
      go_wp2_with fail
      refine (HW4.out _).mono ?_
      rintro e w7 ⟨rfl, hb9⟩
      replace HB := Lib.hid (HB.out.trans (hb9.mono HB.out.size))
      clear hb9 HW4
      go_wp2
      go_returns
      exact ⟨rfl, HB0.out.trans (HB.out.mono HB0.out.size)⟩
    ·have hcw : a1 < 0 ∨ (¬ a1 < 0 ∧ (CS.size : Int) ≤ a1) := by omega
     clear hc HW3
     rcases Nat.eq_zero_or_pos a2.size with hm | hm
     ·have he : a2 = ByteArray.empty := ByteArray.size_eq_zero_iff.1 hm
      subst he
      rcases hcw with g1 | ⟨g1, g2⟩
      all_goals
       go_wp2
       go_returns
       exact ⟨rfl, HB0.out.trans (HB.out.mono HB0.out.size)⟩
     ·have hm2 : ¬ a2.size = 0 := by omega
      have hm3 : ¬ a2.toList = [] := fun h => by
       rw [ByteArray.toList_eq] at h
       have h := congrArg List.length h
       simp only [Array.length_toList, List.length_nil] at h
       exact hm2 h
      rw [if_neg hm2]
      rcases hcw with g1 | ⟨g1, g2⟩
      all_goals
       go_wp2
       go_returns
       exact ⟨rfl, HB0.out.trans (HB.out.mono HB0.out.size)⟩
   ·have hne : (TE != 0) = true := by simpa using h0
    clear HK0 HC HS HRT HSZ
    go_wp2
    go_returns
    exact ⟨rfl, HF.out⟩


/-! ### GrammarTakes: the step from the walk to the statement -/
namespace grammarTakes
theorem own : ownKnob Tryz.prog.godebug = none := by kernel_rfl
theorem laidOut : laidOutB Tryz.prog = true := by kernel_rfl
set_option maxRecDepth 100000 in
theorem lifted (os : Os) (started : os.Started) (H : Type) (enc : TypeId × Value → H) :
  ReturnsInHanded {} Tryz.checked os 5 .any (Rows.grammarTakesSpec.pre6 enc Tryz.prog Tryz.f5 Rows.grammarTakesRow.domain false) (Rows.grammarTakesSpec.post enc Tryz.prog Tryz.f5 false true false false) := by
 refine returnsInHanded_of_change (C := Tryz.checked) own started (by kernel_rfl) Tryz.func5
  (ChangeSpec.witness6 (enc := enc) (C := Tryz.checked) false ⟨#[], #[.agg #[.bool false, .slice none 0 0, .slice none 0 0, .string ByteArray.empty, .string ByteArray.empty, .slice none 0 0, .slice none 0 0, .string ByteArray.empty], .int .i64 0, .string ByteArray.empty], []⟩ 8 (by kernel_rfl) (by kernel_rfl) (by kernel_rfl) (by kernel_rfl)) ?_
 intro W base args ds gs before hval0 hW hcnd _
 have hval : ∀ (j : Nat) t v, Tryz.f5.params[j]? = some t → args[j]? = some v → Value.okWide Tryz.prog W .any base t v := hval0
 have hW' := hW
 obtain ⟨p, q, hA0, hV, rfl, hfz, hnd⟩ := hW
 have hA : DataW.TrodAll enc Tryz.prog W 0 (fun _ => true) true Tryz.f5.params.toList args.toList ds p := hA0
 rw [Tryz.params5] at hA hval
 obtain ⟨v0, vs0, d0, ds0, p0, q0, hargs, rfl, rfl, h0, r0⟩ := trodAll_cons hA
 obtain ⟨v1, vs1, d1, ds1, p1, q1, rfl, rfl, rfl, h1, r1⟩ := trodAll_cons r0
 obtain ⟨v2, vs2, d2, ds2, p2, q2, rfl, rfl, rfl, h2, r2⟩ := trodAll_cons r1
 obtain ⟨rfl, rfl, rfl⟩ := trodAll_nil r2
 obtain rfl : args = #[v0, v1, v2] := by cases args; simp_all
 obtain ⟨rfl, rfl⟩ := trodVars_none hV
 have k0 := h0
 have lt0 : ∀ x ∈ p0, x.block < W.heap.size := by obtain ⟨m, hm⟩ := k0; exact DataW.trod_lt m _ _ _ hm
 obtain ⟨a0, e0, rfl, cp0, ca0, el0⟩ := came_crl crlTypes (hval 0 48 v0 rfl rfl) h0
 obtain ⟨a1, rfl, rfl, rfl, w1⟩ := open_int Tryz.underlying3 (hval 1 3 v1 rfl rfl) h1
 obtain ⟨a2, rfl, rfl, rfl, w2⟩ := open_string Tryz.underlying9 (hval 2 9 v2 rfl rfl) h2
 clear hA0 hval0
 refine (walkGrammarTakes a0 e0 a1 a2 cp0 el0 (bounds_i64 w1) w2 W ca0).mono fun e W' ⟨he, bel⟩ => ?_
 subst he
 exact ⟨_, rfl, _, _, _, [], _, [], hW', trodAll_mk1 (shut_bool Tryz.underlying4 _), (trodAll_cons_mk (Below.trod laidOut (by kernel_rfl) (of_decide_eq_true (by kernel_rfl)) k0 bel lt0) (trodAll_cons_mk (shut_int Tryz.underlying3 w1) (trodAll_cons_mk (shut_string Tryz.underlying9 w2) trodAll_mk0))), rfl, bel.frame _, fun h => by cases h⟩
theorem over : Rows.grammarTakesRow.holds Tryz.pinned (OpenSpec.ofChange Rows.grammarTakesSpec) :=
 OpenClaim.holds_of_wide 5 Tryz.f5 rfl rfl rfl rfl rfl rfl rfl ⟨rfl, rfl, rfl, rfl, rfl⟩ rfl rfl rfl rfl rfl (by kernel_rfl) Tryz.func5 (by kernel_rfl)
  (of_decide_eq_true (by kernel_rfl)) (by unfold Func.isWrapper; first | (rw [if_pos (by decide +kernel)]; kernel_rfl) | (rw [if_neg (by decide +kernel)]; exact ⟨rfl, rfl⟩))
  (fun os started H enc _ => lifted os started H enc)
theorem proved : Rows.GrammarTakesSaid := over
end grammarTakes
end Go.Proofs.YtiiimhamfibdbaaGreat
