/- Of every head that can be (of others the law asks only for the fixed answers): at its beginning it is told whether it can be, and be so long. No condition but the form of the row. -/
import Derived.Test.YtoklcnfpeipalaaGreatValAwake
import Derived.Test.YtoklcnfpeipalaaGreatRefVal
import Derived.Test.YtoklcnfpeipalaaGreatE4
import Derived.Test.YtoklcnfpeipalaaGreatE1
import Derived.Test.YtoklcnfpeipalaaGreatCameHead
import Derived.Test.YtoklcnfpeipalaaGreatE2
import Derived.Test.YtoklcnfpeipalaaGreatE5
import Derived.Test.YtoklcnfpeipalaaGreatRows
import Derived.Deep.Cut
import Derived.Deep.QuietTactic
import Derived.BigQuiet
import Derived.WalkKit
import Derived.ProofKit
import Derived.OpenShut
import Derived.ShutString
import Derived.ChangeOld
import Derived.Below
import Derived.Carry
namespace Go.Proofs.YtoklcnfpeipalaaGreat
open Go.ChangeShapes Go.WideShapes Go.ChangeAt Go.RowKit
open Go.ChangeMaps (open_string shut_string)
set_option linter.unusedVariables false
open Go.PlainAid in
set_option maxRecDepth 100000 in
set_option maxHeartbeats 8000000 in
theorem walkValueHeads (ha0 hb0 : Int) (hc0 : Bool) (hd0 : Int) (ra0 : InI ha0) (rb0 : InI hb0) (rd0 : InI hd0) (w : World) :
    Calls Tryz.prog 5 #[.agg #[.int .i64 ha0, .int .i64 hb0, .bool hc0, .int .i64 hd0]] w fun e w' => e = .returned (.bool true) ∧ Below w.heap.size w w' := by
  by_cases hok : 0 ≤ hd0 ∧ hd0 ≤ 2305843009213693951 ∧ 0 ≤ ha0 ∧ ha0 ≤ 3 ∧ 0 ≤ hb0 ∧ hb0 ≤ 268435455
  · obtain ⟨g1, g2, g3, g4, g5, g6⟩ := hok
    have hpl : 2 ≤ (hpS ha0 hb0 hc0 hd0).size ∧ (hpS ha0 hb0 hc0 hd0).size ≤ 14 := by
      have ho : hdOk ha0 hb0 hd0 = true := by simp [hdOk, idOk, lenOk, *]
      rw [hpS_ok ho, strOfNums_size]; exact hdPut_length ho
    have hn1 : ¬ hd0 < 0 := by omega
    have hn2 : ¬ 2305843009213693951 < hd0 := by omega
    have hn3 : ¬ ha0 < 0 := by omega
    have hn4 : ¬ 3 < ha0 := by omega
    have hn5 : ¬ hb0 < 0 := by omega
    have hn6 : ¬ 268435455 < hb0 := by omega
    go_enter Tryz.func5, Tryz.ntmps5
    go_wp2_with fail
    refine (awake15_is _).mono ?_
    rintro e w1 ⟨rfl, hb⟩
    have HR1 := Lib.hid ((Row.new w 37 (hdC ha0 hb0 hc0 hd0)).below hb (by simp))
    obtain ⟨k0, k1, k2, k3, f0, f1, f2, f3⟩ := head_facts HR1.out
    have hB1 : Below w.heap.size w w1 := ((Below.refl _ _).alloc (Nat.le_refl _) (.cells (hdC ha0 hb0 hc0 hd0).toArray 37)).trans (hb.mono (by simp))
    clear hb
    go_wp2_with fail
    refine (valSpec.new _).mono ?_
    rintro r w2 ⟨kc, F, rfl, hF, hV, hb⟩
    have HR2 := Lib.hid (HR1.out.below hb HR1.out.lt)
    have HF2 : Hid (∀ i, F i → w1.heap.size ≤ i) := Lib.hid hF
    have hB2 := Lib.hid (hB1.trans (hb.mono hB1.size))
    have HV2 := Lib.hid hV
    have hlt1 : w.heap.size < w1.heap.size := HR1.out.lt
    have hlt2 : w1.heap.size ≤ w2.heap.size := hb.size
    clear hb hF hV HR1 hB1 k0 k1 k2 k3 f0 f1 f2 f3
    obtain ⟨k0, k1, k2, k3, f0, f1, f2, f3⟩ := head_facts HR2.out
    go_wp2_with fail
    refine (refHeadPut_all ha0 hb0 hc0 hd0 rd0 _).mono ?_
    rintro r w3 ⟨rfl, hb⟩
    have HR3 := Lib.hid (HR2.out.below hb HR2.out.lt)
    have hB3 := Lib.hid (hB2.out.trans (hb.mono hB2.out.size))
    have HV3 := Lib.hid (valSpec.aside HV2.out (Chg.of_below hb) (F' := fun _ => False) (fun _ _ h => h))
    have hlt3 : w2.heap.size ≤ w3.heap.size := hb.size
    clear hb HR2 hB2 HV2 k0 k1 k2 k3 f0 f1 f2 f3
    obtain ⟨k0, k1, k2, k3, f0, f1, f2, f3⟩ := head_facts HR3.out
    generalize hpS ha0 hb0 hc0 hd0 = S at *
    go_upto_region 8 with (fail)
    have hA0 : 0 ≤ (S.size : Int) - 1 ∧ (S.size : Int) - 1 ≤ 9223372036854775807 := by omega
    have hcase : ∀ e : Ev, (e.k = 1 ∨ e.k = 2) → e.c = ha0 → ((VS.new.next e).bad = true ∧ vF [e] = 0 ∧ (ha0 == 0) = true) ∨ ((VS.new.next e).bad = false ∧ vF [e] = -1 ∧ (ha0 == 0) = true) ∨ ((VS.new.next e).bad = false ∧ vF [e] = -1 ∧ (ha0 == 0) = false) := by
      intro e hk hec
      rcases val_one e hk with ⟨q1, q2, q3⟩ | ⟨q1, q2⟩
      · exact .inl ⟨q1, q2, by rw [← hec, q3]; rfl⟩
      · by_cases h0 : ha0 = 0
        · exact .inr (.inl ⟨q1, q2, by rw [h0]; rfl⟩)
        · exact .inr (.inr ⟨q1, q2, by simpa using h0⟩)
    generalize (S.size : Int) - 1 = A at *
    cases hc0
    · have HX0 : Hid (Row (w3.alloc (.cells #[.int .i64 2, .int .i64 A, .int .i64 ha0, .int .i64 hb0, .bool false, .int .i64 hd0, .int .u8 0] 39)) w3.heap.size 39 (evC ⟨2, A, ha0, hb0, false, hd0, 0⟩)) := Lib.hid (Row.new w3 39 (evC ⟨2, A, ha0, hb0, false, hd0, 0⟩))
      have hb0' : Below w3.heap.size w3 (w3.alloc (.cells #[.int .i64 2, .int .i64 A, .int .i64 ha0, .int .i64 hb0, .bool false, .int .i64 hd0, .int .u8 0] 39)) := (Below.refl w3.heap.size w3).alloc (Nat.le_refl _) (evO ⟨2, A, ha0, hb0, false, hd0, 0⟩)
      have HR0 : Hid (Row (w3.alloc (.cells #[.int .i64 2, .int .i64 A, .int .i64 ha0, .int .i64 hb0, .bool false, .int .i64 hd0, .int .u8 0] 39)) w.heap.size 37 (hdC ha0 hb0 false hd0)) := Lib.hid (HR3.out.below hb0' HR3.out.lt)
      clear k0 k1 k2 k3 f0 f1 f2 f3
      generalize w3.alloc (.cells #[.int .i64 2, .int .i64 A, .int .i64 ha0, .int .i64 hb0, .bool false, .int .i64 hd0, .int .u8 0] 39) = W0 at *
      have HX4 := HX0
      have hbb := hb0'
      have HFit : Hid (VS.new.fits ⟨2, A, ha0, hb0, false, hd0, 0⟩) := Lib.hid ⟨by simp, ⟨g3, g4⟩, ⟨g5, g6⟩, ⟨g1, g2⟩, by simp, hA0, fun h => absurd h (by simp)⟩
      have HBd : Hid (∀ x ∈ [(⟨2, A, ha0, hb0, false, hd0, 0⟩ : Ev)], EvB x) := Lib.hid (fun x hx => by rw [List.mem_singleton] at hx; subst hx; exact ⟨⟨g3, g4⟩, ⟨g5, g6⟩, ⟨g1, g2⟩, by simp⟩)
      have hcs := hcase ⟨2, A, ha0, hb0, false, hd0, 0⟩ (by simp) rfl
      have HR4 := Lib.hid (HR3.out.below hbb HR3.out.lt)
      have HB4 := Lib.hid (hB3.out.trans (hbb.mono hB3.out.size))
      have HV4 := Lib.hid (valSpec.aside HV3.out (Chg.of_below hbb) (F' := fun _ => False) (fun _ _ h => h))
      have hlt4 : w3.heap.size < (W0).heap.size := HX4.out.lt
      have HFx : Hid (∀ i, F i → i ≠ w3.heap.size ∧ i ≠ w.heap.size) := Lib.hid (fun i hi => by
        have h1 := HF2.out i hi
        have h2 := valSpec.lt HV3.out i hi
        omega)
      clear hcase hbb HR3 hB3 HV3 HR0 HX0 hb0'
      generalize W0 = W at *
      generalize w3.heap.size = bx at *
      obtain ⟨x0, x1, x2, x3, x4, x5, x6⟩ := ev_facts HX4.out
      obtain ⟨k0, k1, k2, k3, f0, f1, f2, f3⟩ := head_facts HR4.out
      have HP := Lib.hid (valSpec.push _ HV4.out VS.ok_new HFit.out)
      have HFi := Lib.hid (fun X => refFirst_any (evs_one X ⟨2, A, ha0, hb0, false, hd0, 0⟩) (by simp) HBd.out)
      clear HFit HBd HV4
      rcases hcs with ⟨q1, q2, q3⟩ | ⟨q1, q2, q3⟩ | ⟨q1, q2, q3⟩
      all_goals
        first | rw [if_pos q1] at HP | rw [if_neg (by rw [q1]; simp)] at HP
        rw [q2] at HFi
        clear q1 q2
        go_wp2_with fail
        refine HP.out.mono ?_
        rintro r w5 ⟨F5, rfl, _, _, hc5⟩
        have HX5 := Lib.hid (HX4.out.chg hc5 (fun h => (HFx.out _ h).1 rfl))
        have HR5 := Lib.hid (HR4.out.chg hc5 (fun h => (HFx.out _ h).2 rfl))
        have HB5 := Lib.hid (hc5.to_below HB4.out (fun i hi => by have := HF2.out i hi; omega))
        clear hc5 x0 x1 x2 x3 x4 x5 x6 k0 k1 k2 k3 f0 f1 f2 f3 HP
        obtain ⟨x0, x1, x2, x3, x4, x5, x6⟩ := ev_facts HX5.out
        go_wp2_with fail
        refine (HFi.out _).mono ?_
        rintro r w6 ⟨rfl, hb6⟩
        have HR6 := HR5.out.below ((Below.refl _ _).alloc (Nat.le_refl _) (evO ⟨2, A, ha0, hb0, false, hd0, 0⟩)) HR5.out.lt
        have HR7 := HR6.below hb6 HR6.lt
        obtain ⟨k0, k1, k2, k3, f0, f1, f2, f3⟩ := head_facts HR7
        have HB6 := (HB5.out.alloc HB5.out.size (evO ⟨2, A, ha0, hb0, false, hd0, 0⟩)).trans (hb6.mono (HB5.out.alloc HB5.out.size (evO ⟨2, A, ha0, hb0, false, hd0, 0⟩)).size)
        go_wp2
        go_returns
        exact ⟨rfl, HB6⟩
    · have HX0 : Hid (Row (w3.alloc (.cells #[.int .i64 2, .int .i64 A, .int .i64 ha0, .int .i64 hb0, .bool true, .int .i64 hd0, .int .u8 0] 39)) w3.heap.size 39 (evC ⟨2, A, ha0, hb0, true, hd0, 0⟩)) := Lib.hid (Row.new w3 39 (evC ⟨2, A, ha0, hb0, true, hd0, 0⟩))
      have hb0' : Below w3.heap.size w3 (w3.alloc (.cells #[.int .i64 2, .int .i64 A, .int .i64 ha0, .int .i64 hb0, .bool true, .int .i64 hd0, .int .u8 0] 39)) := (Below.refl w3.heap.size w3).alloc (Nat.le_refl _) (evO ⟨2, A, ha0, hb0, true, hd0, 0⟩)
      have HR0 : Hid (Row (w3.alloc (.cells #[.int .i64 2, .int .i64 A, .int .i64 ha0, .int .i64 hb0, .bool true, .int .i64 hd0, .int .u8 0] 39)) w.heap.size 37 (hdC ha0 hb0 true hd0)) := Lib.hid (HR3.out.below hb0' HR3.out.lt)
      clear k0 k1 k2 k3 f0 f1 f2 f3
      generalize w3.alloc (.cells #[.int .i64 2, .int .i64 A, .int .i64 ha0, .int .i64 hb0, .bool true, .int .i64 hd0, .int .u8 0] 39) = W0 at *
      obtain ⟨k0, k1, k2, k3, f0, f1, f2, f3⟩ := head_facts HR0.out
      obtain ⟨x0, x1, x2, x3, x4, x5, x6⟩ := ev_facts HX0.out
      have fx := HX0.out.frozen 0
      go_upto_region 10 with (fail)
      have HX4 : Hid (Row (W0.setCell ⟨w3.heap.size, 0, none⟩ (.int .i64 1)) w3.heap.size 39 (evC ⟨1, A, ha0, hb0, true, hd0, 0⟩)) := Lib.hid (HX0.out.set 0 (.int .i64 1))
      have hbb : Below w3.heap.size w3 (W0.setCell ⟨w3.heap.size, 0, none⟩ (.int .i64 1)) := hb0'.setCell (p := ⟨w3.heap.size, 0, none⟩) (Nat.le_refl _) (.int .i64 1)
      clear k0 k1 k2 k3 f0 f1 f2 f3 x0 x1 x2 x3 x4 x5 x6 fx
      have HFit : Hid (VS.new.fits ⟨1, A, ha0, hb0, true, hd0, 0⟩) := Lib.hid ⟨by simp, ⟨g3, g4⟩, ⟨g5, g6⟩, ⟨g1, g2⟩, by simp, hA0, fun h => absurd h (by simp)⟩
      have HBd : Hid (∀ x ∈ [(⟨1, A, ha0, hb0, true, hd0, 0⟩ : Ev)], EvB x) := Lib.hid (fun x hx => by rw [List.mem_singleton] at hx; subst hx; exact ⟨⟨g3, g4⟩, ⟨g5, g6⟩, ⟨g1, g2⟩, by simp⟩)
      have hcs := hcase ⟨1, A, ha0, hb0, true, hd0, 0⟩ (by simp) rfl
      have HR4 := Lib.hid (HR3.out.below hbb HR3.out.lt)
      have HB4 := Lib.hid (hB3.out.trans (hbb.mono hB3.out.size))
      have HV4 := Lib.hid (valSpec.aside HV3.out (Chg.of_below hbb) (F' := fun _ => False) (fun _ _ h => h))
      have hlt4 : w3.heap.size < (W0.setCell ⟨w3.heap.size, 0, none⟩ (.int .i64 1)).heap.size := HX4.out.lt
      have HFx : Hid (∀ i, F i → i ≠ w3.heap.size ∧ i ≠ w.heap.size) := Lib.hid (fun i hi => by
        have h1 := HF2.out i hi
        have h2 := valSpec.lt HV3.out i hi
        omega)
      clear hcase hbb HR3 hB3 HV3 HR0 HX0 hb0'
      generalize W0.setCell ⟨w3.heap.size, 0, none⟩ (.int .i64 1) = W at *
      generalize w3.heap.size = bx at *
      obtain ⟨x0, x1, x2, x3, x4, x5, x6⟩ := ev_facts HX4.out
      obtain ⟨k0, k1, k2, k3, f0, f1, f2, f3⟩ := head_facts HR4.out
      have HP := Lib.hid (valSpec.push _ HV4.out VS.ok_new HFit.out)
      have HFi := Lib.hid (fun X => refFirst_any (evs_one X ⟨1, A, ha0, hb0, true, hd0, 0⟩) (by simp) HBd.out)
      clear HFit HBd HV4
      rcases hcs with ⟨q1, q2, q3⟩ | ⟨q1, q2, q3⟩ | ⟨q1, q2, q3⟩
      all_goals
        first | rw [if_pos q1] at HP | rw [if_neg (by rw [q1]; simp)] at HP
        rw [q2] at HFi
        clear q1 q2
        go_wp2_with fail
        refine HP.out.mono ?_
        rintro r w5 ⟨F5, rfl, _, _, hc5⟩
        have HX5 := Lib.hid (HX4.out.chg hc5 (fun h => (HFx.out _ h).1 rfl))
        have HR5 := Lib.hid (HR4.out.chg hc5 (fun h => (HFx.out _ h).2 rfl))
        have HB5 := Lib.hid (hc5.to_below HB4.out (fun i hi => by have := HF2.out i hi; omega))
        clear hc5 x0 x1 x2 x3 x4 x5 x6 k0 k1 k2 k3 f0 f1 f2 f3 HP
        obtain ⟨x0, x1, x2, x3, x4, x5, x6⟩ := ev_facts HX5.out
        go_wp2_with fail
        refine (HFi.out _).mono ?_
        rintro r w6 ⟨rfl, hb6⟩
        have HR6 := HR5.out.below ((Below.refl _ _).alloc (Nat.le_refl _) (evO ⟨1, A, ha0, hb0, true, hd0, 0⟩)) HR5.out.lt
        have HR7 := HR6.below hb6 HR6.lt
        obtain ⟨k0, k1, k2, k3, f0, f1, f2, f3⟩ := head_facts HR7
        have HB6 := (HB5.out.alloc HB5.out.size (evO ⟨1, A, ha0, hb0, true, hd0, 0⟩)).trans (hb6.mono (HB5.out.alloc HB5.out.size (evO ⟨1, A, ha0, hb0, true, hd0, 0⟩)).size)
        go_wp2
        go_returns
        exact ⟨rfl, HB6⟩
  · have hcw : hd0 < 0 ∨ (¬ hd0 < 0 ∧ 2305843009213693951 < hd0) ∨ (¬ hd0 < 0 ∧ ¬ 2305843009213693951 < hd0 ∧ ha0 < 0) ∨ (¬ hd0 < 0 ∧ ¬ 2305843009213693951 < hd0 ∧ ¬ ha0 < 0 ∧ 3 < ha0) ∨ (¬ hd0 < 0 ∧ ¬ 2305843009213693951 < hd0 ∧ ¬ ha0 < 0 ∧ ¬ 3 < ha0 ∧ hb0 < 0) ∨ (¬ hd0 < 0 ∧ ¬ 2305843009213693951 < hd0 ∧ ¬ ha0 < 0 ∧ ¬ 3 < ha0 ∧ ¬ hb0 < 0 ∧ 268435455 < hb0) := by omega
    clear hok ra0 rb0 rd0
    rcases hcw with g1 | ⟨g1, g2⟩ | ⟨g1, g2, g3⟩ | ⟨g1, g2, g3, g4⟩ | ⟨g1, g2, g3, g4, g5⟩ | ⟨g1, g2, g3, g4, g5, g6⟩
    all_goals
      go_enter Tryz.func5, Tryz.ntmps5
      go_wp2_with fail
      refine (awake15_is _).mono ?_
      rintro e w1 ⟨rfl, hb⟩
      have HR1 := Lib.hid ((Row.new w 37 (hdC ha0 hb0 hc0 hd0)).below hb (by simp))
      obtain ⟨k0, k1, k2, k3, f0, f1, f2, f3⟩ := head_facts HR1.out
      have hB1 : Below w.heap.size w w1 := ((Below.refl _ _).alloc (Nat.le_refl _) (.cells (hdC ha0 hb0 hc0 hd0).toArray 37)).trans (hb.mono (by simp))
      clear hb
      go_wp2_with fail
      refine (awake15_is _).mono ?_
      rintro e w2 ⟨rfl, hb⟩
      have hB2 := hB1.trans (hb.mono hB1.size)
      clear hb
      go_wp2
      go_returns
      exact ⟨rfl, hB2⟩


/-! ### ValueHeads: the step from the walk to the statement -/
namespace valueHeads
theorem own : ownKnob Tryz.prog.godebug = none := by kernel_rfl
theorem laidOut : laidOutB Tryz.prog = true := by kernel_rfl
set_option maxRecDepth 100000 in
theorem lifted (os : Os) (started : os.Started) (H : Type) (enc : TypeId × Value → H) :
    ReturnsInHanded {} Tryz.checked os 5 .any (Rows.valueHeadsSpec.pre6 enc Tryz.prog Tryz.f5 Rows.valueHeadsRow.domain false) (Rows.valueHeadsSpec.post enc Tryz.prog Tryz.f5 false true false false) := by
  refine returnsInHanded_of_change (C := Tryz.checked) own started (by kernel_rfl) Tryz.func5
    (ChangeSpec.witness6 (enc := enc) (C := Tryz.checked) false ⟨#[], #[.agg #[.int .i64 0, .int .i64 0, .bool false, .int .i64 0]], []⟩ 8 (by kernel_rfl) (by kernel_rfl) (by kernel_rfl) (by kernel_rfl)) ?_
  intro W base args ds gs before hval0 hW hcnd _
  have hval : ∀ (j : Nat) t v, Tryz.f5.params[j]? = some t → args[j]? = some v → Value.okWide Tryz.prog W .any base t v := hval0
  have hW' := hW
  obtain ⟨p, q, hA0, hV, rfl, hfz, hnd⟩ := hW
  have hA : DataW.TrodAll enc Tryz.prog W 0 (fun _ => true) true Tryz.f5.params.toList args.toList ds p := hA0
  rw [Tryz.params5] at hA hval
  obtain ⟨v0, vs0, d0, ds0, p0, q0, hargs, rfl, rfl, h0, r0⟩ := trodAll_cons hA
  obtain ⟨rfl, rfl, rfl⟩ := trodAll_nil r0
  obtain rfl : args = #[v0] := by cases args; simp_all
  obtain ⟨rfl, rfl⟩ := trodVars_none hV
  have k0 := h0
  have lt0 : ∀ x ∈ p0, x.block < W.heap.size := by obtain ⟨m, hm⟩ := k0; exact DataW.trod_lt m _ _ _ hm
  obtain ⟨ha0, hb0, hc0, hd0, rfl, ra0, rb0, rd0⟩ := came_head Tryz.underlying37 (by kernel_rfl) rfl rfl rfl rfl (by kernel_rfl) (by kernel_rfl) (by kernel_rfl) (by kernel_rfl) Tryz.underlying3 Tryz.underlying3 Tryz.underlying4 Tryz.underlying3 (hval 0 37 v0 rfl rfl) h0
  clear hA0 hval0
  refine (walkValueHeads ha0 hb0 hc0 hd0 ra0 rb0 rd0 W).mono fun e W' ⟨he, bel⟩ => ?_
  subst he
  exact ⟨_, rfl, _, _, _, [], _, [], hW', trodAll_mk1 (shut_bool Tryz.underlying4 _), (trodAll_cons_mk (Below.trod laidOut (by kernel_rfl) (of_decide_eq_true (by kernel_rfl)) k0 bel lt0) trodAll_mk0), rfl, bel.frame _, fun h => by cases h⟩
theorem over : Rows.valueHeadsRow.holds Tryz.pinned (OpenSpec.ofChange Rows.valueHeadsSpec) :=
  OpenClaim.holds_of_wide 5 Tryz.f5 rfl rfl rfl rfl rfl rfl rfl ⟨rfl, rfl, rfl, rfl, rfl⟩ rfl rfl rfl rfl rfl (by kernel_rfl) Tryz.func5 (by kernel_rfl)
    (of_decide_eq_true (by kernel_rfl)) (by unfold Func.isWrapper; first | (rw [if_pos (by decide +kernel)]; kernel_rfl) | (rw [if_neg (by decide +kernel)]; exact ⟨rfl, rfl⟩))
    (fun os started H enc _ => lifted os started H enc)
/-- THE STATEMENT. -/
theorem proved : Rows.ValueHeadsSaid := over
end valueHeads
end Go.Proofs.YtoklcnfpeipalaaGreat
