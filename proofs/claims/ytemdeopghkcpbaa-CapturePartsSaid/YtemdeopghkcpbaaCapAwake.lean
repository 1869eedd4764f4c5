/- The document's fixed answers of layer 17: they come out. -/
import Derived.Test.YtemdeopghkcpbaaCapCode
import Derived.Handy
namespace Go.Proofs.Ytemdeopghkcpbaa
open Go.RowKit Go.PlainAid
set_option linter.unusedVariables false
set_option maxRecDepth 100000 in
set_option maxHeartbeats 8000000 in
theorem awake17_any (w : World) :
    Calls Try.prog 7 #[] w fun e w' => e = .returned (.bool true) ∧ Below w.heap.size w w' := by
  have e0 : KM.new 2 = ⟨2, [], false⟩ := rfl
  have e1 : (KM.mk 2 [] false).begin (bl ⟨#[97]⟩) = ⟨2, [97], true⟩ := rfl
  have e1' : (KM.mk 2 [] false).beginE (bl ⟨#[97]⟩) = 0 := rfl
  have e2 : (KM.mk 2 [97] true).push 98 = ⟨2, [97, 98], true⟩ := rfl
  have e2' : (KM.mk 2 [97] true).pushE = 0 := rfl
  have e3 : (KM.mk 2 [97, 98] true).push 99 = ⟨2, [97, 98], false⟩ := rfl
  have e3' : (KM.mk 2 [97, 98] true).pushE = 11 := rfl
  have e4 : (KM.mk 2 [97, 98] false).push 100 = ⟨2, [97, 98], false⟩ := rfl
  have e4' : (KM.mk 2 [97, 98] false).pushE = 0 := rfl
  have e5 : strOfNums (KM.mk 2 [97, 98] false).kept = ⟨#[97, 98]⟩ := by decide +kernel
  have e6 : (KM.mk 2 [97, 98] false).begin (bl ⟨#[120, 121, 122]⟩) = ⟨2, [120, 121], false⟩ := rfl
  have e6' : (KM.mk 2 [97, 98] false).beginE (bl ⟨#[120, 121, 122]⟩) = 11 := rfl
  have e7 : strOfNums (KM.mk 2 [120, 121] false).kept = ⟨#[120, 121]⟩ := by decide +kernel
  have e8 : ((KM.mk 2 [120, 121] false).most : Int) - ((KM.mk 2 [120, 121] false).kept.length : Int) = 0 := rfl
  go_enter Try.func7, Try.ntmps7
  go_wp2_with fail
  refine (capSpec.new_on 2 (by unfold InI; decide) (Below.refl w.heap.size w)).mono ?_
  rintro r w1 ⟨k, F, rfl, h, _, _⟩
  rw [e0] at h
  have H0 := Lib.hid h
  clear h e0
  go_wp2_with fail
  refine (capSpec.begin_on H0.out ⟨#[97]⟩ (by decide +kernel) e1 e1').mono ?_
  rintro r w2 ⟨F1, rfl, h, _, _⟩
  have H1 := Lib.hid h
  clear h H0 e1 e1'
  go_wp2_with fail
  refine (capSpec.push_on H1.out 98 (by decide) e2 e2').mono ?_
  rintro r w3 ⟨F2, rfl, h, _, _⟩
  have H2 := Lib.hid h
  clear h H1 e2 e2'
  go_wp2_with fail
  refine (capSpec.push_on H2.out 99 (by decide) e3 e3').mono ?_
  rintro r w4 ⟨F3, rfl, h, _, _⟩
  have H3 := Lib.hid h
  clear h H2 e3 e3'
  go_wp2_with fail
  refine (capSpec.on_on H3.out rfl).mono ?_
  rintro r w5 ⟨rfl, n5, rfl⟩
  have H4 := Lib.hid (H3.out.drewN capSpec n5)
  clear H3
  generalize w4.drewN n5 = w5 at *
  go_wp2_with fail
  refine (capSpec.push_on H4.out 100 (by decide) e4 e4').mono ?_
  rintro r w6 ⟨F5, rfl, h, _, _⟩
  have H5 := Lib.hid h
  clear h H4 e4 e4'
  go_wp2_with fail
  refine (capSpec.text_on H5.out e5).mono ?_
  rintro r w7 ⟨rfl, n7, rfl⟩
  have H6 := Lib.hid (H5.out.drewN capSpec n7)
  clear H5 e5
  generalize w6.drewN n7 = w7 at *
  go_wp2_with fail
  refine (capSpec.begin_on H6.out ⟨#[120, 121, 122]⟩ (by decide +kernel) e6 e6').mono ?_
  rintro r w8 ⟨F7, rfl, h, _, _⟩
  have H7 := Lib.hid h
  clear h H6 e6 e6'
  go_wp2_with fail
  refine (capSpec.text_on H7.out e7).mono ?_
  rintro r w9 ⟨rfl, n9, rfl⟩
  have H8 := Lib.hid (H7.out.drewN capSpec n9)
  clear H7 e7
  generalize w8.drewN n9 = w9 at *
  go_wp2_with fail
  refine (capSpec.room_on H8.out e8).mono ?_
  rintro r w10 ⟨rfl, n10, rfl⟩
  have hB := (H8.out.drewN capSpec n10).bel
  clear H8 e8
  go_wp2
  go_returns
  exact ⟨rfl, hB⟩
end Go.Proofs.Ytemdeopghkcpbaa
