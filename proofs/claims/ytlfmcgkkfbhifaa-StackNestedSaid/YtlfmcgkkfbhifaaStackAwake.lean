/- The document's fixed answers of layer 8 hold: 'awake' returns true. Over StackCode, the landed code's contracts. -/
import Derived.Test.YtlfmcgkkfbhifaaStackCode
import Derived.Handy
import Derived.Lib.Hide
namespace Go.Proofs.Ytlfmcgkkfbhifaa
open Go.RowKit
set_option linter.unusedVariables false
theorem ks_1 : (SS.new 2).last = -1 := rfl
theorem ks_2 : (SS.new 2).enterE 5 = 0 := by decide
theorem ks_3 : (SS.new 2).enter 5 = ⟨2, [5]⟩ := by unfold SS.enter; rw [if_pos ks_2]; rfl
theorem ks_4 : (⟨2, [5]⟩ : SS).enterE 6 = 5 := by decide
theorem ks_5 : (⟨2, [5]⟩ : SS).enter 6 = ⟨2, [5]⟩ := by unfold SS.enter; rw [if_neg (by rw [ks_4]; decide)]
theorem ks_6 : (⟨2, [5]⟩ : SS).enterE 5 = 0 := by decide
theorem ks_7 : (⟨2, [5]⟩ : SS).enter 5 = ⟨2, [5, 0]⟩ := by unfold SS.enter; rw [if_pos ks_6]; rfl
theorem ks_8 : (⟨2, [5, 0]⟩ : SS).enterE 0 = 10 := by decide
theorem ks_9 : (⟨2, [5, 0]⟩ : SS).enter 0 = ⟨2, [5, 0]⟩ := by unfold SS.enter; rw [if_neg (by rw [ks_8]; decide)]
theorem ks_10 : (⟨2, [5, 0]⟩ : SS).takeE = 0 := by decide
theorem ks_11 : (⟨2, [5, 0]⟩ : SS).take = ⟨2, [4, 0]⟩ := rfl
theorem ks_12 : (⟨2, [4, 0]⟩ : SS).last = 4 := rfl
theorem ks_13 : (⟨2, [4, 0]⟩ : SS).depth = 2 := rfl
theorem ks_14 : (⟨2, [4, 0]⟩ : SS).leaveB = false := by decide
set_option maxRecDepth 100000 in
set_option maxHeartbeats 4000000 in
theorem awake08_any (w : World) :
    Calls Try.prog 8 #[] w fun e w' => e = .returned (.bool true) ∧ Below w.heap.size w w' := by
  go_enter Try.func8, Try.ntmps8
  go_wp2_with fail
  refine (stSpec.new_on 2 (by unfold InI; decide) (Below.refl w.heap.size w)).mono ?_
  rintro e w1 ⟨k, F, rfl, h1, _, _⟩
  go_wp2_with fail
  refine (stSpec.left_on h1 ks_1).mono ?_
  rintro e w2 ⟨rfl, h2, _⟩
  clear h1
  go_wp2_with fail
  refine (stSpec.enter_on 5 h2 (by unfold InI; decide) ks_2 ks_3).mono ?_
  rintro e w3 ⟨rfl, h3, _⟩
  clear h2
  go_wp2_with fail
  refine (stSpec.enter_on 6 h3 (by unfold InI; decide) ks_4 ks_5).mono ?_
  rintro e w4 ⟨rfl, h4, _⟩
  clear h3
  go_wp2_with fail
  refine (stSpec.enter_on 5 h4 (by unfold InI; decide) ks_6 ks_7).mono ?_
  rintro e w5 ⟨rfl, h5, _⟩
  clear h4
  go_wp2_with fail
  refine (stSpec.enter_on 0 h5 (by unfold InI; decide) ks_8 ks_9).mono ?_
  rintro e w6 ⟨rfl, h6, _⟩
  clear h5
  go_wp2_with fail
  refine (stSpec.take_on h6 ks_10 ks_11).mono ?_
  rintro e w7 ⟨rfl, h7, _⟩
  clear h6
  go_wp2_with fail
  refine (stSpec.left_on h7 ks_12).mono ?_
  rintro e w8 ⟨rfl, h8, _⟩
  clear h7
  go_wp2_with fail
  refine (stSpec.depth_on h8 ks_13).mono ?_
  rintro e w9 ⟨rfl, h9, _⟩
  clear h8
  go_wp2_with fail
  refine (stSpec.leave_on h9 ks_14 rfl).mono ?_
  rintro e w10 ⟨rfl, h10, _⟩
  go_wp2
  go_returns
  exact ⟨rfl, h10.bel⟩
end Go.Proofs.Ytlfmcgkkfbhifaa
