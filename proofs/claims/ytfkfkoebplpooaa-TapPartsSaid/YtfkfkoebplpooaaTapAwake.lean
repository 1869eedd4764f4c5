/- The document's fixed answers of layer 21, over any tap that keeps the specification. -/
import Derived.Test.YtfkfkoebplpooaaTapSpec
import Derived.Test.YtfkfkoebplpooaaRefSha
namespace Go.Proofs.Ytfkfkoebplpooaa
open Go.RowKit Go.PlainAid
set_option linter.unusedVariables false
theorem tk1 : TpS.new.push 48 = ⟨⟨#[48]⟩, ⟨#[]⟩, false, false⟩ := by kernel_rfl
theorem tk2 : (TpS.mk ⟨#[48]⟩ ⟨#[]⟩ false false).push 0 = ⟨⟨#[48, 0]⟩, ⟨#[]⟩, false, false⟩ := by kernel_rfl
theorem tk5 : (TpS.mk ⟨#[]⟩ ⟨#[48, 0]⟩ true true).push 5 = ⟨⟨#[5]⟩, ⟨#[48, 0, 5]⟩, true, true⟩ := by kernel_rfl
theorem tk7 : (TpS.mk ⟨#[5]⟩ ⟨#[48, 0, 5]⟩ true false).push 6 = ⟨⟨#[5, 6]⟩, ⟨#[48, 0, 5]⟩, true, false⟩ := by kernel_rfl
set_option maxRecDepth 100000 in
set_option maxHeartbeats 8000000 in
theorem awake21_any {TA : TapPred} (H : TapSpec TA) (w : World) :
    Calls Try.prog 8 #[] w fun e w' => e = .returned (.bool true) ∧ Below w.heap.size w w' := by
  have HR := Lib.hid (fun W => refSum_any ⟨#[48, 0, 5]⟩ (by decide) W)
  generalize hS : shaB ⟨#[48, 0, 5]⟩ = S at *
  have HS := Lib.hid hS
  clear hS
  go_enter Try.func8, Try.ntmps8
  go_wp2_with fail
  refine (H.new_on (Below.refl _ _)).mono ?_
  rintro r w1 ⟨k, F, rfl, h1, _, _⟩
  have HT := Lib.hid h1
  clear h1
  go_wp2_with fail
  refine (H.sum_on HT.out (by decide) (t := .empty) rfl (b := false) rfl).mono ?_
  rintro r w2 ⟨F2, rfl, h1, _, _⟩
  replace HT := Lib.hid h1
  clear h1
  go_wp2_with fail
  refine (H.push_on HT.out 48 (by decide) (by decide) tk1).mono ?_
  rintro r w3 ⟨F3, rfl, h1, _, _⟩
  replace HT := Lib.hid h1
  clear h1
  go_wp2_with fail
  refine (H.push_on HT.out 0 (by decide) (by decide) tk2).mono ?_
  rintro r w4 ⟨F4, rfl, h1, _, _⟩
  replace HT := Lib.hid h1
  clear h1
  go_wp2_with fail
  refine (H.head_on HT.out (by decide) (s' := ⟨⟨#[]⟩, ⟨#[]⟩, false, false⟩) rfl (t := ⟨#[48, 0]⟩) rfl).mono ?_
  rintro r w5 ⟨F5, rfl, h1, _, _⟩
  replace HT := Lib.hid h1
  clear h1
  go_wp2_with fail
  refine (H.start_on HT.out ⟨#[48, 0]⟩ (by decide) (s' := ⟨⟨#[]⟩, ⟨#[48, 0]⟩, true, true⟩) rfl).mono ?_
  rintro r w6 ⟨F6, rfl, h1, _, _⟩
  replace HT := Lib.hid h1
  clear h1
  go_wp2_with fail
  refine (H.push_on HT.out 5 (by decide) (by decide) tk5).mono ?_
  rintro r w7 ⟨F7, rfl, h1, _, _⟩
  replace HT := Lib.hid h1
  clear h1
  go_wp2_with fail
  refine (H.over_on HT.out (s' := ⟨⟨#[5]⟩, ⟨#[48, 0, 5]⟩, true, false⟩) rfl).mono ?_
  rintro r w8 ⟨F8, rfl, h1, _, _⟩
  replace HT := Lib.hid h1
  clear h1
  go_wp2_with fail
  refine (H.push_on HT.out 6 (by decide) (by decide) tk7).mono ?_
  rintro r w9 ⟨F9, rfl, h1, _, _⟩
  replace HT := Lib.hid h1
  clear h1
  go_wp2_with fail
  refine (H.sum_on HT.out (by decide) (t := S) HS.out (b := true) rfl).mono ?_
  rintro r wa ⟨Fa, rfl, h1, _, _⟩
  replace HT := Lib.hid h1
  clear h1
  go_wp2_with fail
  refine (HR.out _).mono ?_
  rintro r wb ⟨rfl, hb⟩
  replace HT := Lib.hid (HT.out.below H hb)
  clear hb
  go_wp2_with fail
  refine (H.head_on HT.out (by decide) (s' := ⟨⟨#[]⟩, ⟨#[48, 0, 5]⟩, true, false⟩) rfl (t := ⟨#[5, 6]⟩) rfl).mono ?_
  rintro r wc ⟨Fc, rfl, h1, _, _⟩
  replace HT := Lib.hid h1
  clear h1
  go_wp2_with fail
  refine (H.head_on HT.out (by decide) (s' := ⟨⟨#[]⟩, ⟨#[48, 0, 5]⟩, true, false⟩) rfl (t := ⟨#[]⟩) rfl).mono ?_
  rintro r wd ⟨Fd, rfl, h1, _, _⟩
  have hB := h1.bel
  clear h1
  go_wp2
  go_returns
  exact ⟨rfl, hB⟩
end Go.Proofs.Ytfkfkoebplpooaa
