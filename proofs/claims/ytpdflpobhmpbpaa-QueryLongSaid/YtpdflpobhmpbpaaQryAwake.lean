/- The document's fixed answers of layer 18: they come out. -/
import Derived.Test.YtpdflpobhmpbpaaQryCode
import Derived.Test.YtpdflpobhmpbpaaRefQry2
import Derived.Handy
namespace Go.Proofs.Ytpdflpobhmpbpaa
open Go.RowKit Go.PlainAid
set_option linter.unusedVariables false
theorem awake18_found : (((((((QS.zero.begin).push 5).date ⟨#[100]⟩).begin).push 6).push 0).date ⟨#[100]⟩).found [⟨#[5]⟩, ⟨#[6]⟩] = [(true, ⟨#[100]⟩), (false, ⟨#[]⟩)] := by rfl
theorem awake18_ser : serAll [⟨#[5]⟩, ⟨#[6]⟩] = true := by decide +kernel
theorem awake18_bad : serAll [⟨#[0, 5]⟩] = false := by decide +kernel
set_option maxRecDepth 100000 in
set_option maxHeartbeats 8000000 in
theorem awake18_any (w : World) :
    Calls Try.prog 8 #[] w fun e w' => e = .returned (.bool true) ∧ Below w.heap.size w w' := by
  have HF := Lib.hid awake18_found
  have HS := Lib.hid awake18_ser
  have HZ := Lib.hid awake18_bad
  have HA0 : Hid (Below w.heap.size w (w.alloc (.cells #[.string ⟨#[5]⟩, .string ⟨#[6]⟩] 9)) ∧ Came (w.alloc (.cells #[.string ⟨#[5]⟩, .string ⟨#[6]⟩] 9)) (some ⟨w.heap.size, 0, none⟩) (svs [⟨#[5]⟩, ⟨#[6]⟩])) := Lib.hid ⟨(Below.refl _ _).alloc (Nat.le_refl _) _, Came.sl (sl_new_strs w [⟨#[5]⟩, ⟨#[6]⟩] (by show 2 ≤ maxLen; unfold maxLen; omega))⟩
  go_enter Try.func8, Try.ntmps8
  go_wp2_with fail
  refine (qrySpec.new_on (l := [⟨#[5]⟩, ⟨#[6]⟩]) HA0.out.2 (by decide) (by unfold maxLen; decide) HS.out HA0.out.1).mono ?_
  rintro r w1 ⟨k, F, rfl, h, _, _⟩
  have H0 := Lib.hid h
  clear h HA0 HS
  have HW1 : Hid (Below w1.heap.size w1 (w1.alloc (.cells #[.string ⟨#[0, 5]⟩] 9)) ∧ Came (w1.alloc (.cells #[.string ⟨#[0, 5]⟩] 9)) (some ⟨w1.heap.size, 0, none⟩) (svs [⟨#[0, 5]⟩])) := Lib.hid ⟨(Below.refl _ _).alloc (Nat.le_refl _) _, Came.sl (sl_new_strs w1 [⟨#[0, 5]⟩] (by show 1 ≤ maxLen; unfold maxLen; omega))⟩
  go_wp2_with fail
  refine (qrySpec.bad _ (some ⟨w1.heap.size, 0, none⟩) 1 [⟨#[0, 5]⟩] HW1.out.2 (by decide) (by unfold maxLen; decide) (by decide) (fun x hx => by simp at hx; subst hx; show 2 ≤ maxLen; unfold maxLen; omega) HZ.out).mono ?_
  rintro r w2 ⟨rfl, hb⟩
  have H1 := Lib.hid ((H0.out.below qrySpec HW1.out.1).below qrySpec hb)
  clear H0 HW1 HZ hb
  go_wp2_with fail
  refine (qrySpec.begin_on H1.out rfl).mono ?_
  rintro r w3 ⟨F3, rfl, h, _, _⟩
  have H2 := Lib.hid h
  clear h H1
  go_wp2_with fail
  refine (qrySpec.push_on H2.out 5 (by decide) (by decide) rfl).mono ?_
  rintro r w4 ⟨F4, rfl, h, _, _⟩
  have H3 := Lib.hid h
  clear h H2
  go_wp2_with fail
  refine (qrySpec.date_on H3.out ⟨#[100]⟩ rfl).mono ?_
  rintro r w5 ⟨F5, rfl, h, _, _⟩
  have H4 := Lib.hid h
  clear h H3
  go_wp2_with fail
  refine (qrySpec.begin_on H4.out rfl).mono ?_
  rintro r w6 ⟨F6, rfl, h, _, _⟩
  have H5 := Lib.hid h
  clear h H4
  go_wp2_with fail
  refine (qrySpec.push_on H5.out 6 (by decide) (by decide) rfl).mono ?_
  rintro r w7 ⟨F7, rfl, h, _, _⟩
  have H6 := Lib.hid h
  clear h H5
  go_wp2_with fail
  refine (qrySpec.push_on H6.out 0 (by decide) (by decide) rfl).mono ?_
  rintro r w8 ⟨F8, rfl, h, _, _⟩
  have H7 := Lib.hid h
  clear h H6
  go_wp2_with fail
  refine (qrySpec.date_on H7.out ⟨#[100]⟩ rfl).mono ?_
  rintro r w9 ⟨F9, rfl, h, _, _⟩
  have H8 := Lib.hid h
  clear h H7
  go_wp2_with fail
  refine (qrySpec.answers_on H8.out HF.out).mono ?_
  rintro r w10 ⟨v, rfl, hv, h, _⟩
  have HV := Lib.hid (hv.below ((Below.refl _ w10).alloc (Nat.le_refl _) (.cells #[.bool true, .string ⟨#[100]⟩, .bool false, .string ⟨#[]⟩] 43)))
  have HL : Hid (Ans (w10.alloc (.cells #[.bool true, .string ⟨#[100]⟩, .bool false, .string ⟨#[]⟩] 43)) w10.heap.size (.slice (some ⟨w10.heap.size, 0, none⟩) 2 2) [(true, ⟨#[100]⟩), (false, ⟨#[]⟩)]) := Lib.hid (Ans.laid (l := [(true, ⟨#[100]⟩), (false, ⟨#[]⟩)]) (Row.new w10 _ (avs [(true, ⟨#[100]⟩), (false, ⟨#[]⟩)])) (Nat.le_refl _) (by show 2 ≤ maxLen; unfold maxLen; omega))
  have HB := Lib.hid (h.bel.alloc h.bel.size (.cells #[.bool true, .string ⟨#[100]⟩, .bool false, .string ⟨#[]⟩] 43))
  clear hv h H8 HF
  go_wp2_with fail
  refine (refSame18_any HV.out HL.out (by decide)).mono ?_
  rintro r w11 ⟨rfl, n, rfl⟩
  have HD := Lib.hid (below_drew18 HB.out n)
  clear HV HL HB
  go_wp2
  go_returns
  exact ⟨rfl, HD.out⟩
end Go.Proofs.Ytpdflpobhmpbpaa
