/- The document's fixed answers of layer 7 hold: 'awake' returns true. Over HeadCode, the landed code's contracts. -/
import Derived.Test.YtkokjeakpecndaaHeadCode
import Derived.Test.YtkokjeakpecndaaHeadLaw
namespace Go.Proofs.Ytkokjeakpecndaa
open Go.RowKit Go.PlainAid
set_option linter.unusedVariables false
theorem headGet_is (b : ByteArray) (at_ : Int) (hb : b.size ≤ maxLen) (ha : -9223372036854775808 ≤ at_ ∧ at_ ≤ 9223372036854775807) {c t : Int} {k : Bool} {v n e : Int} (h : hgAt b at_ = (c, t, k, v, n, e)) (w : World) :
    Calls Try.prog 12 #[.string b, .int .i64 at_] w fun r w' => r = .returned (.tuple #[.agg #[.int .i64 c, .int .i64 t, .bool k, .int .i64 v], .int .i64 n, .int .i64 e]) ∧ Below w.heap.size w w' := by
  have := headGet_any b at_ hb ha w
  rw [h] at this
  exact this
theorem refHeadGet_is (b : ByteArray) (at_ : Int) (hb : b.size ≤ maxLen) (ha : -9223372036854775808 ≤ at_ ∧ at_ ≤ 9223372036854775807) {c t : Int} {k : Bool} {v n e : Int} (h : hgAt b at_ = (c, t, k, v, n, e)) (w : World) :
    Calls Try.prog 13 #[.string b, .int .i64 at_] w fun r w' => r = .returned (.tuple #[.agg #[.int .i64 c, .int .i64 t, .bool k, .int .i64 v], .int .i64 n, .int .i64 e]) ∧ Below w.heap.size w w' := by
  have := refHeadGet_any b at_ hb ha w
  rw [h] at this
  exact this
theorem kh_p1 : hpS 0 2 false 1 = ⟨#[2, 1]⟩ := by
  rw [hpS_ok (by decide), hdPut, idPut, lenPut, if_pos (by decide), if_pos (by decide)]; decide +kernel
theorem kh_e1 : hpE 0 2 1 = 0 := by decide
theorem kh_g1 : hgAt ⟨#[48, 128]⟩ 0 = (0, 0, false, 0, 1, 4) := by decide +kernel
theorem kh_g2 : hgAt ⟨#[2, 1]⟩ 0 = (0, 2, false, 1, 2, 0) := by decide +kernel
theorem kh_t1 : (⟨[], 0⟩ : HS).tell 2 = (0, 0, false, 0, false, 0) := by decide +kernel
theorem kh_s1 : (⟨[], 0⟩ : HS).next 2 = ⟨[2], 0⟩ := by
  have : (hdGet ([] ++ [(2 : Int)])).2.2.2.2.2 = 2 := by decide +kernel
  unfold HS.next; rw [if_neg (by decide)]; exact if_pos this
theorem kh_t2 : (⟨[2], 0⟩ : HS).tell 1 = (0, 2, false, 1, true, 0) := by decide +kernel
set_option maxRecDepth 100000 in
set_option maxHeartbeats 4000000 in
theorem awake07_any (w : World) :
    Calls Try.prog 11 #[] w fun e w' => e = .returned (.bool true) ∧ Below w.heap.size w w' := by
  go_enter Try.func11, Try.ntmps11
  go_wp2_with fail
  refine (headGet_is _ 0 (by decide +kernel) (by decide) kh_g1 _).mono ?_
  rintro e w1 ⟨rfl, hB1⟩
  have hB1 := hB1.alloc hB1.size (.cells (hdC 0 0 false 0).toArray 23)
  go_wp2_with fail
  refine (headGet_is _ 0 (by decide +kernel) (by decide) kh_g2 _).mono ?_
  rintro e w2 ⟨rfl, hb⟩
  have hB2 := hB1.trans (hb.mono hB1.size)
  have HX2 := Lib.hid (Row.new w2 23 (hdC 0 2 false 1))
  have hB2 := hB2.alloc hB2.size (.cells (hdC 0 2 false 1).toArray 23)
  clear hb hB1
  go_wp2_with fail
  refine (rdSpec.new _).mono ?_
  rintro e w3 ⟨k, F, rfl, hF, hR, hb⟩
  generalize hA : w2.alloc (.cells #[.int .i64 0, .int .i64 2, .bool false, .int .i64 1] 23) = A at *
  have HXA : Hid (Row A w2.heap.size 23 (hdC 0 2 false 1)) := by rw [← hA]; exact HX2
  have hB2 : Below w.heap.size w A := by rw [← hA]; exact hB2
  have hA1 : Hid (A.heap.size = w2.heap.size + 1) := Lib.hid (by rw [← hA]; simp)
  have HR := Lib.hid hR
  clear hA HX2 hR
  go_wp2_with fail
  refine (rdSpec.push_on 2 HR.out (by decide) (by decide) hb hF kh_t1 kh_s1).mono ?_
  rintro e w4 ⟨rfl, F4, hF4, hR4, hb4, _⟩
  have hb4 := hb4.alloc hb4.size (.cells (hdC 0 0 false 0).toArray 23)
  have HR4 := Lib.hid (rdSpec.below hR4 ((Below.refl _ w4).alloc (Nat.le_refl _) (.cells (hdC 0 0 false 0).toArray 23)))
  clear hb HR hF hR4
  go_wp2_with fail
  refine (rdSpec.push_on 1 HR4.out (by decide) (by decide) hb4 hF4 kh_t2 rfl).mono ?_
  rintro e w5 ⟨rfl, F5, hF5, hR5, hb5, _⟩
  have HM5 := Lib.hid (Row.new w5 23 (hdC 0 2 false 1))
  have hb5 := hb5.alloc hb5.size (.cells (hdC 0 2 false 1).toArray 23)
  clear hb4 HR4 hF4 hF5 hR5
  go_wp2_with fail
  refine (headPut_all 0 2 false 1 (by decide) _).mono ?_
  rw [kh_p1, kh_e1]
  rintro e w6 ⟨rfl, hb⟩
  have hb6 := hb5.trans (hb.mono hb5.size)
  have HM6 := Lib.hid (HM5.out.below hb HM5.out.lt)
  have HX6 := Lib.hid (HXA.out.below hb6 HXA.out.lt)
  have hB6 := hB2.trans (hb6.mono hB2.size)
  clear hb hb5 hb6 HM5 HXA hB2
  obtain ⟨j0, j1, j2, j3, _, _, _, _⟩ := head_facts HX6.out
  obtain ⟨k0, k1, k2, k3, _, _, _, _⟩ := head_facts HM6.out
  have hlt1 := HX6.out.lt
  have hlt2 := HM6.out.lt
  go_wp2
  go_returns
  exact ⟨rfl, by first | exact hB6 | (refine ((hB6.alloc ?_ _).alloc ?_ _) <;> simp)⟩
end Go.Proofs.Ytkokjeakpecndaa
