/- The document's fixed answers of layer 6 hold: 'awake' returns true. Over LenCode, the landed code's contracts. -/
import Derived.Test.YtaijmnagbagocaaLenCode
import Derived.Test.YtaijmnagbagocaaLenLaw
namespace Go.Proofs.Ytaijmnagbagocaa
open Go.RowKit Go.PlainAid
set_option linter.unusedVariables false
theorem lenGet_is (b : ByteArray) (at_ : Int) (hb : b.size ≤ maxLen) (ha : -9223372036854775808 ≤ at_ ∧ at_ ≤ 9223372036854775807) {v n e : Int} (h : lgAt b at_ = (v, n, e)) (w : World) :
    Calls Try.prog 12 #[.string b, .int .i64 at_] w fun r w' => r = .returned (.tuple #[.int .i64 v, .int .i64 n, .int .i64 e]) ∧ Below w.heap.size w w' := by
  have := lenGet_any b at_ hb ha w
  rw [h] at this
  exact this
theorem kl_p1 : lpS 128 = ⟨#[129, 128]⟩ := by
  have : hiB 128 = [128] := by rw [hiB_pos (by decide), show 128 / 256 = 0 by decide, hiB_zero]; rfl
  have h2 : nB 128 = 1 := by rw [← show (hiB 128).length = nB 128 from hiB_len 128, this]; rfl
  rw [lpS_ok (by decide), lenPut, if_neg (by decide), show (128 : Int).toNat = 128 by decide, this, h2]; decide +kernel
theorem kl_e1 : lpE 128 = 0 := by decide
theorem kl_g1 : lgAt ⟨#[120, 129, 128]⟩ 1 = (128, 3, 0) := by decide +kernel
theorem kl_g2 : lgAt ⟨#[129, 127]⟩ 0 = (0, 1, 4) := by decide +kernel
theorem kl_g3 : lgAt ⟨#[128]⟩ 0 = (0, 0, 4) := by decide +kernel
theorem kl_g4 : lgAt ⟨#[130, 0, 255]⟩ 0 = (0, 1, 4) := by decide +kernel
set_option maxHeartbeats 1600000 in
theorem awake06_any (w : World) :
    Calls Try.prog 11 #[] w fun e w' => e = .returned (.bool true) ∧ Below w.heap.size w w' := by
  go_enter Try.func11, Try.ntmps11
  go_wp2_with fail
  refine (lenPut_all 128 (by decide) _).mono ?_
  rw [kl_p1, kl_e1]
  rintro e w1 ⟨rfl, hB1⟩
  go_wp2_with fail
  refine (lenGet_is _ 1 (by decide +kernel) (by decide) kl_g1 _).mono ?_
  rintro e w2 ⟨rfl, hb⟩
  have hB2 := hB1.trans (hb.mono hB1.size)
  clear hb hB1
  go_wp2_with fail
  refine (lenGet_is _ 0 (by decide +kernel) (by decide) kl_g2 _).mono ?_
  rintro e w3 ⟨rfl, hb⟩
  have hB3 := hB2.trans (hb.mono hB2.size)
  clear hb hB2
  go_wp2_with fail
  refine (lenGet_is _ 0 (by decide +kernel) (by decide) kl_g3 _).mono ?_
  rintro e w4 ⟨rfl, hb⟩
  have hB4 := hB3.trans (hb.mono hB3.size)
  clear hb hB3
  go_wp2_with fail
  refine (lenGet_is _ 0 (by decide +kernel) (by decide) kl_g4 _).mono ?_
  rintro e w5 ⟨rfl, hb⟩
  have hB5 := hB4.trans (hb.mono hB4.size)
  clear hb hB4
  go_wp2
  go_returns
  exact ⟨rfl, hB5⟩
end Go.Proofs.Ytaijmnagbagocaa
