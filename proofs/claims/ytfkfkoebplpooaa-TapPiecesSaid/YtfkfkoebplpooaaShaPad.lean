/- What the code's padding gives. -/
import Derived.Test.YtfkfkoebplpooaaSha
import Derived.Test.YtfkfkoebplpooaaWord
import Derived.Test.YtfkfkoebplpooaaShelf
import Derived.IntWalk
namespace Go.Proofs.Ytfkfkoebplpooaa
open Go.RowKit Go.PlainAid
set_option linter.unusedVariables false
theorem pad_tmod (n : Nat) (hn : n ≤ 1000000) : (IntKind.u64.wrap (55 - (n : Int))).tmod 64 = (padZ n : Int) := by
  rw [IntKind.wrap_u64, Int.tmod_eq_emod_of_nonneg (by omega)]
  unfold padZ
  omega
theorem repeat_zero (c : Nat) : (⟨(Lib.repeatL [(0 : UInt8)] c).toArray⟩ : ByteArray) = zeroB c := by
  unfold zeroB
  congr 2
  induction c with
  | zero => rfl
  | succ c ih => rw [List.replicate_succ, ← ih]; simp [Lib.repeatL]
theorem pad_bd (n : Nat) : padZ n < 64 := by unfold padZ; omega
set_option maxHeartbeats 400000 in
theorem padding_any (n : Nat) (hn : n ≤ 1000000) (w : World) :
    Calls Try.prog 28 #[.int .u64 n] w fun e w' => e = .returned (.string (tailB n)) ∧ Below w.heap.size w w' := by
  have ht := pad_tmod n hn
  have hz := pad_bd n
  have HT : Hid (tailB n = ⟨#[128]⟩ ++ zeroB (padZ n) ++ putB (8 * n) 8) := Lib.hid rfl
  have hr := Try.strings_Repeat ⟨#[0]⟩ (padZ n)
  have HZ := Lib.hid (repeat_zero (padZ n))
  have hzs := zeroB_size (padZ n)
  have hps := putB_size (8 * n) 8
  generalize padZ n = z at *
  have hr2 : ∀ w, Calls Try.prog 38 #[.string ⟨#[0]⟩, .int .i64 z] w fun e w' => e = .returned (.string (zeroB z)) ∧ Below w.heap.size w w' := fun w => by
    have h := hr w (by omega) (by show 1 * z ≤ _; omega)
    rw [show (ByteArray.mk #[0]).data.toList = [0] from rfl, HZ.out] at h
    exact h
  have HR := Lib.hid hr2
  clear hr hr2
  have HTM := Lib.hid ht
  have hzi : (z : Int) ≤ 63 := by omega
  have HP := Lib.hid (fun w => put64_any (8 * (n : Int)) (by omega) (by omega) w)
  rw [show (8 * (n : Int)).toNat = 8 * n by omega] at HP
  generalize putB (8 * n) 8 = pb at *
  generalize zeroB z = zb at *
  clear ht
  go_enter Try.func28, Try.ntmps28
  go_wp2_with fail
  rw [HTM.out, show wrap64 (z : Int) = (z : Int) by unfold wrap64; omega]
  refine (HR.out _).mono ?_
  rintro e w1 ⟨rfl, hB1⟩
  go_wp2_with fail
  rw [show (n : Int) * 8 = 8 * (n : Int) by omega]
  refine (HP.out _).mono ?_
  rintro e w2 ⟨rfl, hB2⟩
  go_wp2
  go_ret
  exact ⟨ret_string (by rw [HT.out]), hB1.trans (hB2.mono hB1.size)⟩
end Go.Proofs.Ytfkfkoebplpooaa
