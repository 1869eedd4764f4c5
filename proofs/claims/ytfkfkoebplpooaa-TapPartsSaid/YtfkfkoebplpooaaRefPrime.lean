/- What the reference's Prime gives. -/
import Derived.Test.YtfkfkoebplpooaaWord
import Derived.Test.YtfkfkoebplpooaaPrime
namespace Go.Proofs.Ytfkfkoebplpooaa
open Go.RowKit Go.PlainAid
set_option maxHeartbeats 400000 in
theorem refPrime_any (x : Int) (h0 : 0 ≤ x) (h1 : x ≤ 100000) (w : World) :
    Calls Try.prog 30 #[.int .u64 x] w fun e w' => e = .returned (.bool (primeB x.toNat)) ∧ w = w' := by
  obtain ⟨x, rfl⟩ := Int.eq_ofNat_of_zero_le h0
  simp only [Int.toNat_natCast]
  by_cases h2 : x < 2
  · have HE : Hid (primeB x = false) := Lib.hid (by unfold primeB; rw [decide_eq_false (by omega)]; rfl)
    go_enter Try.func30, Try.ntmps30
    go_wp2
    go_ret
    exact ⟨ret_bool HE.out.symm, rfl⟩
  · go_enter Try.func30, Try.ntmps30
    go_wp2
    go_loop [3] (fun dv => ∃ d : Nat, 2 ≤ d ∧ d ≤ 400 ∧ dv = .int .u64 d ∧ Hid (∀ e, 2 ≤ e → e < d → x % e ≠ 0)) (fun d => 400 - (intOf d).toNat)
    case atStart => exact ⟨2, by omega, by omega, rfl, Lib.hid (by omega)⟩
    case round =>
      obtain ⟨d, hd2, hd, rfl, HD⟩ := hrel
      have hm0 : (0 : Int) ≤ (d : Int) * (d : Int) := by rw [← Int.natCast_mul]; omega
      have hm1 : (d : Int) * (d : Int) ≤ 160000 := by
        have := Nat.mul_le_mul hd hd
        rw [← Int.natCast_mul]; omega
      have hdz : (2 : Int) ≤ (d : Int) := by omega
      by_cases hq : d * d ≤ x
      · have hq' : (d : Int) * (d : Int) ≤ (x : Int) := by rw [← Int.natCast_mul]; omega
        have hd3 : d < 317 := by
          apply Nat.lt_of_not_le
          intro h
          have := Nat.mul_le_mul h h
          omega
        by_cases hm : x % d = 0
        · have hm' : ((x : Int) % (d : Int) == 0) = true := by rw [← Int.natCast_emod, hm]; rfl
          have HE : Hid (primeB x = false) := Lib.hid (by
            cases hp : primeB x with
            | false => rfl
            | true => exact absurd hm ((prime_iff.1 hp).2 d hd2 hq))
          clear hq hm
          go_wp2
          go_ret
          exact ⟨ret_bool HE.out.symm, rfl⟩
        · have hm' : ((x : Int) % (d : Int) == 0) = false := by rw [← Int.natCast_emod]; simp; omega
          have HN : Hid (∀ e, 2 ≤ e → e < d + 1 → x % e ≠ 0) := Lib.hid (by
            intro e h1 h2
            rcases Nat.lt_or_ge e d with h3 | h3
            · exact HD.out e h1 h3
            · have : e = d := by omega
              subst this; exact hm)
          clear hq hm
          go_wp2
          go_round
          case rel => exact ⟨d + 1, by omega, by omega, by go_num, HN⟩
          case measure => simp [intOf]; omega
      · have hq' : ¬ (d : Int) * (d : Int) ≤ (x : Int) := by rw [← Int.natCast_mul]; omega
        have HE : Hid (primeB x = true) := Lib.hid (prime_iff.2 ⟨by omega, fun e h1 h2 => HD.out e h1 (by
          apply Nat.lt_of_not_le
          intro h
          have := Nat.mul_le_mul h h
          omega)⟩)
        clear hq
        go_wp2
        go_ret
        exact ⟨ret_bool HE.out.symm, rfl⟩
end Go.Proofs.Ytfkfkoebplpooaa
