/- What bitstr's isRight gives: the landed code's contract. Of every text. -/
import Derived.Test.YtpdehfcpeoiepaaBstrStep
namespace Go.Proofs.Ytpdehfcpeoiepaa
open Go.RowKit Go.PlainAid
set_option linter.unusedVariables false
set_option maxRecDepth 100000 in
set_option maxHeartbeats 1600000 in
theorem isRight_q (s : ByteArray) (hs : s.size ≤ maxLen) (w : World) :
    Calls Try.prog 21 #[.string s] w fun e w' => e = .returned (.bool (bsR s)) ∧ ∃ m, w' = w.drewN m := by
  have hb9 : (s.size : Int) ≤ 9223372036854775807 := by unfold maxLen at hs; omega
  have HI := Lib.hid (bsR_iff s)
  by_cases h0 : 0 < s.size
  · have hi0 : (0 : Int) < (s.size : Int) := by omega
    have g0 := get_bt s 0 h0
    have HB := Lib.hid (canBegin_any (bt s 0) s.size)
    have hx0 := bt_nonneg s 0
    have hx1 := bt_le s 0
    have HL := Lib.hid (cB_le (u := bt s 0) (n := s.size))
    have gl := get_bt s (s.size - 1) (by omega)
    have hy0 := bt_nonneg s (s.size - 1)
    have hy1 := bt_le s (s.size - 1)
    generalize bt s (s.size - 1) = y at *
    generalize bt s 0 = x at *
    have hil : ((s.size : Int) - 1).toNat = s.size - 1 := by omega
    cases hb : cB x s.size
    · have HF : Hid (false = bsR s) := Lib.hid (by cases h : bsR s; rfl; have := (HI.out.1 h).2.1; rw [hb] at this; cases this)
      rw [hb] at HB
      clear hb HL
      go_enter Try.func21, Try.ntmps21
      go_wp2_with fail
      go_quiet ((go_at_call 23; exact Calls.quiet_of_same (HB.out _)))
      go_wp2
      go_returns
      exact ⟨rets1 (congrArg Value.bool HF.out), _, rfl⟩
    · have HE := Lib.hid (canEnd_any x y hx0 (HL.out hb) hy0 hy1)
      have HF : Hid (cE x y = bsR s) := Lib.hid (by
        cases h : bsR s
        · cases he : cE x y
          · rfl
          · have := HI.out.2 ⟨h0, hb, he⟩; rw [h] at this; cases this
        · exact (HI.out.1 h).2.2)
      rw [hb] at HB
      clear hb HL
      go_enter Try.func21, Try.ntmps21
      go_wp2_with fail
      go_quiet ((first | (go_at_call 23; exact Calls.quiet_of_same (HB.out _)) | (go_at_call 24; exact Calls.quiet_of_same (HE.out _))))
      go_wp2
      go_returns
      exact ⟨rets1 (congrArg Value.bool HF.out), _, rfl⟩
  · have hz : s.size = 0 := by omega
    have HF : Hid (false = bsR s) := Lib.hid (by cases h : bsR s; rfl; exact absurd (HI.out.1 h).1 h0)
    clear h0
    go_enter Try.func21, Try.ntmps21
    go_wp2_with fail
    go_quiet (fail)
    go_wp2
    go_returns
    exact ⟨rets1 (congrArg Value.bool HF.out), _, rfl⟩
theorem isRight_any (s : ByteArray) (hs : s.size ≤ maxLen) (w : World) :
    Calls Try.prog 21 #[.string s] w fun e w' => e = .returned (.bool (bsR s)) ∧ Below w.heap.size w w' :=
  (isRight_q s hs w).mono (fun e w' ⟨h1, m, h2⟩ => ⟨h1, by rw [h2]; exact ⟨rfl, rfl, rfl, Nat.le_refl _, fun _ _ => rfl⟩⟩)
end Go.Proofs.Ytpdehfcpeoiepaa
