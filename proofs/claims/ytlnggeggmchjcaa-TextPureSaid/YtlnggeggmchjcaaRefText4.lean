/- What the reference's Wrong of strings gives. Of every tag and number, and every text of at most 900000 bytes. -/
import Derived.Test.YtlnggeggmchjcaaRefText3
namespace Go.Proofs.Ytlnggeggmchjcaa
open Go.RowKit Go.PlainAid
set_option linter.unusedVariables false
set_option maxHeartbeats 1600000 in
theorem refTextWrong_any (tag n : Int) (s : ByteArray) (hs : s.size ≤ 900000) (w : World) :
    Calls Try.prog 9 #[.int .i64 tag, .int .i64 n, .string s] w fun e w' => e = .returned (.int .i64 (txW tag n (bl s))) ∧ Below w.heap.size w w' := by
  have hb9 : (s.size : Int) ≤ 900000 := by omega
  have HC := Lib.hid (fun (i : Nat) (hi : i ≤ s.size) => (show bl (s.extract 0 i) = (bl s).take i by rw [bl_extract _ _ _ hi]; simp) ▸ refTextCan_any tag n (s.extract 0 i) (by rw [ByteArray.size_extract]; omega))
  have HW : Hid (wrF (fun i => decide (canT tag n ((bl s).take i))) (s.size + 1) 0 = txW tag n (bl s)) := Lib.hid (by unfold txW; rw [bl_length])
  have HS := Lib.hid (fun (k i : Nat) => show wrF (fun i => decide (canT tag n ((bl s).take i))) (k + 1) i = if decide (canT tag n ((bl s).take i)) = true then wrF (fun i => decide (canT tag n ((bl s).take i))) k (i + 1) else i from rfl)
  have H0 := Lib.hid (fun (i : Nat) => show wrF (fun i => decide (canT tag n ((bl s).take i))) 0 i = -1 from rfl)
  generalize txW tag n (bl s) = W at *
  go_enter Try.func9, Try.ntmps9
  go_wp2
  go_loopw [7] (fun iv wr => ∃ (i k : Nat), iv = .int .i64 (i : Int) ∧ i + k = s.size + 1 ∧ Hid (Below w.heap.size w wr) ∧ Hid (wrF (fun i => decide (canT tag n ((bl s).take i))) k i = W)) (fun iv _ => s.size + 1 - (intOf iv).toNat)
  case atStart => exact ⟨0, s.size + 1, rfl, by omega, Lib.hid (Below.refl _ _), HW⟩
  case round =>
    obtain ⟨i, k, rfl, hik, HB, HT⟩ := hrel
    by_cases hlt : i ≤ s.size
    · have hlti : (i : Int) ≤ (s.size : Int) := by omega
      obtain ⟨k, rfl⟩ : ∃ k', k = k' + 1 := ⟨k - 1, by omega⟩
      have HCI := Lib.hid (HC.out i hlt)
      have HST := Lib.hid ((HS.out k i).symm.trans HT.out)
      by_cases hc : canT tag n ((bl s).take i)
      · have HZ : Hid (wrF (fun i => decide (canT tag n ((bl s).take i))) k (i + 1) = W) := Lib.hid (by have := HST.out; rwa [if_pos (decide_eq_true hc)] at this)
        rw [decide_eq_true hc] at HCI
        clear hc HST HT
        go_wp2_with fail
        refine (HCI.out _).mono ?_
        rintro e w1 ⟨rfl, hb⟩
        have HB2 := Lib.hid (HB.out.trans (hb.mono HB.out.size))
        go_wp2
        go_roundw
        case rel => exact ⟨i + 1, k, by simp, by omega, HB2, HZ⟩
        case measure => simp [intOf]; omega
      · have HZ : Hid ((i : Int) = W) := Lib.hid (by have := HST.out; rwa [if_neg (fun e => hc (of_decide_eq_true e))] at this)
        rw [decide_eq_false hc] at HCI
        clear hc HST HT
        go_wp2_with fail
        refine (HCI.out _).mono ?_
        rintro e w1 ⟨rfl, hb⟩
        have HB2 := Lib.hid (HB.out.trans (hb.mono HB.out.size))
        go_wp2
        go_returns
        exact ⟨rets1 (congrArg (Value.int .i64) HZ.out), HB2.out⟩
    · have hne : ¬ (i : Int) ≤ (s.size : Int) := by omega
      have hk0 : k = 0 := by omega
      subst hk0
      have HZ : Hid (-1 = W) := Lib.hid ((H0.out i).symm.trans HT.out)
      go_wp2
      go_returns
      exact ⟨rets1 (congrArg (Value.int .i64) HZ.out), HB.out⟩
end Go.Proofs.Ytlnggeggmchjcaa
