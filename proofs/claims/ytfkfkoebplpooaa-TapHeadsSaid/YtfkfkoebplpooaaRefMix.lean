/- What the reference's turn, half, Pad give; then a block's state (Mix). -/
import Derived.Test.YtfkfkoebplpooaaRefConsts
import Derived.StillTailTactics
namespace Go.Proofs.Ytfkfkoebplpooaa
open Go.RowKit Go.PlainAid
set_option linter.unusedVariables false
theorem refTurn2_q (x n : Int) (h0 : 0 ≤ x) (h1 : x ≤ 4294967295) (w : World) :
    Calls Try.prog 32 #[.int .u32 x, .int .i64 n] w fun e w' => e = .returned (.int .u32 (turnI x n)) ∧ w' = w := by
  go_enter Try.func32, Try.ntmps32
  go_wp2_with (go_at_call 43; refine (refTurn_any _ _ h0 h1 _).mono ?_; rintro e w' ⟨rfl, rfl⟩)
  go_ret
  exact ⟨rfl, rfl⟩
set_option maxHeartbeats 400000 in
theorem half_q (x : Int) (n : Nat) (hn : n ≤ 32) (h0 : 0 ≤ x) (h1 : x ≤ 4294967295) (w : World) :
    Calls Try.prog 33 #[.int .u32 x, .int .i64 n] w fun e w' => e = .returned (.int .u32 (x / 2 ^ n)) ∧ w' = w := by
  go_enter Try.func33, Try.ntmps33
  go_wp2
  go_loop [0, 5] (fun xs i => ∃ k : Nat, k ≤ n ∧ i = .int .i64 k ∧ xs = .int .u32 (x / 2 ^ k)) (fun _ i => (n - intOf i).toNat)
  case atStart => exact ⟨0, by omega, rfl, by simp⟩
  case round =>
    obtain ⟨k, hk, rfl, rfl⟩ := hrel
    have hs : x / 2 ^ k / 2 = x / 2 ^ (k + 1) := by rw [Int.pow_succ, ← Int.ediv_ediv_of_nonneg (Int.pow_nonneg (by omega))]
    have y0 : 0 ≤ x / 2 ^ k := Int.ediv_nonneg h0 (Int.pow_nonneg (by omega))
    have y1 : x / 2 ^ k ≤ x := Int.ediv_le_self _ h0
    by_cases hlt : k < n
    · have HS := Lib.hid hs
      clear hs
      generalize x / 2 ^ k = y at *
      go_wp2
      go_round
      case rel => exact ⟨k + 1, by omega, by go_num, by rw [HS.out]⟩
      case measure => simp [intOf]; omega
    · have hkn : k = n := by omega
      subst hkn
      clear hs
      go_wp2
      go_ret
      exact ⟨rfl, rfl⟩

theorem zeroB_snoc (n : Nat) : zeroB n ++ ⟨#[0]⟩ = zeroB (n + 1) := by
  apply ByteArray.ext
  rw [ByteArray.data_append]
  unfold zeroB
  rw [List.replicate_succ']
  simp only [List.append_toArray]
theorem padZ_lt (n : Nat) : padZ n < 64 ∧ (n + 1 + padZ n) % 64 = 56 := by unfold padZ; omega
theorem padZ_first {n z : Nat} (h : z < padZ n) : (n + 1 + z) % 64 ≠ 56 := by unfold padZ at h; omega
set_option maxHeartbeats 400000 in
theorem refPad_any (b : ByteArray) (hb : b.size ≤ 1000000) (w : World) :
    Calls Try.prog 21 #[.string b] w fun e w' => e = .returned (.string (padB b)) ∧ Below w.heap.size w w' := by
  have hp := padZ_lt b.size
  obtain ⟨hp1, hp2⟩ := hp
  have HF := Lib.hid (fun z h => padZ_first (n := b.size) (z := z) h)
  have HP2 := Lib.hid hp2
  have HPD : Hid (padB b = b ++ ⟨#[128]⟩ ++ zeroB (padZ b.size) ++ putB (8 * b.size) 8) := Lib.hid (by unfold padB tailB; rw [ByteArray.append_assoc, ByteArray.append_assoc, ByteArray.append_assoc])
  clear hp2
  generalize padZ b.size = Z at *
  go_enter Try.func21, Try.ntmps21
  go_wp2
  go_loopg [3] Z (fun gn ov wr => ∃ z : Nat, z ≤ Z ∧ gn = Z - z ∧ wr = w ∧ ov = .string (b ++ ⟨#[128]⟩ ++ zeroB z))
  case atStart => exact ⟨0, by omega, by omega, rfl, by rw [show zeroB 0 = ByteArray.empty from rfl, ByteArray.append_empty]⟩
  case round =>
    obtain ⟨z, hz, rfl, rfl, rfl⟩ := hrel
    have hsz : (b ++ ⟨#[128]⟩ ++ zeroB z).size = b.size + 1 + z := by rw [ByteArray.size_append, ByteArray.size_append, zeroB_size]; rfl
    by_cases hlt : z < Z
    · have hne := HF.out z hlt
      have hne' : ((((b.size + 1 + z : Nat) : Int) % 64) != 56) = true := by simp; omega
      have HSN : Hid (b ++ ⟨#[128]⟩ ++ zeroB z ++ ⟨#[0]⟩ = b ++ ⟨#[128]⟩ ++ zeroB (z + 1)) := Lib.hid (by rw [ByteArray.append_assoc (b := zeroB z), zeroB_snoc])
      clear hne
      generalize b ++ ⟨#[128]⟩ ++ zeroB z = s at *
      have hm : s.size ≤ 2000000 := by omega
      go_wp2
      go_roundg (Z - (z + 1))
      case measure => omega
      case rel => exact ⟨z + 1, by omega, rfl, rfl, by rw [HSN.out]⟩
    · have hzZ : z = Z := by omega
      subst hzZ
      have he := HP2.out
      have he' : ((((b.size + 1 + z : Nat) : Int) % 64) != 56) = false := by simp; omega
      clear he
      generalize hs : b ++ ⟨#[128]⟩ ++ zeroB z = s at *
      have HS := Lib.hid hs
      have hm : s.size ≤ 2000000 := by omega
      clear hs
      go_wp2_with fail
      refine (refPut_any (8 * (b.size : Int)) 8 (by omega) (by omega) (by decide) (by decide) _).mono ?_
      rintro e w1 ⟨rfl, hB⟩
      have hps : (putB (8 * (b.size : Int)).toNat 8).size = 8 := putB_size _ _
      have HQ : Hid (s ++ putB (8 * (b.size : Int)).toNat 8 = padB b) := Lib.hid (by
        rw [HPD.out, show (8 * (b.size : Int)).toNat = 8 * b.size by omega])
      rw [show (8 : Int).toNat = 8 from rfl]
      generalize putB (8 * (b.size : Int)).toNat 8 = q at *
      go_wp2
      go_ret
      exact ⟨ret_string HQ.out, hB⟩
end Go.Proofs.Ytfkfkoebplpooaa
