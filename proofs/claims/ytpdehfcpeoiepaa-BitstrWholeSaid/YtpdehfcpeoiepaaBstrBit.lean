/- What bitstr's Bit gives: the landed code's contract. Of every text and number. -/
import Derived.Test.YtpdehfcpeoiepaaBstrGet
namespace Go.Proofs.Ytpdehfcpeoiepaa
open Go.RowKit Go.PlainAid
set_option linter.unusedVariables false
theorem and8_bit_all : ∀ k : Fin 8, ∀ x : Fin 256, bits .and .u8 (x.val : Int) (2 ^ k.val) = (x.val : Int) / 2 ^ k.val % 2 * 2 ^ k.val := by decide +kernel
theorem and8_bit (x : Int) (k : Nat) (h0 : 0 ≤ x) (h1 : x ≤ 255) (hk : k < 8) : bits .and .u8 x (2 ^ k) = x / 2 ^ k % 2 * 2 ^ k := by
  have := and8_bit_all ⟨k, hk⟩ ⟨x.toNat, by omega⟩
  simp only [Int.toNat_of_nonneg h0] at this
  exact this
theorem bsBit_got (s : ByteArray) (i : Int) (hr : bsR s = true) (h0 : 0 ≤ i) (hi : i / 8 < (s.size : Int) - 1) : bsBit s i = decide (bitAt (bt s (1 + (i / 8).toNat)) (i % 8) = 1) :=
  decide_eq_decide.2 ⟨fun h => h.2.2.2, fun h => ⟨hr, h0, hi, h⟩⟩
theorem bit_is_gen (y m : Int) (hm : 0 < m) : (y % 2 * m != 0) = decide (y % 2 = 1) := by
  rcases (by omega : y % 2 = 0 ∨ y % 2 = 1) with h | h
  · rw [h, Int.zero_mul]; rfl
  · rw [h, Int.one_mul]
    have : m ≠ 0 := by omega
    simp [this]
theorem bit_is (y : Int) {m : Int} (hm : 0 < m := by decide) : (y % 2 * m != 0) = decide (y % 2 = 1) := bit_is_gen y m hm
set_option maxRecDepth 100000 in
set_option maxHeartbeats 1600000 in
theorem bsBit_q (s : ByteArray) (i : Int) (hs : s.size ≤ 281474976710656) (hi1 : i ≤ 9223372036854775807) (w : World) :
    Calls Try.prog 17 #[.string s, .int .i64 i] w fun e w' => e = .returned (.bool (bsBit s i)) ∧ ∃ m, w' = w.drewN m := by
  have hb9 : (s.size : Int) ≤ 9223372036854775807 := by omega
  by_cases hi : i < 0
  · have HF : Hid (false = bsBit s i) := Lib.hid (decide_eq_false (fun h => by omega)).symm
    go_enter Try.func17, Try.ntmps17
    go_wp2
    go_returns
    exact ⟨rets1 (congrArg Value.bool HF.out), 0, rfl⟩
  · have HR := Lib.hid (isRight_q s (by unfold maxLen; omega))
    cases hr : bsR s
    · have HF : Hid (false = bsBit s i) := Lib.hid (decide_eq_false (fun h => by rw [hr] at h; cases h.1)).symm
      rw [hr] at HR
      clear hr
      go_enter Try.func17, Try.ntmps17
      go_wp2_with fail
      refine (HR.out _).mono ?_
      rintro e w1 ⟨rfl, m, rfl⟩
      go_wp2
      go_returns
      exact ⟨rets1 (congrArg Value.bool HF.out), _, rfl⟩
    · have h0 : 0 < s.size := ((bsR_iff s).1 hr).1
      have hi1 : (1 : Int) ≤ (s.size : Int) := by omega
      have h00 : 0 ≤ i := by omega
      have htd : i.tdiv 8 = i / 8 := Int.tdiv_eq_ediv_of_nonneg h00
      have hq0 : 0 ≤ i / 8 := by omega
      have hq1 : i / 8 ≤ 9223372036854775807 := by omega
      have hrs : (s.extract 1 s.size).size = s.size - 1 := by rw [ByteArray.size_extract]; omega
      by_cases hq : i / 8 < (s.size : Int) - 1
      · have HG := Lib.hid (bsBit_got s i hr h00 hq)
        have hx : bt (s.extract 1 s.size) (i / 8).toNat = bt s (1 + (i / 8).toNat) := bt_extract (Nat.le_refl _) (by omega)
        have hlt : (i / 8).toNat < (s.extract 1 s.size).size := by omega
        have hlti : i / 8 < ((s.extract 1 s.size).size : Int) := by omega
        have gx := get_bt (s.extract 1 s.size) (i / 8).toNat hlt
        rw [hx] at gx
        have x0 := bt_nonneg s (1 + (i / 8).toNat)
        have x1 := bt_le s (1 + (i / 8).toNat)
        rw [hr] at HR
        have hk : i % 8 = 0 ∨ i % 8 = 1 ∨ i % 8 = 2 ∨ i % 8 = 3 ∨ i % 8 = 4 ∨ i % 8 = 5 ∨ i % 8 = 6 ∨ i % 8 = 7 := by omega
        have htm : i.tmod 8 = i % 8 := Int.tmod_eq_emod_of_nonneg h00
        have HA := Lib.hid (fun k hk => and8_bit (bt s (1 + (i / 8).toNat)) k x0 x1 hk)
        generalize bt s (1 + (i / 8).toNat) = x at *
        generalize bsBit s i = B at *
        obtain ⟨r, hre⟩ : ∃ r, s.extract 1 s.size = r := ⟨_, rfl⟩
        simp only [hre] at *
        obtain ⟨q, hqe⟩ : ∃ q, i / 8 = q := ⟨_, rfl⟩
        simp only [hqe] at *
        clear hr hx hq hrs
        rcases hk with h | h | h | h | h | h | h | h
        · rw [h] at htm HG
          have hA := HA.out 7 (by decide)
          simp only [Int.reducePow] at hA
          have HF : Hid ((x / 128 % 2 * 128 != 0) = B) := Lib.hid (by rw [HG.out]; exact bit_is (x / 128))
          clear HA HG h
          go_enter Try.func17, Try.ntmps17
          go_wp2_with fail
          refine (HR.out _).mono ?_
          rintro e w1 ⟨rfl, m, rfl⟩
          go_wp2_with fail
          go_quiet (fail)
          go_wp2
          go_returns
          exact ⟨rets1 (congrArg Value.bool HF.out), _, World.drewN_drewN ..⟩
        · rw [h] at htm HG
          have hA := HA.out 6 (by decide)
          simp only [Int.reducePow] at hA
          have HF : Hid ((x / 64 % 2 * 64 != 0) = B) := Lib.hid (by rw [HG.out]; exact bit_is (x / 64))
          clear HA HG h
          go_enter Try.func17, Try.ntmps17
          go_wp2_with fail
          refine (HR.out _).mono ?_
          rintro e w1 ⟨rfl, m, rfl⟩
          go_wp2_with fail
          go_quiet (fail)
          go_wp2
          go_returns
          exact ⟨rets1 (congrArg Value.bool HF.out), _, World.drewN_drewN ..⟩
        · rw [h] at htm HG
          have hA := HA.out 5 (by decide)
          simp only [Int.reducePow] at hA
          have HF : Hid ((x / 32 % 2 * 32 != 0) = B) := Lib.hid (by rw [HG.out]; exact bit_is (x / 32))
          clear HA HG h
          go_enter Try.func17, Try.ntmps17
          go_wp2_with fail
          refine (HR.out _).mono ?_
          rintro e w1 ⟨rfl, m, rfl⟩
          go_wp2_with fail
          go_quiet (fail)
          go_wp2
          go_returns
          exact ⟨rets1 (congrArg Value.bool HF.out), _, World.drewN_drewN ..⟩
        · rw [h] at htm HG
          have hA := HA.out 4 (by decide)
          simp only [Int.reducePow] at hA
          have HF : Hid ((x / 16 % 2 * 16 != 0) = B) := Lib.hid (by rw [HG.out]; exact bit_is (x / 16))
          clear HA HG h
          go_enter Try.func17, Try.ntmps17
          go_wp2_with fail
          refine (HR.out _).mono ?_
          rintro e w1 ⟨rfl, m, rfl⟩
          go_wp2_with fail
          go_quiet (fail)
          go_wp2
          go_returns
          exact ⟨rets1 (congrArg Value.bool HF.out), _, World.drewN_drewN ..⟩
        · rw [h] at htm HG
          have hA := HA.out 3 (by decide)
          simp only [Int.reducePow] at hA
          have HF : Hid ((x / 8 % 2 * 8 != 0) = B) := Lib.hid (by rw [HG.out]; exact bit_is (x / 8))
          clear HA HG h
          go_enter Try.func17, Try.ntmps17
          go_wp2_with fail
          refine (HR.out _).mono ?_
          rintro e w1 ⟨rfl, m, rfl⟩
          go_wp2_with fail
          go_quiet (fail)
          go_wp2
          go_returns
          exact ⟨rets1 (congrArg Value.bool HF.out), _, World.drewN_drewN ..⟩
        · rw [h] at htm HG
          have hA := HA.out 2 (by decide)
          simp only [Int.reducePow] at hA
          have HF : Hid ((x / 4 % 2 * 4 != 0) = B) := Lib.hid (by rw [HG.out]; exact bit_is (x / 4))
          clear HA HG h
          go_enter Try.func17, Try.ntmps17
          go_wp2_with fail
          refine (HR.out _).mono ?_
          rintro e w1 ⟨rfl, m, rfl⟩
          go_wp2_with fail
          go_quiet (fail)
          go_wp2
          go_returns
          exact ⟨rets1 (congrArg Value.bool HF.out), _, World.drewN_drewN ..⟩
        · rw [h] at htm HG
          have hA := HA.out 1 (by decide)
          simp only [Int.reducePow] at hA
          have HF : Hid ((x / 2 % 2 * 2 != 0) = B) := Lib.hid (by rw [HG.out]; exact bit_is (x / 2))
          clear HA HG h
          go_enter Try.func17, Try.ntmps17
          go_wp2_with fail
          refine (HR.out _).mono ?_
          rintro e w1 ⟨rfl, m, rfl⟩
          go_wp2_with fail
          go_quiet (fail)
          go_wp2
          go_returns
          exact ⟨rets1 (congrArg Value.bool HF.out), _, World.drewN_drewN ..⟩
        · rw [h] at htm HG
          have hA := HA.out 0 (by decide)
          simp only [Int.reducePow] at hA
          have HF : Hid ((x % 2 != 0) = B) := Lib.hid (by rw [HG.out]; show _ = decide (x / 1 % 2 = 1); rw [Int.ediv_one]; have := bit_is_gen x 1 (by decide); rwa [Int.mul_one] at this)
          clear HA HG h
          go_enter Try.func17, Try.ntmps17
          go_wp2_with fail
          refine (HR.out _).mono ?_
          rintro e w1 ⟨rfl, m, rfl⟩
          go_wp2_with fail
          go_quiet (fail)
          go_wp2
          go_returns
          exact ⟨rets1 (congrArg Value.bool HF.out), _, World.drewN_drewN ..⟩
      · have HF : Hid (false = bsBit s i) := Lib.hid (decide_eq_false (fun h => hq h.2.2.1)).symm
        have hlti : ¬ i / 8 < ((s.extract 1 s.size).size : Int) := by omega
        rw [hr] at HR
        generalize bsBit s i = B at *
        have hd : decide (i / 8 < ((s.size - 1 : Nat) : Int)) = false := decide_eq_false (by omega)
        generalize i / 8 = q at *
        clear hr hq hlti
        go_enter Try.func17, Try.ntmps17
        go_wp2_with fail
        refine (HR.out _).mono ?_
        rintro e w1 ⟨rfl, m, rfl⟩
        go_wp2_with fail
        go_quiet (fail)
        go_wp2
        go_returns
        exact ⟨rets1 (congrArg Value.bool HF.out), _, World.drewN_drewN ..⟩
theorem bsBit_any (s : ByteArray) (i : Int) (hs : s.size ≤ 281474976710656) (hi1 : i ≤ 9223372036854775807) (w : World) :
    Calls Try.prog 17 #[.string s, .int .i64 i] w fun e w' => e = .returned (.bool (bsBit s i)) ∧ Below w.heap.size w w' :=
  (bsBit_q s i hs hi1 w).mono (fun e w' ⟨h1, m, h2⟩ => ⟨h1, by rw [h2]; exact ⟨rfl, rfl, rfl, Nat.le_refl _, fun _ _ => rfl⟩⟩)
end Go.Proofs.Ytpdehfcpeoiepaa
