/- What number's Get gives: the landed code's contract. Of every text. -/
import Derived.Test.YtpifhlifjmnfiaaNumPut
import Derived.Laws.BytesArg
import Derived.Handy
namespace Go.Proofs.Ytpifhlifjmnfiaa
open Go.RowKit Go.PlainAid
set_option linter.unusedVariables false
theorem shl8_and (a b : BitVec 64) (hb : b.toNat < 256) : (a <<< 8) &&& b = 0#64 := by
  apply BitVec.eq_of_getLsbD_eq
  intro i hi
  rw [BitVec.getLsbD_and, BitVec.getLsbD_shiftLeft]
  by_cases h : i < 8
  · simp [h]
  · have : b.getLsbD i = false := by
      rw [BitVec.getLsbD, Nat.testBit_lt_two_pow]
      exact Nat.lt_of_lt_of_le hb (by have := Nat.pow_le_pow_right (n := 2) (by decide) (show 8 ≤ i by omega); simpa using this)
    simp [this]
theorem ors_add (m x : Int) (hx0 : 0 ≤ x) (hx1 : x ≤ 255) (h0 : -9223372036854775808 ≤ m * 256 + x) (h1 : m * 256 + x ≤ 9223372036854775807) : bits .or .i64 (m * 256) x = m * 256 + x := by
  have hx : (BitVec.ofInt 64 x).toNat < 256 := by rw [ofInt_toNat64 hx0 (by omega)]; omega
  have hm : BitVec.ofInt 64 (m * 256) = (BitVec.ofInt 64 m) <<< 8 := by
    rw [BitVec.shiftLeft_eq_mul_twoPow, BitVec.ofInt_mul]; rfl
  rw [bits_ori, hm, ← BitVec.add_eq_or_of_and_eq_zero _ _ (shl8_and _ _ hx), ← hm, ← BitVec.ofInt_add, BitVec.toNat_ofInt, IntKind.wrap_i64]
  omega
theorem sval_step (s : ByteArray) (i : Nat) (h1 : 1 ≤ i) (h : i < s.size) : sval ((bl s).take (i + 1)) = sval ((bl s).take i) * 256 + bt s i := by
  rw [List.take_add_one, bl_at s i h, Option.toList_some, sval_snoc]
  intro h0
  have := congrArg List.length h0
  rw [List.length_take, bl_length, List.length_nil] at this
  omega
theorem sval_one (s : ByteArray) (h : 0 < s.size) : sval ((bl s).take 1) = if 127 < bt s 0 then bt s 0 - 256 else bt s 0 := by
  have := bl_drop s 0 h
  rw [List.drop_zero] at this
  rw [this]; rfl
theorem sval_all (s : ByteArray) : sval ((bl s).take s.size) = sval (bl s) := by rw [List.take_of_length_le (by rw [bl_length]; omega)]
theorem sval_fit (s : ByteArray) (i : Nat) (h1 : 1 ≤ i) (h : i ≤ s.size) (h8 : i ≤ 8) : -9223372036854775808 ≤ sval ((bl s).take i) ∧ sval ((bl s).take i) ≤ 9223372036854775807 :=
  sval_i64 _ ((bl_isB s).take i) (by rw [List.length_take, bl_length]; omega) (by rw [List.length_take]; omega)
theorem i8_first (x : Int) (h0 : 0 ≤ x) (h1 : x ≤ 255) : IntKind.i8.wrap x = if 127 < x then x - 256 else x := by rw [i8_wrap]; split <;> omega
set_option maxHeartbeats 1600000 in
theorem numGet_any (b : ByteArray) (hb : b.size ≤ maxLen) (w : World) :
    Calls Try.prog 13 #[.string b] w fun e w' => e = .returned (.tuple #[.int .i64 (ngV b), .bool (ngB b)]) ∧ Below w.heap.size w w' := by
  have hb9 : (b.size : Int) ≤ 9223372036854775807 := by unfold maxLen at hb; omega
  by_cases h8 : b.size ≤ 8
  · have h8i : ¬ (8 : Int) < (b.size : Int) := by omega
    have HI := Lib.hid (isInteger_any b hb)
    by_cases hok : numOk (bl b) = true
    · have h1 : 1 ≤ b.size := by have := (numOk_iff.1 hok).1; rwa [bl_length] at this
      have HV : Hid (ngV b = sval ((bl b).take b.size)) := Lib.hid (by unfold ngV; rw [if_pos ⟨hok, h8⟩, sval_all])
      have HB : Hid (ngB b = true) := Lib.hid (by unfold ngB; exact decide_eq_true ⟨hok, h8⟩)
      rw [hok] at HI
      have HS1 := Lib.hid (sval_one b h1)
      have HSS := Lib.hid (sval_step b)
      have HSF := Lib.hid (sval_fit b)
      generalize hV : (fun i => sval ((bl b).take i)) = V at *
      have hVi : ∀ i, sval ((bl b).take i) = V i := fun i => by rw [← hV]
      simp only [hVi] at HV HS1 HSS HSF
      clear hV hVi hok
      have hbt0 := get_bt b 0 h1
      have hx0 := bt_nonneg b 0
      have hx1 := bt_le b 0
      have HGB := Lib.hid (get_bt b)
      have HX0 := Lib.hid (bt_nonneg b)
      have HX1 := Lib.hid (bt_le b)
      have HE8 := Lib.hid (i8_first (bt b 0) hx0 hx1)
      obtain ⟨x, hx⟩ : ∃ x, bt b 0 = x := ⟨_, rfl⟩
      rw [hx] at hbt0 hx0 hx1 HS1 HE8
      rw [← HS1.out] at HE8
      have he8 := HE8.out
      have hV1 := HSF.out 1 (by omega) h1 (by omega)
      have h1i : (0 : Int) < (b.size : Int) := by omega
      clear hx HE8 HS1
      go_enter Try.func13, Try.ntmps13
      go_wp2_with fail
      refine (HI.out _).mono ?_
      rintro e w1 ⟨rfl, hB1⟩
      go_wp2
      go_loopw [4, 5] (fun nv iv wr => ∃ (i : Nat), nv = .int .i64 (V i) ∧ iv = .int .i64 (i : Int) ∧ 1 ≤ i ∧ i ≤ b.size ∧ wr = w1) (fun _ iv _ => b.size - (intOf iv).toNat)
      case atStart => exact ⟨1, rfl, rfl, by omega, by omega, rfl⟩
      case round =>
        obtain ⟨i, rfl, rfl, hi1, hi, rfl⟩ := hrel
        by_cases hlt : i < b.size
        · have hbt := HGB.out i hlt
          have hy0 := HX0.out i
          have hy1 := HX1.out i
          have hs := HSS.out i hi1 hlt
          have hf := HSF.out (i + 1) (by omega) (by omega) (by omega)
          have hfi := HSF.out i hi1 hi (by omega)
          generalize bt b i = y at *
          rw [hs] at hf
          have hor := ors_add (V i) y hy0 hy1 hf.1 hf.2
          have HS := Lib.hid hs
          have hm0 : -9223372036854775808 ≤ V i * 256 := by omega
          have hm1 : V i * 256 ≤ 9223372036854775807 := by omega
          clear hs hbt0 he8 hV1
          go_wp2
          go_roundw
          case rel => exact ⟨i + 1, by rw [HS.out], by simp, by omega, by omega, by trivial⟩
          case measure => simp [intOf]; omega
        · have hne : ¬ (i : Int) < (b.size : Int) := by omega
          have hib : i = b.size := by omega
          subst hib
          go_wp2
          go_returns
          exact ⟨rets2 (congrArg _ HV.out.symm) (congrArg _ HB.out.symm), hB1⟩
    · have hno : numOk (bl b) = false := by simpa using hok
      have HV : Hid (ngV b = 0) := Lib.hid (by unfold ngV; rw [if_neg (by rw [hno]; simp)])
      have HB : Hid (ngB b = false) := Lib.hid (by unfold ngB; rw [hno]; simp)
      rw [hno] at HI
      go_enter Try.func13, Try.ntmps13
      go_wp2_with fail
      refine (HI.out _).mono ?_
      rintro e w1 ⟨rfl, hB1⟩
      go_wp2
      go_returns
      exact ⟨rets2 (congrArg _ HV.out.symm) (congrArg _ HB.out.symm), hB1⟩
  · have h8i : (8 : Int) < (b.size : Int) := by omega
    have HV : Hid (ngV b = 0) := Lib.hid (by unfold ngV; rw [if_neg (by omega)])
    have HB : Hid (ngB b = false) := Lib.hid (by unfold ngB; simp; omega)
    go_enter Try.func13, Try.ntmps13
    go_wp2
    go_returns
    exact ⟨rets2 (congrArg _ HV.out.symm) (congrArg _ HB.out.symm), Below.refl _ _⟩
end Go.Proofs.Ytpifhlifjmnfiaa
