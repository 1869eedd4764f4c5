/- What Root, powerFits and the reference's Root and Power give, under the bounds of their arguments' kinds. -/
import Derived.Test.YtlolkelkbanhjaaWord
import Derived.Test.YtlolkelkbanhjaaRoot
namespace Go.Proofs.Ytlolkelkbanhjaa
open Go.RowKit Go.PlainAid

/-- Does the power fit? -/
def fitsB (b k n : Nat) : Bool := decide (b ^ k ≤ n)

set_option maxHeartbeats 400000 in
theorem powerFits_any (b k n : Int) (b0 : 1 ≤ b) (b1 : b ≤ 18446744073709551615) (k0 : 1 ≤ k) (k1 : k ≤ 64) (n0 : 0 ≤ n) (n1 : n ≤ 18446744073709551615) (w : World) :
    Calls Try.prog 23 #[.int .u64 b, .int .i64 k, .int .u64 n] w fun e w' => e = .returned (.bool (fitsB b.toNat k.toNat n.toNat)) ∧ w = w' := by
  obtain ⟨b, rfl⟩ := Int.eq_ofNat_of_zero_le (show 0 ≤ b by omega)
  obtain ⟨k, rfl⟩ := Int.eq_ofNat_of_zero_le (show 0 ≤ k by omega)
  obtain ⟨n, rfl⟩ := Int.eq_ofNat_of_zero_le n0
  simp only [Int.toNat_natCast]
  go_enter Try.func23, Try.ntmps23
  go_wp2
  go_loop [7, 9] (fun pv iv => ∃ i p : Nat, i ≤ k ∧ iv = .int .i64 i ∧ pv = .int .u64 p ∧ Hid (p = b ^ i) ∧ (1 ≤ i → p ≤ n) ∧ (p : Int) ≤ 18446744073709551615) (fun _ i => k - (intOf i).toNat)
  case atStart => exact ⟨0, 1, by omega, rfl, rfl, Lib.hid (by simp), by omega, by omega⟩
  case round =>
    obtain ⟨i, p, hi, rfl, rfl, HP, hpn, hpb⟩ := hrel
    have hb1 : 1 ≤ b := by omega
    have hd0 : (0 : Int) ≤ (n : Int) / (b : Int) := Int.ediv_nonneg (by omega) (by omega)
    have hd1 : (n : Int) / (b : Int) ≤ 18446744073709551615 := by have := Nat.div_le_self n b
                                                                  rw [← Int.natCast_ediv]; omega
    by_cases hlt : i < k
    · by_cases hq : p ≤ n / b
      · have hm := (fits_step hb1).1 hq
        have hm' : (p : Int) * (b : Int) ≤ 18446744073709551615 := by have : ((p * b : Nat) : Int) ≤ (n : Int) := by omega
                                                                      rw [Int.natCast_mul] at this; omega
        have hm0 : (0 : Int) ≤ (p : Int) * (b : Int) := by have : (0 : Int) ≤ ((p * b : Nat) : Int) := by omega
                                                           rwa [Int.natCast_mul] at this
        have hq' : (p : Int) ≤ (n : Int) / (b : Int) := by have : ((p : Nat) : Int) ≤ ((n / b : Nat) : Int) := by omega
                                                           rwa [Int.natCast_ediv] at this
        have HM := Lib.hid hm
        clear hm hq
        go_wp2
        go_round
        case rel => exact ⟨i + 1, p * b, by omega, by go_num, by rw [Int.natCast_mul], Lib.hid (by rw [Nat.pow_succ, ← HP.out]), fun _ => HM.out, by rw [Int.natCast_mul]; exact hm'⟩
        case measure => simp [intOf]; omega
      · have hq' : (n : Int) / (b : Int) < (p : Int) := by have : ((n / b : Nat) : Int) < ((p : Nat) : Int) := by omega
                                                           rwa [Int.natCast_ediv] at this
        have hno : fitsB b k n = false := by
          unfold fitsB
          have h1 : ¬ p * b ≤ n := fun h => hq ((fits_step hb1).2 h)
          have h2 := pow_ge hb1 (show i + 1 ≤ k by omega)
          rw [Nat.pow_succ, ← HP.out] at h2
          simp; omega
        have HN := Lib.hid hno
        clear hno hq
        go_wp2
        go_ret
        exact ⟨ret_bool HN.out.symm, rfl⟩
    · have hik : i = k := by omega
      have hyes : fitsB b k n = true := by
        unfold fitsB
        rw [← hik, ← HP.out]
        simp; omega
      have HY := Lib.hid hyes
      clear hyes hik
      go_wp2
      go_ret
      exact ⟨ret_bool HY.out.symm, rfl⟩


theorem rt_or {n k j : Nat} (hk : 1 ≤ k) (hn : n < 2 ^ 64) (hj : j ≤ 63) : bits .or .u64 (rt n k j : Int) ((2 ^ (63 - j) : Nat) : Int) = ((rt n k j + 2 ^ (63 - j) : Nat) : Int) := by
  obtain ⟨h1, q, h2⟩ := rt_bd (n := n) hk hn hj
  have hpos := Nat.two_pow_pos (63 - j)
  have h := or64_add (q : Int) ((2 ^ (63 - j) : Nat) : Int) (64 - j) (by omega) (by omega) (by
      have : (2 ^ (63 - j) : Nat) < 2 ^ (64 - j) := Nat.pow_lt_pow_right (by omega) (by omega)
      have h' : ((2 ^ (63 - j) : Nat) : Int) < ((2 ^ (64 - j) : Nat) : Int) := by omega
      simpa using h') (by
      have h' : ((q * 2 ^ (64 - j) + 2 ^ (63 - j) : Nat) : Int) ≤ 18446744073709551615 := by omega
      simpa using h')
  have e : (q : Int) * 2 ^ (64 - j) = ((rt n k j : Nat) : Int) := by rw [h2]; simp
  rw [e] at h
  rw [h]; simp

set_option maxHeartbeats 1000000 in
theorem root_pos (n k : Int) (k0 : 1 ≤ k) (n0 : 0 ≤ n) (n1 : n ≤ 18446744073709551615) (w : World) :
    Calls Try.prog 18 #[.int .u64 n, .int .i64 k] w fun e w' => e = .returned (.int .u64 (rootN n.toNat k.toNat)) ∧ w = w' := by
  obtain ⟨k, rfl⟩ := Int.eq_ofNat_of_zero_le (show 0 ≤ k by omega)
  obtain ⟨n, rfl⟩ := Int.eq_ofNat_of_zero_le n0
  simp only [Int.toNat_natCast]
  have HF := Lib.hid (rootN_rt (n := n) (show 1 ≤ k by omega))
  by_cases hk : 64 < k
  · have hmin : min k 64 = 64 := Nat.min_eq_right (by omega)
    have HM := Lib.hid hmin
    clear hmin
    go_enter Try.func18, Try.ntmps18
    go_wp2
    go_loop [5, 6] (fun rv bv => ∃ j : Nat, j ≤ 64 ∧ bv = .int .i64 (63 - (j : Int)) ∧ rv = .int .u64 (rt n 64 j : Int)) (fun _ b => (intOf b + 1).toNat)
    case atStart => exact ⟨0, by omega, rfl, rfl⟩
    case round =>
      obtain ⟨j, hj, rfl, rfl⟩ := hrel
      by_cases hlt : j ≤ 63
      · have hb0 : (0 : Int) ≤ 63 - (j : Int) := by omega
        have hor := rt_or (n := n) (k := 64) (by omega) (by omega) hlt
        have hcand := (rt_bd (n := n) (k := 64) (by omega) (by omega) hlt).1
        have HN := Lib.hid (rt_next n 64 j)
        have hpos := Nat.two_pow_pos (63 - j)
        generalize rt n 64 j = r at *
        generalize hp : 2 ^ (63 - j) = p at *
        have hsh : (2 : Int) ^ (63 - j) = (p : Int) := by rw [← hp]; simp
        have hpb : (p : Int) ≤ 18446744073709551615 := by omega
        have hcb : ((r + p : Nat) : Int) ≤ 18446744073709551615 := by omega
        have hcb0 : 1 ≤ ((r + p : Nat) : Int) := by omega
        clear hp hcand
        have hc := powerFits_any ((r + p : Nat) : Int) 64 n hcb0 hcb (by omega) (by omega) n0 n1 w
        have HC := Lib.hid hc
        clear hc
        generalize r + p = c at *
        by_cases hf : c ^ 64 ≤ n
        · have hfb : fitsB c 64 n = true := by simp [fitsB, hf]
          have HE : Hid (rt n 64 (j + 1) = c) := by rw [if_pos hf] at HN; exact HN
          clear HN hf
          go_wp2_with (go_at_call 23; refine HC.out.mono ?_; rintro e w' ⟨rfl, rfl⟩; simp only [Int.toNat_natCast, Int.reduceToNat, hfb])
          go_round
          case rel => exact ⟨j + 1, by omega, by go_num, by rw [HE.out]⟩
          case measure => simp [intOf]; omega
        · have hfb : fitsB c 64 n = false := by simp [fitsB]; omega
          have HE : Hid (rt n 64 (j + 1) = r) := by rw [if_neg hf] at HN; exact HN
          clear HN hf
          go_wp2_with (go_at_call 23; refine HC.out.mono ?_; rintro e w' ⟨rfl, rfl⟩; simp only [Int.toNat_natCast, Int.reduceToNat, hfb])
          go_round
          case rel => exact ⟨j + 1, by omega, by go_num, by rw [HE.out]⟩
          case measure => simp [intOf]; omega
      · have hj' : j = 64 := by omega
        subst hj'
        go_wp2
        go_ret
        exact ⟨ret_int (by rw [HF.out, HM.out]), rfl⟩
  · have hmin : min k 64 = k := Nat.min_eq_left (by omega)
    have HM := Lib.hid hmin
    clear hmin
    go_enter Try.func18, Try.ntmps18
    go_wp2
    go_loop [5, 6] (fun rv bv => ∃ j : Nat, j ≤ 64 ∧ bv = .int .i64 (63 - (j : Int)) ∧ rv = .int .u64 (rt n k j : Int)) (fun _ b => (intOf b + 1).toNat)
    case atStart => exact ⟨0, by omega, rfl, rfl⟩
    case round =>
      obtain ⟨j, hj, rfl, rfl⟩ := hrel
      by_cases hlt : j ≤ 63
      · have hb0 : (0 : Int) ≤ 63 - (j : Int) := by omega
        have hor := rt_or (n := n) (k := k) (by omega) (by omega) hlt
        have hcand := (rt_bd (n := n) (k := k) (by omega) (by omega) hlt).1
        have HN := Lib.hid (rt_next n k j)
        have hpos := Nat.two_pow_pos (63 - j)
        generalize rt n k j = r at *
        generalize hp : 2 ^ (63 - j) = p at *
        have hsh : (2 : Int) ^ (63 - j) = (p : Int) := by rw [← hp]; simp
        have hpb : (p : Int) ≤ 18446744073709551615 := by omega
        have hcb : ((r + p : Nat) : Int) ≤ 18446744073709551615 := by omega
        have hcb0 : 1 ≤ ((r + p : Nat) : Int) := by omega
        clear hp hcand
        have hc := powerFits_any ((r + p : Nat) : Int) k n hcb0 hcb (by omega) (by omega) n0 n1 w
        have HC := Lib.hid hc
        clear hc
        generalize r + p = c at *
        by_cases hf : c ^ k ≤ n
        · have hfb : fitsB c k n = true := by simp [fitsB, hf]
          have HE : Hid (rt n k (j + 1) = c) := by rw [if_pos hf] at HN; exact HN
          clear HN hf
          go_wp2_with (go_at_call 23; refine HC.out.mono ?_; rintro e w' ⟨rfl, rfl⟩; simp only [Int.toNat_natCast, hfb])
          go_round
          case rel => exact ⟨j + 1, by omega, by go_num, by rw [HE.out]⟩
          case measure => simp [intOf]; omega
        · have hfb : fitsB c k n = false := by simp [fitsB]; omega
          have HE : Hid (rt n k (j + 1) = r) := by rw [if_neg hf] at HN; exact HN
          clear HN hf
          go_wp2_with (go_at_call 23; refine HC.out.mono ?_; rintro e w' ⟨rfl, rfl⟩; simp only [Int.toNat_natCast, hfb])
          go_round
          case rel => exact ⟨j + 1, by omega, by go_num, by rw [HE.out]⟩
          case measure => simp [intOf]; omega
      · have hj' : j = 64 := by omega
        subst hj'
        go_wp2
        go_ret
        exact ⟨ret_int (by rw [HF.out, HM.out]), rfl⟩

set_option maxHeartbeats 400000 in
theorem root_any (n k : Int) (n0 : 0 ≤ n) (n1 : n ≤ 18446744073709551615) (w : World) :
    Calls Try.prog 18 #[.int .u64 n, .int .i64 k] w fun e w' => e = .returned (.int .u64 (rootN n.toNat k.toNat)) ∧ w = w' := by
  by_cases hk : 1 ≤ k
  · exact root_pos n k hk n0 n1 w
  · have hz : k.toNat = 0 := by omega
    have HZ := Lib.hid hz
    have hk' : k < 1 := by omega
    clear hz hk
    go_enter Try.func18, Try.ntmps18
    go_wp2
    go_ret
    exact ⟨ret_int (by rw [HZ.out, rootN_zero]; rfl), rfl⟩

/-- The power, or 0 where it doesn't fit. -/
def powV (x k n : Nat) : Nat := if x ^ k ≤ n then x ^ k else 0

set_option maxHeartbeats 1000000 in
theorem refPower_any (b k n : Int) (b0 : 0 ≤ b) (b1 : b ≤ 18446744073709551615) (k0 : 1 ≤ k) (k1 : k ≤ 64) (n0 : 0 ≤ n) (n1 : n ≤ 18446744073709551615) (w : World) :
    Calls Try.prog 20 #[.int .u64 b, .int .i64 k, .int .u64 n] w fun e w' => e = .returned (.tuple #[.int .u64 (powV b.toNat k.toNat n.toNat), .bool (fitsB b.toNat k.toNat n.toNat)]) ∧ w = w' := by
  obtain ⟨b, rfl⟩ := Int.eq_ofNat_of_zero_le b0
  obtain ⟨k, rfl⟩ := Int.eq_ofNat_of_zero_le (show 0 ≤ k by omega)
  obtain ⟨n, rfl⟩ := Int.eq_ofNat_of_zero_le n0
  simp only [Int.toNat_natCast]
  by_cases hb : b = 0
  · subst hb
    have hfin : powV 0 k n = 0 ∧ fitsB 0 k n = true := by
      have : 0 ^ k = 0 := Nat.zero_pow (by omega)
      simp [powV, fitsB, this]
    have HF := Lib.hid hfin
    clear hfin
    go_enter Try.func20, Try.ntmps20
    go_wp2
    go_loop [8, 9] (fun pv iv => ∃ i p : Nat, i ≤ k ∧ iv = .int .i64 i ∧ pv = .int .u64 p ∧ p ≤ 1 ∧ (1 ≤ i → p ≤ 0)) (fun _ i => k - (intOf i).toNat)
    case atStart => exact ⟨0, 1, by omega, rfl, rfl, by omega, by omega⟩
    case round =>
      obtain ⟨i, p, hi, rfl, rfl, hp1, hp0⟩ := hrel
      by_cases hlt : i < k
      · go_wp2
        go_round
        case rel => exact ⟨i + 1, 0, by omega, by go_num, by simp, by omega, by omega⟩
        case measure => simp [intOf]; omega
      · have hp : p = 0 := by omega
        subst hp
        clear hp0 hp1
        go_wp2
        go_returns
        exact ⟨ret_two (by rw [HF.out.1]; rfl) (by rw [HF.out.2]; simp), rfl⟩
  · have hb1 : 1 ≤ b := by omega
    have hb2 : (0 : Int) < (b : Int) := by omega
    clear hb
    go_enter Try.func20, Try.ntmps20
    go_wp2
    go_loop [8, 9] (fun pv iv => ∃ i p : Nat, i ≤ k ∧ iv = .int .i64 i ∧ pv = .int .u64 p ∧ Hid (p = b ^ i) ∧ (1 ≤ i → p ≤ n) ∧ (p : Int) ≤ 18446744073709551615) (fun _ i => k - (intOf i).toNat)
    case atStart => exact ⟨0, 1, by omega, rfl, rfl, Lib.hid (by simp), by omega, by omega⟩
    case round =>
      obtain ⟨i, p, hi, rfl, rfl, HP, hpn, hpb⟩ := hrel
      have hd0 : (0 : Int) ≤ (n : Int) / (b : Int) := Int.ediv_nonneg (by omega) (by omega)
      have hd1 : (n : Int) / (b : Int) ≤ 18446744073709551615 := by have := Nat.div_le_self n b
                                                                    rw [← Int.natCast_ediv]; omega
      by_cases hlt : i < k
      · by_cases hq : p ≤ n / b
        · have hm := (fits_step hb1).1 hq
          have hm' : (p : Int) * (b : Int) ≤ 18446744073709551615 := by have : ((p * b : Nat) : Int) ≤ (n : Int) := by omega
                                                                        rw [Int.natCast_mul] at this; omega
          have hm0 : (0 : Int) ≤ (p : Int) * (b : Int) := by have : (0 : Int) ≤ ((p * b : Nat) : Int) := by omega
                                                             rwa [Int.natCast_mul] at this
          have hq' : (p : Int) ≤ (n : Int) / (b : Int) := by have : ((p : Nat) : Int) ≤ ((n / b : Nat) : Int) := by omega
                                                             rwa [Int.natCast_ediv] at this
          have HM := Lib.hid hm
          clear hm hq
          go_wp2
          go_round
          case rel => exact ⟨i + 1, p * b, by omega, by go_num, by rw [Int.natCast_mul], Lib.hid (by rw [Nat.pow_succ, ← HP.out]), fun _ => HM.out, by rw [Int.natCast_mul]; exact hm'⟩
          case measure => simp [intOf]; omega
        · have hq' : (n : Int) / (b : Int) < (p : Int) := by have : ((n / b : Nat) : Int) < ((p : Nat) : Int) := by omega
                                                             rwa [Int.natCast_ediv] at this
          have hno : powV b k n = 0 ∧ fitsB b k n = false := by
            have h1 : ¬ p * b ≤ n := fun h => hq ((fits_step hb1).2 h)
            have h2 := pow_ge hb1 (show i + 1 ≤ k by omega)
            rw [Nat.pow_succ, ← HP.out] at h2
            have h3 : ¬ b ^ k ≤ n := by omega
            simp [powV, fitsB, h3]
          have HN := Lib.hid hno
          clear hno hq
          go_wp2
          go_returns
          exact ⟨ret_two (by rw [HN.out.1]; rfl) (by rw [HN.out.2]; rfl), rfl⟩
      · have hik : i = k := by omega
        have hle : p ≤ n := by omega
        have hle' : (p : Int) ≤ (n : Int) := by omega
        have hyes : powV b k n = p ∧ fitsB b k n = true := by
          have h3 : b ^ k = p := by rw [← hik, ← HP.out]
          simp [powV, fitsB, h3, hle]
        have HY := Lib.hid hyes
        clear hyes hik
        go_wp2
        go_returns
        exact ⟨ret_two (by rw [HY.out.1]; rfl) (by rw [HY.out.2]; simp), rfl⟩

set_option maxHeartbeats 1000000 in
theorem refRoot_pos (n k : Int) (k0 : 1 ≤ k) (n0 : 0 ≤ n) (n1 : n ≤ 18446744073709551615) (w : World) :
    Calls Try.prog 19 #[.int .u64 n, .int .i64 k] w fun e w' => e = .returned (.int .u64 (rootN n.toNat k.toNat)) ∧ w = w' := by
  obtain ⟨k, rfl⟩ := Int.eq_ofNat_of_zero_le (show 0 ≤ k by omega)
  obtain ⟨n, rfl⟩ := Int.eq_ofNat_of_zero_le n0
  simp only [Int.toNat_natCast]
  by_cases hk : 64 < k
  · have HF := Lib.hid (show ∀ r : Nat, r ^ 64 ≤ n → n < (r + 1) ^ 64 → rootN n k = r from fun r h1 h2 => by
      rw [rootN_big (by omega)]
      have ⟨a1, a2, _⟩ := rootN_spec (n := n) (k := 64) (by omega) (by omega) (by omega)
      exact root_unique a1 a2 h1 h2)
    go_enter Try.func19, Try.ntmps19
    go_wp2
    go_loop [5, 6] (fun lv hv => ∃ l h : Nat, l ≤ h ∧ h ≤ n ∧ lv = .int .u64 l ∧ hv = .int .u64 h ∧ Hid (l ^ 64 ≤ n) ∧ Hid (n < (h + 1) ^ 64)) (fun l h => (intOf h - intOf l).toNat)
    case atStart => exact ⟨0, n, by omega, by omega, rfl, rfl, Lib.hid (by rw [Nat.zero_pow (by omega)]; omega), Lib.hid (by have := le_pow (a := n + 1) (k := 64) (by omega); omega)⟩
    case round =>
      obtain ⟨l, h, hlh, hhn, rfl, rfl, HL, HU⟩ := hrel
      by_cases hlt : l < h
      · obtain ⟨m, hm⟩ : ∃ m, m = l + (h - l) / 2 + (h - l) % 2 := ⟨_, rfl⟩
        have hm1 : l < m := by omega
        have hm2 : m ≤ h := by omega
        have hmi : (l : Int) + ((h : Int) - l) / 2 + ((h : Int) - l) % 2 = (m : Int) := by omega
        clear hm
        have hc := refPower_any (m : Int) 64 n (by omega) (by omega) (by omega) (by omega) n0 n1 w
        have HC := Lib.hid hc
        clear hc
        by_cases hf : m ^ 64 ≤ n
        · have hfb : fitsB m 64 n = true := by simp [fitsB, hf]
          have HE := Lib.hid hf
          clear hf
          go_wp2_with (go_at_call 20; refine HC.out.mono ?_; rintro e w' ⟨rfl, rfl⟩; simp only [Int.toNat_natCast, Int.reduceToNat, hfb])
          go_round
          case rel => exact ⟨m, h, by omega, by omega, rfl, rfl, HE, HU⟩
          case measure => simp [intOf]; omega
        · have hfb : fitsB m 64 n = false := by simp [fitsB]; omega
          have HE : Hid (n < (m - 1 + 1) ^ 64) := Lib.hid (by rw [show m - 1 + 1 = m from by omega]; omega)
          clear hf
          go_wp2_with (go_at_call 20; refine HC.out.mono ?_; rintro e w' ⟨rfl, rfl⟩; simp only [Int.toNat_natCast, Int.reduceToNat, hfb])
          go_round
          case rel => exact ⟨l, m - 1, by omega, by omega, rfl, by congr 1; omega, HL, HE⟩
          case measure => simp [intOf]; omega
      · have hlh' : l = h := by omega
        subst hlh'
        go_wp2
        go_ret
        exact ⟨ret_int (by rw [HF.out l HL.out HU.out]), rfl⟩
  · have HF := Lib.hid (show ∀ r : Nat, r ^ k ≤ n → n < (r + 1) ^ k → rootN n k = r from fun r h1 h2 => by
      have ⟨a1, a2, _⟩ := rootN_spec (n := n) (k := k) (by omega) (by omega) (by omega)
      exact root_unique a1 a2 h1 h2)
    go_enter Try.func19, Try.ntmps19
    go_wp2
    go_loop [5, 6] (fun lv hv => ∃ l h : Nat, l ≤ h ∧ h ≤ n ∧ lv = .int .u64 l ∧ hv = .int .u64 h ∧ Hid (l ^ k ≤ n) ∧ Hid (n < (h + 1) ^ k)) (fun l h => (intOf h - intOf l).toNat)
    case atStart => exact ⟨0, n, by omega, by omega, rfl, rfl, Lib.hid (by rw [Nat.zero_pow (by omega)]; omega), Lib.hid (by have := le_pow (a := n + 1) (k := k) (by omega); omega)⟩
    case round =>
      obtain ⟨l, h, hlh, hhn, rfl, rfl, HL, HU⟩ := hrel
      by_cases hlt : l < h
      · obtain ⟨m, hm⟩ : ∃ m, m = l + (h - l) / 2 + (h - l) % 2 := ⟨_, rfl⟩
        have hm1 : l < m := by omega
        have hm2 : m ≤ h := by omega
        have hmi : (l : Int) + ((h : Int) - l) / 2 + ((h : Int) - l) % 2 = (m : Int) := by omega
        clear hm
        have hc := refPower_any (m : Int) k n (by omega) (by omega) (by omega) (by omega) n0 n1 w
        have HC := Lib.hid hc
        clear hc
        by_cases hf : m ^ k ≤ n
        · have hfb : fitsB m k n = true := by simp [fitsB, hf]
          have HE := Lib.hid hf
          clear hf
          go_wp2_with (go_at_call 20; refine HC.out.mono ?_; rintro e w' ⟨rfl, rfl⟩; simp only [Int.toNat_natCast, hfb])
          go_round
          case rel => exact ⟨m, h, by omega, by omega, rfl, rfl, HE, HU⟩
          case measure => simp [intOf]; omega
        · have hfb : fitsB m k n = false := by simp [fitsB]; omega
          have HE : Hid (n < (m - 1 + 1) ^ k) := Lib.hid (by rw [show m - 1 + 1 = m from by omega]; omega)
          clear hf
          go_wp2_with (go_at_call 20; refine HC.out.mono ?_; rintro e w' ⟨rfl, rfl⟩; simp only [Int.toNat_natCast, hfb])
          go_round
          case rel => exact ⟨l, m - 1, by omega, by omega, rfl, by congr 1; omega, HL, HE⟩
          case measure => simp [intOf]; omega
      · have hlh' : l = h := by omega
        subst hlh'
        go_wp2
        go_ret
        exact ⟨ret_int (by rw [HF.out l HL.out HU.out]), rfl⟩

set_option maxHeartbeats 400000 in
theorem refRoot_any (n k : Int) (n0 : 0 ≤ n) (n1 : n ≤ 18446744073709551615) (w : World) :
    Calls Try.prog 19 #[.int .u64 n, .int .i64 k] w fun e w' => e = .returned (.int .u64 (rootN n.toNat k.toNat)) ∧ w = w' := by
  by_cases hk : 1 ≤ k
  · exact refRoot_pos n k hk n0 n1 w
  · have hz : k.toNat = 0 := by omega
    have HZ := Lib.hid hz
    have hk' : k < 1 := by omega
    clear hz hk
    go_enter Try.func19, Try.ntmps19
    go_wp2
    go_ret
    exact ⟨ret_int (by rw [HZ.out, rootN_zero]; rfl), rfl⟩
end Go.Proofs.Ytlolkelkbanhjaa
