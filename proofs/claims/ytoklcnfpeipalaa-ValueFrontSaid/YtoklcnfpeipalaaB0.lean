/- Plain facts on words: bitwise operations, rotations, big-endian bytes. They hold of numbers alone, under no condition on the program. -/
import Derived.WalkKit
import Derived.PlainAid
import Derived.Laws.BytesArg
import Derived.Below
import Derived.Lib.Hide
import Derived.Deep.QuietTactic
import Derived.Laws.AppendOwn
import Derived.Laws.OwnMore
import Derived.StillTail
import Derived.StillTailTactics
import Derived.Deep.Strs
import Derived.Deep.SlicePairs
import Derived.ChangeSlices
import Derived.Deep.MidRow
import Derived.Lib.SlBuf
import Derived.Test.YtoklcnfpeipalaaChecked
import Derived.WalkSpells
namespace Go.Proofs.Ytoklcnfpeipalaa
open Go.PlainAid
theorem ofInt_toNat32 {a : Int} (h0 : 0 ≤ a) (h1 : a ≤ 4294967295) : (BitVec.ofInt 32 a).toNat = a.toNat := by
  obtain ⟨n, rfl⟩ := Int.eq_ofNat_of_zero_le h0
  rw [BitVec.ofInt_natCast, BitVec.toNat_ofNat]
  simp; omega
theorem ofInt_toNat64 {a : Int} (h0 : 0 ≤ a) (h1 : a ≤ 18446744073709551615) : (BitVec.ofInt 64 a).toNat = a.toNat := by
  obtain ⟨n, rfl⟩ := Int.eq_ofNat_of_zero_le h0
  rw [BitVec.ofInt_natCast, BitVec.toNat_ofNat]
  simp; omega
theorem bits_or32 (a b : Int) : bits .or .u32 a b = ((BitVec.ofInt 32 a ||| BitVec.ofInt 32 b).toNat : Int) := by
  show IntKind.u32.wrap ((BitVec.ofInt 32 a ||| BitVec.ofInt 32 b).toNat : Int) = _
  rw [IntKind.wrap_u32]
  have := (BitVec.ofInt 32 a ||| BitVec.ofInt 32 b).isLt
  omega
theorem bits_and32 (a b : Int) : bits .and .u32 a b = ((BitVec.ofInt 32 a &&& BitVec.ofInt 32 b).toNat : Int) := by
  show IntKind.u32.wrap ((BitVec.ofInt 32 a &&& BitVec.ofInt 32 b).toNat : Int) = _
  rw [IntKind.wrap_u32]
  have := (BitVec.ofInt 32 a &&& BitVec.ofInt 32 b).isLt
  omega
theorem bits_xor32 (a b : Int) : bits .xor .u32 a b = ((BitVec.ofInt 32 a ^^^ BitVec.ofInt 32 b).toNat : Int) := by
  show IntKind.u32.wrap ((BitVec.ofInt 32 a ^^^ BitVec.ofInt 32 b).toNat : Int) = _
  rw [IntKind.wrap_u32]
  have := (BitVec.ofInt 32 a ^^^ BitVec.ofInt 32 b).isLt
  omega
theorem bits_or64 (a b : Int) : bits .or .u64 a b = ((BitVec.ofInt 64 a ||| BitVec.ofInt 64 b).toNat : Int) := by
  show IntKind.u64.wrap ((BitVec.ofInt 64 a ||| BitVec.ofInt 64 b).toNat : Int) = _
  rw [IntKind.wrap_u64]
  have := (BitVec.ofInt 64 a ||| BitVec.ofInt 64 b).isLt
  omega
/-- An or of disjoint parts is a sum. -/
theorem nat_or_add (a b i : Nat) (h : b < 2 ^ i) : a * 2 ^ i ||| b = a * 2 ^ i + b := by
  rw [← Nat.shiftLeft_eq, Nat.shiftLeft_add_eq_or_of_lt h]
theorem or32_add (a b : Int) (i : Nat) (ha : 0 ≤ a) (hb : 0 ≤ b) (hb' : b < 2 ^ i) (h : a * 2 ^ i + b ≤ 4294967295) : bits .or .u32 (a * 2 ^ i) b = a * 2 ^ i + b := by
  obtain ⟨x, rfl⟩ := Int.eq_ofNat_of_zero_le ha
  obtain ⟨y, rfl⟩ := Int.eq_ofNat_of_zero_le hb
  have e : ((x : Int) * 2 ^ i) = ((x * 2 ^ i : Nat) : Int) := by simp
  have hy : y < 2 ^ i := by have : ((y : Int)) < ((2 ^ i : Nat) : Int) := by simpa using hb'
                            omega
  rw [e] at h ⊢
  rw [bits_or32, BitVec.toNat_or, ofInt_toNat32 (by omega) (by omega), ofInt_toNat32 (by omega) (by omega)]
  simp only [Int.toNat_natCast]
  rw [nat_or_add _ _ _ hy]
  simp
theorem or64_add (a b : Int) (i : Nat) (ha : 0 ≤ a) (hb : 0 ≤ b) (hb' : b < 2 ^ i) (h : a * 2 ^ i + b ≤ 18446744073709551615) : bits .or .u64 (a * 2 ^ i) b = a * 2 ^ i + b := by
  obtain ⟨x, rfl⟩ := Int.eq_ofNat_of_zero_le ha
  obtain ⟨y, rfl⟩ := Int.eq_ofNat_of_zero_le hb
  have e : ((x : Int) * 2 ^ i) = ((x * 2 ^ i : Nat) : Int) := by simp
  have hy : y < 2 ^ i := by have : ((y : Int)) < ((2 ^ i : Nat) : Int) := by simpa using hb'
                            omega
  rw [e] at h ⊢
  rw [bits_or64, BitVec.toNat_or, ofInt_toNat64 (by omega) (by omega), ofInt_toNat64 (by omega) (by omega)]
  simp only [Int.toNat_natCast]
  rw [nat_or_add _ _ _ hy]
  simp

/-! ### Rotations -/
/-- A word, its bits turned to the right by n places. -/
def turnI (x n : Int) : Int := (((BitVec.ofInt 32 x).rotateRight (n % 32).toNat).toNat : Int)
theorem turnI_bd (x n : Int) : 0 ≤ turnI x n ∧ turnI x n ≤ 4294967295 := by
  unfold turnI
  have := ((BitVec.ofInt 32 x).rotateRight (n % 32).toNat).isLt
  omega
theorem rot_lsb (x : BitVec 32) (r i : Nat) (hi : i < 32) : (x.rotateRight r).getLsbD i = x.getLsbD ((i + r) % 32) := by
  rw [BitVec.getLsbD_rotateRight]
  by_cases h : i < 32 - r % 32
  · rw [show (i + r) % 32 = r % 32 + i from by omega]
    simp [h]
  · rw [show (i + r) % 32 = i - (32 - r % 32) from by omega]
    simp [h, hi]
theorem rot_rot (x : BitVec 32) (a b : Nat) : (x.rotateRight a).rotateRight b = x.rotateRight (a + b) := by
  apply BitVec.eq_of_getLsbD_eq
  intro i hi
  rw [rot_lsb _ _ _ hi, rot_lsb _ _ _ (by omega), rot_lsb _ _ _ hi]
  congr 1
  omega
theorem rot_mod (x : BitVec 32) (a b : Nat) (h : a % 32 = b % 32) : x.rotateRight a = x.rotateRight b := by
  apply BitVec.eq_of_getLsbD_eq
  intro i hi
  rw [rot_lsb _ _ _ hi, rot_lsb _ _ _ hi]
  congr 1
  omega
theorem rot_zero (x : BitVec 32) (a : Nat) (h : a % 32 = 0) : x.rotateRight a = x := by
  apply BitVec.eq_of_getLsbD_eq
  intro i hi
  rw [rot_lsb _ _ _ hi]
  congr 1
  omega
theorem rot_xor (x y : BitVec 32) (a : Nat) : (x ^^^ y).rotateRight a = x.rotateRight a ^^^ y.rotateRight a := by
  apply BitVec.eq_of_getLsbD_eq
  intro i hi
  rw [rot_lsb _ _ _ hi, BitVec.getLsbD_xor, BitVec.getLsbD_xor, rot_lsb _ _ _ hi, rot_lsb _ _ _ hi]
theorem rot_and (x y : BitVec 32) (a : Nat) : (x &&& y).rotateRight a = x.rotateRight a &&& y.rotateRight a := by
  apply BitVec.eq_of_getLsbD_eq
  intro i hi
  rw [rot_lsb _ _ _ hi, BitVec.getLsbD_and, BitVec.getLsbD_and, rot_lsb _ _ _ hi, rot_lsb _ _ _ hi]
theorem ofInt_toNat (x : BitVec 32) : BitVec.ofInt 32 (x.toNat : Int) = x := by
  rw [BitVec.ofInt_natCast]; simp
theorem ofInt_turnI (x n : Int) : BitVec.ofInt 32 (turnI x n) = (BitVec.ofInt 32 x).rotateRight (n % 32).toNat := by
  unfold turnI; rw [ofInt_toNat]
/-- How the program turns: two shifts and an or. -/
theorem turn_eq (x n m : Int) (h0 : 0 ≤ x) (h1 : x ≤ 4294967295) (hm : n % 32 = m) :
    bits .or .u32 (x / 2 ^ m.toNat) (x * 2 ^ (32 - m).toNat % 4294967296) = turnI x n := by
  subst hm
  unfold turnI
  generalize hk : (n % 32).toNat = k
  have hk' : k < 32 := by omega
  rw [show (32 - n % 32).toNat = 32 - k from by omega]
  obtain ⟨a, rfl⟩ := Int.eq_ofNat_of_zero_le h0
  have e1 : ((a : Int) / 2 ^ k) = ((a / 2 ^ k : Nat) : Int) := by simp
  have e2 : ((a : Int) * 2 ^ (32 - k) % 4294967296) = ((a * 2 ^ (32 - k) % 4294967296 : Nat) : Int) := by simp
  have b1 : a / 2 ^ k ≤ a := Nat.div_le_self _ _
  have b2 : a * 2 ^ (32 - k) % 4294967296 < 4294967296 := Nat.mod_lt _ (by decide)
  rw [BitVec.rotateRight_def, BitVec.toNat_or, BitVec.toNat_ushiftRight, BitVec.toNat_shiftLeft, ofInt_toNat32 (by omega) (by omega)]
  simp only [Int.toNat_natCast, Nat.shiftRight_eq_div_pow, Nat.shiftLeft_eq, Nat.mod_eq_of_lt hk', Nat.reducePow]
  rw [e1, e2]
  generalize a / 2 ^ k = p at *
  generalize a * 2 ^ (32 - k) % 4294967296 = q at *
  rw [bits_or32, BitVec.toNat_or, ofInt_toNat32 (by omega) (by omega), ofInt_toNat32 (by omega) (by omega)]
  simp only [Int.toNat_natCast]
theorem turn_one (x : Int) (h0 : 0 ≤ x) (h1 : x ≤ 4294967295) : turnI x 1 = x / 2 + x % 2 * 2147483648 := by
  rw [← turn_eq x 1 1 h0 h1 (by decide)]
  obtain ⟨a, rfl⟩ := Int.eq_ofNat_of_zero_le h0
  have e : ((a : Int) * 2 ^ (32 - (1 : Int)).toNat % 4294967296) = ((a % 2 * 2 ^ 31 : Nat) : Int) := by
    rw [show (32 - (1 : Int)).toNat = 31 from by decide]
    simp only [Nat.reducePow]
    omega
  have e1 : ((a : Int) / 2 ^ (1 : Int).toNat) = ((a / 2 : Nat) : Int) := by simp
  rw [e, e1, bits_or32, BitVec.toNat_or, ofInt_toNat32 (by omega) (by omega), ofInt_toNat32 (by omega) (by omega)]
  simp only [Int.toNat_natCast]
  rw [Nat.or_comm, nat_or_add _ _ 31 (by omega)]
  omega
theorem turnI_zero (x : Int) (h0 : 0 ≤ x) (h1 : x ≤ 4294967295) : turnI x 0 = x := by
  unfold turnI
  rw [show ((0 : Int) % 32).toNat = 0 from by decide, rot_zero _ _ (by decide), ofInt_toNat32 h0 h1]
  omega
theorem turnI_turnI (x a b : Int) : turnI (turnI x a) b = turnI x (a + b) := by
  rw [turnI, ofInt_turnI, rot_rot, turnI]
  rw [rot_mod _ _ ((a + b) % 32).toNat (by omega)]
theorem turnI_mod (x a b : Int) (h : a % 32 = b % 32) : turnI x a = turnI x b := by
  unfold turnI; rw [h]
theorem turnI_xor (x y n : Int) : bits .xor .u32 (turnI x n) (turnI y n) = turnI (bits .xor .u32 x y) n := by
  rw [bits_xor32, ofInt_turnI, ofInt_turnI, ← rot_xor, turnI, bits_xor32, ofInt_toNat]
theorem turnI_and (x y n : Int) : bits .and .u32 (turnI x n) (turnI y n) = turnI (bits .and .u32 x y) n := by
  rw [bits_and32, ofInt_turnI, ofInt_turnI, ← rot_and, turnI, bits_and32, ofInt_toNat]
theorem turn_step (x i : Int) : turnI x i / 2 + turnI x i % 2 * 2147483648 = turnI x (i + 1) := by
  rw [← turnI_turnI, turn_one _ (turnI_bd _ _).1 (turnI_bd _ _).2]
theorem wrap_tmod32 (n : Int) : (IntKind.u64.wrap n).tmod 32 = n % 32 := by
  rw [IntKind.wrap_u64, Int.tmod_eq_emod_of_nonneg (Int.emod_nonneg _ (by decide))]; omega

/-! ### Bytes of a number, the highest first -/
/-- So many bytes of a number, the highest first, as numbers. -/
def putL (x : Nat) : Nat → List Int
  | 0 => []
  | n + 1 => putL (x / 256) n ++ [((x % 256 : Nat) : Int)]
def putB (x n : Nat) : ByteArray := strOfNums (putL x n)
theorem putL_length (x n : Nat) : (putL x n).length = n := by
  induction n generalizing x with
  | zero => rfl
  | succ n ih => simp [putL, ih]
theorem putB_size (x n : Nat) : (putB x n).size = n := by rw [putB, strOfNums_size, putL_length]
/-- The other way round: the lowest byte is put ahead of what is put already. -/
theorem putL_bd (x n : Nat) : ∀ b ∈ putL x n, 0 ≤ b ∧ b ≤ 255 := by
  induction n generalizing x with
  | zero => intro b hb; simp [putL] at hb
  | succ n ih =>
    intro b hb
    rw [putL, List.mem_append] at hb
    rcases hb with hb | hb
    · exact ih _ b hb
    · simp at hb; omega
theorem putL_cons (x k : Nat) : putL x (k + 1) = ((x / 256 ^ k % 256 : Nat) : Int) :: putL x k := by
  induction k generalizing x with
  | zero => simp [putL]
  | succ k ih =>
    rw [putL, ih (x / 256), putL, Nat.div_div_eq_div_mul, show 256 * 256 ^ k = 256 ^ (k + 1) from by rw [Nat.pow_succ, Nat.mul_comm]]
    rfl
theorem put4_eq (x : Int) (h0 : 0 ≤ x) (h1 : x ≤ 4294967295) : strOfNums [x / 16777216, x / 65536 % 256, x / 256 % 256, x % 256] = putB x.toNat 4 := by
  obtain ⟨n, rfl⟩ := Int.eq_ofNat_of_zero_le h0
  unfold putB
  congr 1
  simp [putL, Nat.div_div_eq_div_mul]
  omega
theorem strOfNums_append (a b : List Int) : strOfNums (a ++ b) = strOfNums a ++ strOfNums b := by
  apply ByteArray.ext
  simp [strOfNums, ByteArray.data_append]
theorem putL_add (x m n : Nat) : putL x (m + n) = putL (x / 256 ^ n) m ++ putL x n := by
  induction n generalizing x with
  | zero => simp [putL]
  | succ n ih =>
    rw [show m + (n + 1) = (m + n) + 1 from rfl, putL, ih, putL, List.append_assoc, Nat.div_div_eq_div_mul, Nat.pow_succ, Nat.mul_comm]
theorem putL_mod (x n : Nat) : putL (x % 256 ^ n) n = putL x n := by
  induction n generalizing x with
  | zero => rfl
  | succ n ih =>
    rw [putL, putL, ← ih (x / 256)]
    congr 2
    · rw [Nat.pow_succ, Nat.mul_comm, Nat.mod_mul_right_div_self]
    · rw [Nat.pow_succ, Nat.mul_comm, Nat.mod_mul_right_mod]
theorem put8_eq (x : Nat) : putB (x / 4294967296) 4 ++ putB (x % 4294967296) 4 = putB x 8 := by
  unfold putB
  rw [← strOfNums_append]
  have h1 := putL_add x 4 4
  have h2 := putL_mod x 4
  simp only [Nat.reducePow, Nat.reduceAdd] at h1 h2
  rw [h1, h2]
/-- What four bytes tell. -/
def getI (s : ByteArray) (k : Nat) : Int := bt s k * 16777216 + bt s (k + 1) * 65536 + bt s (k + 2) * 256 + bt s (k + 3)
theorem getI_bd (s : ByteArray) (k : Nat) : 0 ≤ getI s k ∧ getI s k ≤ 4294967295 := by
  unfold getI
  have := bt_nonneg s k; have := bt_le s k; have := bt_nonneg s (k + 1); have := bt_le s (k + 1)
  have := bt_nonneg s (k + 2); have := bt_le s (k + 2); have := bt_nonneg s (k + 3); have := bt_le s (k + 3)
  omega
theorem get_eq (a b c d : Int) (ha : 0 ≤ a ∧ a ≤ 255) (hb : 0 ≤ b ∧ b ≤ 255) (hc : 0 ≤ c ∧ c ≤ 255) (hd : 0 ≤ d ∧ d ≤ 255) :
    bits .or .u32 (bits .or .u32 (bits .or .u32 (a * 16777216) (b * 65536)) (c * 256)) d = a * 16777216 + b * 65536 + c * 256 + d := by
  have e1 := or32_add a (b * 65536) 24 (by omega) (by omega) (by omega) (by omega)
  have e2 := or32_add (a * 256 + b) (c * 256) 16 (by omega) (by omega) (by omega) (by omega)
  have e3 := or32_add (a * 65536 + b * 256 + c) d 8 (by omega) (by omega) (by omega) (by omega)
  simp only [Int.reducePow] at e1 e2 e3
  rw [e1, show a * 16777216 + b * 65536 = (a * 256 + b) * 65536 from by omega, e2, show (a * 256 + b) * 65536 + c * 256 = (a * 65536 + b * 256 + c) * 256 from by omega, e3]

theorem get_eq2 (a b c d : Int) (ha : 0 ≤ a ∧ a ≤ 255) (hb : 0 ≤ b ∧ b ≤ 255) (hc : 0 ≤ c ∧ c ≤ 255) (hd : 0 ≤ d ∧ d ≤ 255) :
    bits .or .u32 (bits .or .u32 (bits .or .u32 (a % 4294967296 * 16777216 % 4294967296) (b % 4294967296 * 65536 % 4294967296)) (c % 4294967296 * 256 % 4294967296)) (d % 4294967296) = a * 16777216 + b * 65536 + c * 256 + d := by
  rw [show a % 4294967296 * 16777216 % 4294967296 = a * 16777216 from by omega, show b % 4294967296 * 65536 % 4294967296 = b * 65536 from by omega, show c % 4294967296 * 256 % 4294967296 = c * 256 from by omega, show d % 4294967296 = d from by omega]
  exact get_eq a b c d ha hb hc hd
theorem putL4 (n : Nat) : putL n 4 = [((n / 16777216 % 256 : Nat) : Int), ((n / 65536 % 256 : Nat) : Int), ((n / 256 % 256 : Nat) : Int), ((n % 256 : Nat) : Int)] := by
  simp [putL, Nat.div_div_eq_div_mul]
theorem strOfNums_at (l : List Int) (k : Nat) (b : Int) (h : l[k]? = some b) (h0 : 0 ≤ b) (h1 : b ≤ 255) : bt (strOfNums l) k = b := by
  have hk := (List.getElem?_eq_some_iff.1 h).1
  have hv := (List.getElem?_eq_some_iff.1 h).2
  have hs : k < (strOfNums l).size := by rw [strOfNums_size]; exact hk
  rw [← get_bt _ _ hs]
  have : (strOfNums l)[k] = UInt8.ofNat b.toNat := by
    show (strOfNums l).data[k] = _
    simp [strOfNums, hv]
  rw [this]
  simp; omega
/-- Two texts of one length, byte by byte the same, are one. -/
theorem bt_ext {s t : ByteArray} (hs : s.size = t.size) (h : ∀ k, k < s.size → bt s k = bt t k) : s = t := by
  apply ByteArray.ext
  apply Array.ext
  · exact hs
  · intro i h1 h2
    have := h i h1
    rw [← get_bt s i h1, ← get_bt t i h2] at this
    have h3 : (s[i]).toNat = (t[i]).toNat := by omega
    exact UInt8.toNat_inj.1 h3
theorem bt_append_left {s t : ByteArray} {k : Nat} (h : k < s.size) : bt (s ++ t) k = bt s k := by
  rw [← get_bt _ _ (by rw [ByteArray.size_append]; omega), ← get_bt _ _ h]
  congr 2
  exact ByteArray.getElem_append_left h
theorem bt_append_right {s t : ByteArray} {k : Nat} (h : s.size ≤ k) : bt (s ++ t) k = bt t (k - s.size) := by
  by_cases hk : k < (s ++ t).size
  · have h2 : k - s.size < t.size := by rw [ByteArray.size_append] at hk; omega
    rw [← get_bt _ _ hk, ← get_bt _ _ h2]
    congr 2
    exact ByteArray.getElem_append_right h
  · rw [bt_end _ (by omega), bt_end _ (by rw [ByteArray.size_append] at hk; omega)]
theorem bt_extract {s : ByteArray} {a b k : Nat} (hb : b ≤ s.size) (h : k < b - a) : bt (s.extract a b) k = bt s (a + k) := by
  have h1 : k < (s.extract a b).size := by rw [ByteArray.size_extract]; omega
  rw [← get_bt _ _ h1, ← get_bt _ _ (show a + k < s.size by omega), show (s.extract a b)[k]'h1 = s[a + k]'(by omega) from ByteArray.getElem_extract h1]
/-- What is put is got. -/
theorem get_put (s : ByteArray) (k : Nat) (n : Nat) (hn : n < 4294967296) (h : ∀ j, j < 4 → bt s (k + j) = bt (putB n 4) j) : getI s k = (n : Int) := by
  have h0 := h 0 (by decide)
  have h1 := h 1 (by decide)
  have h2 := h 2 (by decide)
  have h3 := h 3 (by decide)
  unfold putB at *
  rw [putL4] at *
  rw [strOfNums_at _ 0 _ rfl (by omega) (by omega)] at h0
  rw [strOfNums_at _ 1 _ rfl (by omega) (by omega)] at h1
  rw [strOfNums_at _ 2 _ rfl (by omega) (by omega)] at h2
  rw [strOfNums_at _ 3 _ rfl (by omega) (by omega)] at h3
  unfold getI
  simp only [Nat.add_zero] at h0
  omega
/-- What is got is put. -/
theorem put_get (s : ByteArray) (k : Nat) (h : k + 4 ≤ s.size) : putB (getI s k).toNat 4 = s.extract k (k + 4) := by
  apply bt_ext
  · rw [putB_size, ByteArray.size_extract]; omega
  · intro j hj
    rw [putB_size] at hj
    rw [bt_extract h (by omega)]
    unfold putB getI
    rw [putL4]
    have := bt_nonneg s k; have := bt_le s k; have := bt_nonneg s (k + 1); have := bt_le s (k + 1)
    have := bt_nonneg s (k + 2); have := bt_le s (k + 2); have := bt_nonneg s (k + 3); have := bt_le s (k + 3)
    match j, hj with
    | 0, _ => rw [strOfNums_at _ 0 _ rfl (by omega) (by omega)]; show _ = bt s k; omega
    | 1, _ => rw [strOfNums_at _ 1 _ rfl (by omega) (by omega)]; omega
    | 2, _ => rw [strOfNums_at _ 2 _ rfl (by omega) (by omega)]; omega
    | 3, _ => rw [strOfNums_at _ 3 _ rfl (by omega) (by omega)]; omega
end Go.Proofs.Ytoklcnfpeipalaa
/- A text's bytes as a list of numbers. They hold of texts alone, under no condition on the program. -/
namespace Go.Proofs.Ytoklcnfpeipalaa
open Go.PlainAid
set_option linter.unusedVariables false
/-- A text's bytes. -/
def bl (s : ByteArray) : List Int := s.data.toList.map fun u => (u.toNat : Int)
def IsB (l : List Int) : Prop := ∀ x ∈ l, 0 ≤ x ∧ x ≤ 255
theorem bl_length (s : ByteArray) : (bl s).length = s.size := by rw [bl, List.length_map]; rfl
theorem bl_at (s : ByteArray) (i : Nat) (h : i < s.size) : (bl s)[i]? = some (bt s i) := by
  have h2 : i < s.data.toList.length := h
  unfold bl bt
  rw [List.getElem?_map, List.getElem?_eq_getElem h2, dif_pos h]
  rfl
theorem bl_get (s : ByteArray) (i : Nat) (h : i < (bl s).length) : (bl s)[i] = bt s i := by
  have := bl_at s i (by rw [bl_length] at h; exact h)
  rw [List.getElem?_eq_getElem h] at this
  exact Option.some.inj this
theorem bl_isB (s : ByteArray) : IsB (bl s) := by
  intro x hx
  obtain ⟨u, _, rfl⟩ := List.mem_map.1 hx
  have := u.toNat_lt
  omega
theorem bl_drop (s : ByteArray) (i : Nat) (h : i < s.size) : (bl s).drop i = bt s i :: (bl s).drop (i + 1) := by
  have hl : i < (bl s).length := by rw [bl_length]; exact h
  rw [List.drop_eq_getElem_cons hl, bl_get]
theorem bl_drop_end (s : ByteArray) (i : Nat) (h : s.size ≤ i) : (bl s).drop i = [] := List.drop_eq_nil_of_le (by rw [bl_length]; exact h)
theorem bl_inj {s t : ByteArray} (h : bl s = bl t) : s = t := by
  have hs : s.size = t.size := by rw [← bl_length, ← bl_length, h]
  apply bt_ext hs
  intro k hk
  have h1 := bl_at s k hk
  have h2 := bl_at t k (by omega)
  rw [h, h2] at h1
  exact (Option.some.inj h1).symm
theorem bl_append (s t : ByteArray) : bl (s ++ t) = bl s ++ bl t := by simp [bl, ByteArray.data_append]
theorem bl_extract (s : ByteArray) (a b : Nat) (hb : b ≤ s.size) : bl (s.extract a b) = ((bl s).drop a).take (b - a) := by
  apply List.ext_getElem?
  intro i
  by_cases hi : i < b - a
  · rw [bl_at _ _ (by rw [ByteArray.size_extract]; omega), bt_extract hb hi, List.getElem?_take_of_lt hi, List.getElem?_drop, bl_at _ _ (by omega)]
  · rw [List.getElem?_eq_none (by rw [bl_length, ByteArray.size_extract]; omega), List.getElem?_eq_none (by simp; omega)]
theorem bl_str {l : List Int} (h : IsB l) : bl (strOfNums l) = l := by
  apply List.ext_getElem?
  intro i
  by_cases hi : i < l.length
  · have hm := h l[i] (List.getElem_mem hi)
    rw [bl_at _ _ (by rw [strOfNums_size]; exact hi), strOfNums_at l i l[i] (List.getElem?_eq_getElem hi) hm.1 hm.2, List.getElem?_eq_getElem hi]
  · rw [List.getElem?_eq_none (by rw [bl_length, strOfNums_size]; omega), List.getElem?_eq_none (by omega)]
theorem str_bl (s : ByteArray) : strOfNums (bl s) = s := bl_inj (bl_str (bl_isB s))
theorem str_inj {l m : List Int} (hl : IsB l) (hm : IsB m) (h : strOfNums l = strOfNums m) : l = m := by rw [← bl_str hl, ← bl_str hm, h]
theorem IsB.append {l m : List Int} (h : IsB l) (k : IsB m) : IsB (l ++ m) := by
  intro x hx
  rcases List.mem_append.1 hx with h1 | h1
  · exact h x h1
  · exact k x h1
theorem IsB.cons {x : Int} {l : List Int} (h0 : 0 ≤ x) (h1 : x ≤ 255) (h : IsB l) : IsB (x :: l) := by
  intro y hy
  rcases List.mem_cons.1 hy with rfl | hy
  · exact ⟨h0, h1⟩
  · exact h y hy
theorem IsB.nil : IsB [] := by intro x hx; cases hx
theorem IsB.head {x : Int} {l : List Int} (h : IsB (x :: l)) : 0 ≤ x ∧ x ≤ 255 := h x (List.mem_cons_self ..)
theorem IsB.tail {x : Int} {l : List Int} (h : IsB (x :: l)) : IsB l := fun y hy => h y (List.mem_cons_of_mem _ hy)
theorem IsB.drop {l : List Int} (h : IsB l) (n : Nat) : IsB (l.drop n) := fun y hy => h y (List.mem_of_mem_drop hy)
theorem IsB.take {l : List Int} (h : IsB l) (n : Nat) : IsB (l.take n) := fun y hy => h y (List.mem_of_mem_take hy)

/-! ### An or of disjoint parts, in a byte and in an int -/
theorem ofInt_toNat8 {a : Int} (h0 : 0 ≤ a) (h1 : a ≤ 255) : (BitVec.ofInt 8 a).toNat = a.toNat := by
  obtain ⟨n, rfl⟩ := Int.eq_ofNat_of_zero_le h0
  rw [BitVec.ofInt_natCast, BitVec.toNat_ofNat]
  simp; omega
theorem bits_or8 (a b : Int) : bits .or .u8 a b = ((BitVec.ofInt 8 a ||| BitVec.ofInt 8 b).toNat : Int) := by
  show IntKind.u8.wrap ((BitVec.ofInt 8 a ||| BitVec.ofInt 8 b).toNat : Int) = _
  rw [IntKind.wrap_u8]
  have := (BitVec.ofInt 8 a ||| BitVec.ofInt 8 b).isLt
  omega
theorem or8_add (a b : Int) (i : Nat) (ha : 0 ≤ a) (hb : 0 ≤ b) (hb' : b < 2 ^ i) (h : a * 2 ^ i + b ≤ 255) : bits .or .u8 (a * 2 ^ i) b = a * 2 ^ i + b := by
  obtain ⟨x, rfl⟩ := Int.eq_ofNat_of_zero_le ha
  obtain ⟨y, rfl⟩ := Int.eq_ofNat_of_zero_le hb
  have e : ((x : Int) * 2 ^ i) = ((x * 2 ^ i : Nat) : Int) := by simp
  have hy : y < 2 ^ i := by have : ((y : Int)) < ((2 ^ i : Nat) : Int) := by simpa using hb'
                            omega
  rw [e] at h ⊢
  rw [bits_or8, BitVec.toNat_or, ofInt_toNat8 (by omega) (by omega), ofInt_toNat8 (by omega) (by omega)]
  simp only [Int.toNat_natCast]
  rw [nat_or_add _ _ _ hy]
  simp
theorem bits_ori (a b : Int) : bits .or .i64 a b = IntKind.i64.wrap ((BitVec.ofInt 64 a ||| BitVec.ofInt 64 b).toNat : Int) := rfl
theorem ori_add (a b : Int) (i : Nat) (ha : 0 ≤ a) (hb : 0 ≤ b) (hb' : b < 2 ^ i) (h : a * 2 ^ i + b ≤ 9223372036854775807) : bits .or .i64 (a * 2 ^ i) b = a * 2 ^ i + b := by
  obtain ⟨x, rfl⟩ := Int.eq_ofNat_of_zero_le ha
  obtain ⟨y, rfl⟩ := Int.eq_ofNat_of_zero_le hb
  have e : ((x : Int) * 2 ^ i) = ((x * 2 ^ i : Nat) : Int) := by simp
  have hy : y < 2 ^ i := by have : ((y : Int)) < ((2 ^ i : Nat) : Int) := by simpa using hb'
                            omega
  rw [e] at h ⊢
  rw [bits_ori, BitVec.toNat_or, ofInt_toNat64 (by omega) (by omega), ofInt_toNat64 (by omega) (by omega)]
  simp only [Int.toNat_natCast]
  rw [nat_or_add _ _ _ hy, IntKind.wrap_i64]
  omega
theorem or8_128 (b : Int) (h0 : 0 ≤ b) (h1 : b < 128) : bits .or .u8 128 b = 128 + b := or8_add 1 b 7 (by decide) h0 h1 (by omega)
theorem ori_7 (a b : Int) (ha : 0 ≤ a) (h0 : 0 ≤ b) (h1 : b < 128) (h : a * 128 + b ≤ 9223372036854775807) : bits .or .i64 (a * 128) b = a * 128 + b := ori_add a b 7 ha h0 h1 h
/-! ### The lower bits, and a bit -/
theorem bits_and8 (a b : Int) : bits .and .u8 a b = ((BitVec.ofInt 8 a &&& BitVec.ofInt 8 b).toNat : Int) := by
  show IntKind.u8.wrap ((BitVec.ofInt 8 a &&& BitVec.ofInt 8 b).toNat : Int) = _
  rw [IntKind.wrap_u8]
  have := (BitVec.ofInt 8 a &&& BitVec.ofInt 8 b).isLt
  omega
theorem bits_andi (a b : Int) : bits .and .i64 a b = IntKind.i64.wrap ((BitVec.ofInt 64 a &&& BitVec.ofInt 64 b).toNat : Int) := rfl
theorem and8_low (a : Int) (i : Nat) (h0 : 0 ≤ a) (h1 : a ≤ 255) (hi : i ≤ 8) : bits .and .u8 a (2 ^ i - 1) = a % 2 ^ i := by
  obtain ⟨x, rfl⟩ := Int.eq_ofNat_of_zero_le h0
  have hp : 2 ^ i ≤ 2 ^ 8 := Nat.pow_le_pow_right (by decide) hi
  have hq : 0 < 2 ^ i := Nat.pow_pos (by decide)
  have e : ((2 : Int) ^ i - 1) = ((2 ^ i - 1 : Nat) : Int) := by rw [Int.ofNat_sub hq]; simp
  rw [e, bits_and8, BitVec.toNat_and, ofInt_toNat8 (by omega) (by omega), ofInt_toNat8 (by omega) (by omega), Int.toNat_natCast, Int.toNat_natCast, Nat.and_two_pow_sub_one_eq_mod]
  simp
theorem andi_low (a : Int) (i : Nat) (h0 : 0 ≤ a) (h1 : a ≤ 9223372036854775807) (hi : i ≤ 62) : bits .and .i64 a (2 ^ i - 1) = a % 2 ^ i := by
  obtain ⟨x, rfl⟩ := Int.eq_ofNat_of_zero_le h0
  have hp : 2 ^ i ≤ 2 ^ 62 := Nat.pow_le_pow_right (by decide) hi
  have hq : 0 < 2 ^ i := Nat.pow_pos (by decide)
  have e : ((2 : Int) ^ i - 1) = ((2 ^ i - 1 : Nat) : Int) := by rw [Int.ofNat_sub hq]; simp
  have hm : x % 2 ^ i ≤ x := Nat.mod_le _ _
  rw [e, bits_andi, BitVec.toNat_and, ofInt_toNat64 (by omega) (by omega), ofInt_toNat64 (by omega) (by omega), Int.toNat_natCast, Int.toNat_natCast, Nat.and_two_pow_sub_one_eq_mod, IntKind.wrap_i64]
  rw [show ((x : Int) % 2 ^ i) = ((x % 2 ^ i : Nat) : Int) by simp]
  omega
theorem and8_31 (a : Int) (h0 : 0 ≤ a) (h1 : a ≤ 255) : bits .and .u8 a 31 = a % 32 := and8_low a 5 h0 h1 (by decide)
theorem and8_127 (a : Int) (h0 : 0 ≤ a) (h1 : a ≤ 255) : bits .and .u8 a 127 = a % 128 := and8_low a 7 h0 h1 (by decide)
theorem and8_32all : ∀ x : Fin 256, bits .and .u8 (x.val : Int) 32 = (x.val : Int) / 32 % 2 * 32 := by decide +kernel
theorem and8_32 (a : Int) (h0 : 0 ≤ a) (h1 : a ≤ 255) : bits .and .u8 a 32 = a / 32 % 2 * 32 := by
  have := and8_32all ⟨a.toNat, by omega⟩
  simp only [Int.toNat_of_nonneg h0] at this
  exact this
theorem andi_127 (a : Int) (h0 : 0 ≤ a) (h1 : a ≤ 9223372036854775807) : bits .and .i64 a 127 = a % 128 := andi_low a 7 h0 h1 (by decide)
end Go.Proofs.Ytoklcnfpeipalaa
/- Words for memory: a slice of the call's own blocks that holds a list; what is laid, stored, appended keeps of it. They hold of any program. -/
namespace Go.Proofs.Ytoklcnfpeipalaa
open Go.RowKit
/-- Block g holds the cells l, none of them frozen. -/
def Row (w : World) (g : Nat) (t : TypeId) (l : List Value) : Prop := w.heap[g]? = some (.cells l.toArray t (0, 0))
section
variable {w w' : World} {g : Nat} {t : TypeId} {l : List Value}
theorem Row.lt (h : Row w g t l) : g < w.heap.size := by
  unfold Row at h
  rcases Nat.lt_or_ge g w.heap.size with h1 | h1
  · exact h1
  · rw [Array.getElem?_eq_none h1] at h; cases h
theorem Row.cell (h : Row w g t l) (i : Nat) : w.cell? ⟨g, i, none⟩ = l[i]? := by
  rw [cell_of_row w g i l.toArray t (0, 0) h]; simp
theorem Row.frozen (h : Row w g t l) (i : Nat) : w.frozen? ⟨g, i, none⟩ = false := by
  unfold Row at h
  simp [World.frozen?, h]
theorem Row.new (w : World) (t : TypeId) (l : List Value) : Row (w.alloc (.cells l.toArray t)) w.heap.size t l := heap_alloc_new w _
theorem Row.alloc (h : Row w g t l) (o : Obj) : Row (w.alloc o) g t l := (Below.heap_alloc w o g h.lt).trans h
theorem Row.set (h : Row w g t l) (i : Nat) (u : Value) : Row (w.setCell ⟨g, i, none⟩ u) g t (l.set i u) := by
  unfold Row
  rw [heap_setCell_same w g i l.toArray t u h]; simp
theorem Row.far (h : Row w g t l) {p : Addr} (hp : g ≠ p.block) (u : Value) : Row (w.setCell p u) g t l := (Below.heap_setCell w p u g hp).trans h
theorem Row.below {B : Nat} (h : Row w g t l) (hb : Below B w w') (hg : g < B) : Row w' g t l := (hb.block g hg).trans h
theorem Row.grown {row : Option Nat} (h : Row w g t l) (hb : w.grownBy w' row) (hg : some g ≠ row) : Row w' g t l := (hb.block g h.lt hg).trans h

/-- v is a slice from block g's head on that holds l (behind it there may be room). -/
def Sl (w : World) (t : TypeId) (v : Value) (l : List Value) (g : Nat) : Prop :=
  ∃ sp : List Value, v = .slice (some ⟨g, 0, none⟩) l.length (l.length + sp.length) ∧ l.length + sp.length ≤ maxLen ∧ Row w g t (l ++ sp)
theorem Sl.lt {v : Value} (h : Sl w t v l g) : g < w.heap.size := by
  obtain ⟨sp, _, _, h⟩ := h; exact h.lt
theorem Sl.open {v : Value} {n : Nat} (h : Sl w t v l g) (hn : l.length = n) : ∃ c, v = .slice (some ⟨g, 0, none⟩) n c ∧ n ≤ c ∧ c ≤ maxLen := by
  obtain ⟨sp, h, hm, _⟩ := h; subst hn; exact ⟨_, h, by omega, hm⟩
theorem Sl.cell {v : Value} (h : Sl w t v l g) {i : Nat} (hi : i < l.length) : w.cell? ⟨g, i, none⟩ = some l[i] := by
  obtain ⟨sp, _, _, h⟩ := h
  rw [h.cell, List.getElem?_append_left hi, List.getElem?_eq_getElem hi]
theorem Sl.below {v : Value} {B : Nat} (h : Sl w t v l g) (hb : Below B w w') (hg : g < B) : Sl w' t v l g := by
  obtain ⟨sp, h1, h2, h⟩ := h; exact ⟨sp, h1, h2, h.below hb hg⟩
theorem Sl.keep {v : Value} (h : Sl w t v l g) (hb : Below w.heap.size w w') : Sl w' t v l g := h.below hb h.lt
theorem Sl.alloc {v : Value} (h : Sl w t v l g) (o : Obj) : Sl (w.alloc o) t v l g := by
  obtain ⟨sp, h1, h2, h⟩ := h; exact ⟨sp, h1, h2, h.alloc o⟩
theorem Sl.far {v : Value} (h : Sl w t v l g) {p : Addr} (hp : g ≠ p.block) (u : Value) : Sl (w.setCell p u) t v l g := by
  obtain ⟨sp, h1, h2, h⟩ := h; exact ⟨sp, h1, h2, h.far hp u⟩
theorem Sl.drew {v : Value} (h : Sl w t v l g) : Sl w.drew t v l g := h
theorem Sl.drewN {v : Value} (h : Sl w t v l g) (k : Nat) : Sl (w.drewN k) t v l g := h
theorem Sl.grown {v : Value} {row : Option Nat} (h : Sl w t v l g) (hb : w.grownBy w' row) (hg : some g ≠ row) : Sl w' t v l g := by
  obtain ⟨sp, h1, h2, h⟩ := h; exact ⟨sp, h1, h2, h.grown hb hg⟩
theorem Sl.new (w : World) (t : TypeId) (l : List Value) (hl : l.length ≤ maxLen) : Sl (w.alloc (.cells l.toArray t)) t (.slice (some ⟨w.heap.size, 0, none⟩) l.length l.length) l w.heap.size :=
  ⟨[], by simp, by simpa using hl, by simpa using Row.new w t l⟩
theorem Sl.set {v : Value} (h : Sl w t v l g) {i : Nat} (hi : i < l.length) (u : Value) : Sl (w.setCell ⟨g, i, none⟩ u) t v (l.set i u) g := by
  obtain ⟨sp, h1, h2, h⟩ := h
  refine ⟨sp, by rw [h1, List.length_set], by rw [List.length_set]; exact h2, ?_⟩
  have := h.set i u
  rwa [List.set_append_left _ _ hi] at this
/-- So a row of the call's own is one, and one is a row of the call's own. -/
theorem Sl.own {v : Value} (h : Sl w t v l g) {base : Nat} (hb : base ≤ g) : w.ownsRow base t 1 v l.length l := by
  obtain ⟨sp, h1, h2, h⟩ := h
  refine ⟨by simp, .inr ⟨g, _, _, h1, hb, h, by omega, h2, by simp, by simp⟩⟩
theorem Sl.of_own {v : Value} {base n : Nat} (h : w.ownsRow base t 1 v n l) (hv : v ≠ .slice none 0 0) : ∃ g, Sl w t v l g ∧ base ≤ g := by
  obtain ⟨hl, ⟨hv', _⟩ | ⟨g, cap, cur, hv', hb, hg, hn, hc, hs, ht⟩⟩ := h
  · exact absurd hv' hv
  · have hln : l.length = n := by simpa using hl
    have hs' : cur.toList.length = cap := by simpa using hs
    have hcur : l ++ cur.toList.drop n = cur.toList := by rw [← ht]; simp [List.take_append_drop]
    have hlen : l.length + (cur.toList.drop n).length = cap := by rw [List.length_drop]; omega
    refine ⟨g, ⟨cur.toList.drop n, ?_, by omega, ?_⟩, hb⟩
    · rw [hv', hlen, hln]
    · unfold Row; rw [hcur]; simpa using hg
end
section
variable {P : Program}
/-- append onto a slice of the call's own, which is not nil: it stands where it stood, or at the heap's end. -/
theorem run_append_sl (w : World) (t ty e : TypeId) (i : TypeInfo) (z : Value) (bytes : Nat) (ht : P.underlying t = some (.slice e)) (hi : P.info? e = some i) (hz : i.zero = some z)
    (hsize : i.size = 1) (hby : i.bytes = bytes) (hzs : z.cells.size = 1) {v : Value} {l : List Value} {g : Nat} (hs : Sl w e v l g)
    (a : Addr) (m c : Nat) (news : List Value) (hl : news.length = m) (hnews : ∀ j u, news[j]? = some u → w.cell? (a.add j) = some u) (h1 : ∀ u ∈ news, u.oneCell' = true)
    (h63 : l.length + m ≤ maxLen) (hbytes : (l.length + m) * bytes ≤ 140737488355328) :
    ∃ v' w' g', (Builtin.append_ #[t, t] ty #[v, .slice (some a) m c]).run P w = .ok v' w' ∧ Sl w' e v' (l ++ news) g' ∧ (g' = g ∨ g' = w.heap.size) ∧ w.grownBy w' (some g) := by
  subst hby
  obtain ⟨sp, hv, hm, hr⟩ := id hs
  have hll : (l ++ news).length = l.length + m := by rw [List.length_append, hl]
  by_cases hroom : l.length + m ≤ l.length + sp.length
  · have h := run_append_room (P := P) w t ty e i ht hi g l.length (l.length + sp.length) (l ++ sp).toArray hr a m c news (by rw [hsize, hl]; omega) hnews h1 hroom (by rw [hsize, hl]; simp; omega)
    rw [hv]
    refine ⟨_, _, g, h, ⟨sp.drop m, ?_, ?_, ?_⟩, .inl rfl, ?_⟩
    · rw [hll, List.length_drop, show l.length + m + (sp.length - m) = l.length + sp.length by omega]
    · rw [hll, List.length_drop]; omega
    · unfold Row
      rw [setRow_heap w g _ _ e (0, 0) hr]
      congr 3
      rw [hsize, Nat.mul_one, List.take_left, hl, List.drop_append, List.drop_eq_nil_of_le (by omega), List.nil_append]
      congr 3
      omega
    · exact ⟨rfl, rfl, rfl, by simp, fun k _ hk => setRow_other w g k _ (fun e => hk (by rw [e]))⟩
  · have h := run_append_grow (P := P) w t ty e i z ht hi hz ⟨g, 0, none⟩ l.length (l.length + sp.length) l (by rw [hsize]; omega)
      (fun j u hj => by
        have hj' := (List.getElem?_eq_some_iff.1 hj).1
        rw [show (⟨g, 0, none⟩ : Addr).add j = ⟨g, j, none⟩ by unfold Addr.add; split <;> simp_all, hr.cell, List.getElem?_append_left hj']; exact hj)
      a m c news (by rw [hsize, hl]; omega) hnews (by omega) (by simp only [maxLen] at h63; omega) (growslice_fits (by omega) hbytes)
    rw [hv]
    have hzl : (Builtin.zeroCells z.cells (grownCap w (l.length + m) (l.length + sp.length) e - (l.length + m))).toList.length = grownCap w (l.length + m) (l.length + sp.length) e - (l.length + m) := by
      rw [Array.length_toList, size_zeroCells, hzs, Nat.mul_one]
    refine ⟨_, _, w.heap.size, h, ⟨(Builtin.zeroCells z.cells (grownCap w (l.length + m) (l.length + sp.length) e - (l.length + m))).toList, ?_, ?_, ?_⟩, .inr rfl, ?_⟩
    · rw [hll, hzl]
      have := grownCap_ge w (l.length + m) (l.length + sp.length) e
      congr 1
      omega
    · rw [hll, hzl]
      have := grownCap_le_maxLen w (l.length + m) (l.length + sp.length) e h63
      have := grownCap_ge w (l.length + m) (l.length + sp.length) e
      omega
    · unfold Row
      have hn := heap_alloc_new w.drew (.cells (l.toArray ++ news.toArray ++ Builtin.zeroCells z.cells (grownCap w (l.length + m) (l.length + sp.length) e - (l.length + m))) e)
      refine Eq.trans hn ?_
      simp
    · exact ⟨rfl, rfl, rfl, by simp, fun k hk _ => Below.heap_alloc w.drew _ k hk⟩
theorem wpList_append_sl {w : World} {ops : Array Oper} {rest : List Oper} {o : Oper} {a : Act} {Q : Exit → Act → World → Prop} (hgd : o.guard = none) (s x : Operand) (t : TypeId)
    (ho : o.op = .call { callee := .builtin .append, args := #[s, x], argTypes := #[t, t] })
    (e : TypeId) (i : TypeInfo) (z : Value) (bytes : Nat) (ht : P.underlying t = some (.slice e)) (hi : P.info? e = some i) (hz : i.zero = some z)
    (hsize : i.size = 1) (hby : i.bytes = bytes) (hzs : z.cells.size = 1)
    {v : Value} {l : List Value} {g : Nat} (hv : a.eval s = v) (hs : Sl w e v l g)
    (ad : Addr) (m c : Nat) (news : List Value) (hx : a.eval x = .slice (some ad) m c) (hl : news.length = m) (hnews : ∀ j u, news[j]? = some u → w.cell? (ad.add j) = some u) (h1 : ∀ u ∈ news, u.oneCell' = true)
    (h63 : l.length + m ≤ maxLen) (hbytes : (l.length + m) * bytes ≤ 140737488355328)
    (h : ∀ v' w' g', Sl w' e v' (l ++ news) g' → (g' = g ∨ g' = w.heap.size) → w.grownBy w' (some g) → wpList P ops Q rest (a.put o.dst v') w') : wpList P ops Q (o :: rest) a w := by
  refine wpList_plain hgd fun K hK => ?_
  obtain ⟨v', w', g', hr, h2, h3, h4⟩ := run_append_sl (P := P) w t o.type e i z bytes ht hi hz hsize hby hzs hs ad m c news hl hnews h1 h63 hbytes
  unfold Oper.wp execOp
  simp only [ho, resolve, invoke, builtin, Sem.run_bind, Sem.run_pure, Result.andThen_ok, List.map_toArray, List.map_cons, List.map_nil, hv, hx, hr]
  exact hK _ _ (h v' w' g' h2 h3 h4)
end
end Go.Proofs.Ytoklcnfpeipalaa
/- What a call does to memory when it may write into some blocks alone: the blocks F. Of any program. -/
namespace Go.Proofs.Ytoklcnfpeipalaa
open Go.RowKit
set_option linter.unusedVariables false
/-- What was there is as it was, but for the blocks F. -/
structure Chg (F : Nat → Prop) (w w' : World) : Prop where
  os : w'.os = w.os
  tape : w'.tape = w.tape
  output : w'.output = w.output
  size : w.heap.size ≤ w'.heap.size
  block : ∀ i, i < w.heap.size → ¬ F i → w'.heap[i]? = w.heap[i]?
theorem Chg.to_below {F : Nat → Prop} {a w w' : World} (h : Below a.heap.size a w) (hc : Chg F w w') (hF : ∀ i, F i → a.heap.size ≤ i) : Below a.heap.size a w' :=
  ⟨hc.os.trans h.os, hc.tape.trans h.tape, hc.output.trans h.output, Nat.le_trans h.size hc.size, fun i hi => (hc.block i (Nat.lt_of_lt_of_le hi h.size) (fun f => by have := hF i f; omega)).trans (h.block i hi)⟩
theorem Row.chg {F : Nat → Prop} {w w' : World} {g : Nat} {t : TypeId} {l : List Value} (h : Row w g t l) (hc : Chg F w w') (hg : ¬ F g) : Row w' g t l := (hc.block g h.lt hg).trans h
theorem Chg.of_below {F : Nat → Prop} {w w' : World} (h : Below w.heap.size w w') : Chg F w w' := ⟨h.os, h.tape, h.output, h.size, fun i hi _ => h.block i hi⟩
theorem Chg.trans {F F' : Nat → Prop} {a w w' : World} (h : Chg F a w) (k : Chg F' w w') (hF : ∀ i, F' i → F i ∨ a.heap.size ≤ i) : Chg F a w' :=
  ⟨k.os.trans h.os, k.tape.trans h.tape, k.output.trans h.output, Nat.le_trans h.size k.size, fun i hi hn => (k.block i (Nat.lt_of_lt_of_le hi h.size) (fun f => by rcases hF i f with q | q; exact hn q; omega)).trans (h.block i hi hn)⟩
end Go.Proofs.Ytoklcnfpeipalaa
/- Slices of a call's own, of elements of any size: what keeps them. Of any program. -/
namespace Go.Proofs.Ytoklcnfpeipalaa
open Go.RowKit
set_option linter.unusedVariables false
section
variable {w w' : World} {base : Nat} {e : TypeId} {size : Nat} {v : Value} {n : Nat} {xs : List Value}
theorem own_keep (h : w.ownsRow base e size v n xs) (hb : ∀ i, i < w.heap.size → base ≤ i → w'.heap[i]? = w.heap[i]?) : w'.ownsRow base e size v n xs := by
  obtain ⟨hl, h1 | ⟨g, cap, cur, hv, hg, hh, hn, hc, hs, ht⟩⟩ := h
  · exact ⟨hl, .inl h1⟩
  · refine ⟨hl, .inr ⟨g, cap, cur, hv, hg, ?_, hn, hc, hs, ht⟩⟩
    have hlt : g < w.heap.size := by
      rcases Nat.lt_or_ge g w.heap.size with h1 | h1
      · exact h1
      · rw [Array.getElem?_eq_none h1] at hh; cases hh
    rw [hb g hlt hg]; exact hh
theorem own_chg {F : Nat → Prop} (h : w.ownsRow base e size v n xs) (hc : Chg F w w') (hF : ∀ i, F i → i < base) : w'.ownsRow base e size v n xs :=
  own_keep h (fun i h1 h2 => hc.block i h1 (fun f => by have := hF i f; omega))
theorem own_below (h : w.ownsRow base e size v n xs) (hb : Below w.heap.size w w') : w'.ownsRow base e size v n xs :=
  own_keep h (fun i h1 _ => hb.block i h1)
theorem own_draws (h : w.ownsRow base e size v n xs) (k : Nat) : (w.drewN k).ownsRow base e size v n xs := h
/-- Its shape. -/
theorem own_shape (h : w.ownsRow base e size v n xs) : (v = .slice none 0 0 ∧ n = 0) ∨ ∃ g c, v = .slice (some ⟨g, 0, none⟩) n c ∧ n ≤ c ∧ c ≤ maxLen ∧ base ≤ g ∧ g < w.heap.size := by
  obtain ⟨hl, h1 | ⟨g, cap, cur, hv, hg, hh, hn, hc, hs, ht⟩⟩ := h
  · exact .inl h1
  · refine .inr ⟨g, cap, hv, hn, hc, hg, ?_⟩
    rcases Nat.lt_or_ge g w.heap.size with h1 | h1
    · exact h1
    · rw [Array.getElem?_eq_none h1] at hh; cases hh
end
end Go.Proofs.Ytoklcnfpeipalaa
/- A region that draws its order, whose first operation only moves a slot that a later append wants (so that it may come up at any time), whose other operations read or call quietly, and which ends in a forced tail. Of any program. -/
namespace Go.Proofs.Ytoklcnfpeipalaa
open Go
section
variable {P : Program} {ops : Array Oper} {md : Region.Mode} {w : World}
/-- Each operation ahead of the tail, but the first one, is waited for by a later one that is the tail's first at the latest. -/
def sunkBut (md : Region.Mode) (ops : Array Oper) (n : Nat) : Bool :=
  (List.range n).all fun i => i == 0 || (List.range (n + 1)).any fun j => decide (i < j) && Region.waitsFor md ops j i
theorem sunkBut_spec {n i : Nat} (h : sunkBut md ops n = true) (hi : i < n) (h0 : i ≠ 0) : ∃ j, i < j ∧ j ≤ n ∧ Region.waitsFor md ops j i = true := by
  have h1 := List.all_eq_true.1 h i (List.mem_range.2 hi)
  simp only [Bool.or_eq_true, beq_iff_eq, h0, false_or] at h1
  obtain ⟨j, hj, hj2⟩ := List.any_eq_true.1 h1
  simp only [Bool.and_eq_true, decide_eq_true_eq] at hj2
  exact ⟨j, hj2.1, by have := List.mem_range.1 hj; omega, hj2.2⟩
/-- While an operation ahead of the tail has not come up, none of the tail's may. -/
theorem tail_late {n : Nat} {listed : Array Bool} (hs : sunkBut md ops n = true) (hc : Region.chainB md ops n = true) (inv : HeadInv md ops n listed) (h00 : listed.getD 0 false = true) :
    ∀ (d i : Nat), n - i = d → i < n → listed.getD i true = false → ∀ t, n ≤ t → t ∉ Region.ready md ops listed := by
  intro d
  induction d using Nat.strongRecOn with
  | _ d ih =>
    intro i hd hi hun t ht hr
    obtain ⟨_, ot, hot, hall⟩ := mem_ready.1 hr
    have htlt : t < ops.size := (Array.getElem?_eq_some_iff.1 hot).1
    have hi0 : i ≠ 0 := fun e => by rw [e] at hun; rw [getD_both hun] at h00; cases h00
    rcases Nat.lt_or_ge n t with htn | htn
    · have h1 := List.all_eq_true.1 hc t (List.mem_range.2 htlt)
      simp only [Bool.or_eq_true, decide_eq_true_eq] at h1
      rcases h1 with h1 | h1
      · omega
      · obtain ⟨o', ho', e, he, hb, hon⟩ := Region.waitsFor_spec h1
        obtain rfl : o' = ot := Option.some.inj (ho'.symm.trans hot)
        have h2 := hall e he hb
        rw [hon, getD_both (inv.tail (t - 1) (by omega) (by omega))] at h2
        cases h2
    · obtain rfl : t = n := by omega
      obtain ⟨j, hij, hjn, hw⟩ := sunkBut_spec hs hi hi0
      obtain ⟨oj, hoj, e, he, hb, hon⟩ := Region.waitsFor_spec hw
      by_cases hjt : j = t
      · subst hjt
        obtain rfl : oj = ot := Option.some.inj (hoj.symm.trans hot)
        have h2 := hall e he hb
        rw [hon, getD_both hun] at h2
        cases h2
      · cases hl : listed.getD j false with
        | true =>
          have h2 := inv.closed j oj hoj hl e he hb
          rw [hon, getD_both hun] at h2
          cases h2
        | false =>
          have hjs : j < listed.size := by rw [inv.size]; exact (Array.getElem?_eq_some_iff.1 hoj).1
          exact ih (t - j) (by omega) j rfl (by omega) (getD_in hjs hl) t (Nat.le_refl _) hr
theorem head_first {n i : Nat} {oi : Oper} {v : Value} {L : Array Bool → Act → Prop} (hi : ops[i]? = some oi) (hsel : ∀ (j : Nat) (o : Oper) cs b, ops[j]? = some o → o.op ≠ .select cs b)
    (hs : sunkBut md ops n = true) (hc : Region.chainB md ops n = true) (hin : i < n)
    (hdone : ∀ listed a, L listed a → ∀ j ∈ Region.ready md ops listed, n ≤ j) :
    ∀ (f : Nat) (listed : Array Bool) (a : Act), HeadInv md ops n listed → listed.getD 0 false = true →
      (∀ j oj, ops[j]? = some oj → j ≠ i → listed.getD j true = false → (∀ e ∈ oj.after, Region.binds md e = true → e.on ≠ i) → oi.apart ops oj = true) →
      i ∈ Region.ready md ops listed → YieldsAt P ops w oi v a →
      wpAnyL P md ops w n L f (listed.setIfInBounds i true) (a.put oi.dst v) → wpAnyL P md ops w n L (f + 1) listed a := by
  intro f
  induction f with
  | zero =>
    intro listed a inv h00 _ hr hy H
    have hun := (mem_ready.1 hr).1
    refine ⟨fun h => (by rw [h] at hr; cases hr), fun j hj => ?_⟩
    have hjn : j < n := Nat.lt_of_not_le fun h => tail_late hs hc inv h00 _ i rfl hin hun j h hj
    refine ⟨hjn, ?_⟩
    by_cases hji : j = i
    · subst hji; exact hy.stOp hi H
    · have := hdone _ _ H j (ready_mono hj hji)
      omega
  | succ f ih =>
    intro listed a inv h00 hfree hr hy H
    have hun := (mem_ready.1 hr).1
    refine ⟨fun h => (by rw [h] at hr; cases hr), fun j hj => ?_⟩
    have hjn : j < n := Nat.lt_of_not_le fun h => tail_late hs hc inv h00 _ i rfl hin hun j h hj
    refine ⟨hjn, ?_⟩
    by_cases hji : j = i
    · subst hji; exact hy.stOp hi H
    · have h1 := (H.2 j (ready_mono hj hji)).2
      obtain ⟨hjun, oj, hoj, hall⟩ := mem_ready.1 hj
      have hnot : ∀ e ∈ oj.after, Region.binds md e = true → e.on ≠ i := fun e he hb heq => by
        have h1 := hall e he hb
        rw [heq, getD_both hun] at h1
        cases h1
      have h2 := stOp_put hoj (hfree j oj hoj hji hjun hnot) (fun cs b => hsel i oi cs b hi) (fun cs b => hsel j oj cs b hoj) hy h1
      refine stOp_mono (fun a' h3 => ih (listed.setIfInBounds j true) a' (inv.set hj hjn) (getD_set_true h00) ?_ (ready_mono hr (Ne.symm hji)) h3.1 ?_) h2
      · intro k ok hk hki hun hno
        refine hfree k ok hk hki ?_ hno
        by_cases hjk : j = k
        · subst hjk; exact hjun
        · rw [getD_set_ne true hjk] at hun; exact hun
      · rw [Array.setIfInBounds_comm _ _ hji]
        exact h3.2
theorem head_lex {n g : Nat} {Lq : Act → Prop} (hsel : Region.noSelect ops = true) (hs : sunkBut md ops n = true) (hc : Region.chainB md ops n = true) :
    ∀ (l : List Oper) (k : Nat) (listed : Array Bool) (a : Act), (∀ j, j < l.length → l[j]? = ops[k + j]?) → k + l.length = n → HeadInv md ops n listed → listed.getD 0 false = true →
    Region.lexHead md ops g l.length k listed = true → wpStill P ops w Lq l a →
    wpAnyL P md ops w n (fun listed' a' => Region.seqB md ops g n listed' = true ∧ Lq a') l.length listed a
  | [], k, listed, a, _, hk, _, _, hB, h => by
    obtain rfl : k = n := by simpa using hk
    exact ⟨by simpa [Region.lexHead] using hB, h⟩
  | o :: l, k, listed, a, hl, hk, inv, h00, hB, h => by
    have h0 : ops[k]? = some o := by simpa using (hl 0 (by simp)).symm
    simp only [List.length_cons, Region.lexHead, Bool.and_eq_true] at hB
    obtain ⟨⟨hr, hf⟩, hB'⟩ := hB
    have hkn : k < n := by simp only [List.length_cons] at hk; omega
    have hr' : k ∈ Region.ready md ops listed := by simpa using hr
    have hst : stOp P ops w k (wpStill P ops w Lq l) a := by unfold stOp; simp only [h0]; exact h
    obtain ⟨v, hy, hK⟩ := yieldsAt_of_stOp h0 hst
    exact head_first h0 (Region.noSelect_spec hsel) hs hc hkn (fun listed' a' hL => seqB_ready hL.1) l.length listed a inv h00 (Region.free_spec h0 hf) hr' hy
      (head_lex hsel hs hc l (k + 1) _ _ (fun j hj => by have := hl (j + 1) (by simp; omega); simpa [Nat.add_assoc, Nat.add_comm 1 j] using this) (by simp only [List.length_cons] at hk; omega) (inv.set hr' hkn) (getD_set_true h00) hB' hK)
def idleTailB (md : Region.Mode) (ops : Array Oper) (n : Nat) : Bool :=
  Region.noSelect ops && decide (0 < n) && decide (n < ops.size) && sunkBut md ops n && Region.chainB md ops n && (Region.ready md ops (Array.replicate ops.size false)).contains 0 &&
    Region.free md ops (Array.replicate ops.size false) 0 && Region.lexHead md ops (ops.size - n) (n - 1) 1 ((Array.replicate ops.size false).setIfInBounds 0 true)
theorem wp_region_idle_tail {id : Nat} {Q : Exit → Act → World → Prop} {a : Act} {w : World} {o : Oper} {l : List Oper} {v : Value} (n : Nat) (hm : P.follows .mixedOrders = true) (hB : idleTailB .any (o :: l).toArray n = true)
    (hQ : ∀ c a w, Q (.panic c) (a.put o.dst v) w → Q (.panic c) a w) (hy : Yields P (o :: l).toArray o v a)
    (h : wpStill P (o :: l).toArray { w with drawn := w.drawn + 1 } (fun a' => wpList P (o :: l).toArray Q ((o :: l).drop n) a' { w with drawn := w.drawn + 1 }) (l.take (n - 1)) (a.put o.dst v)) : (Code.region id (o :: l).toArray true).wp P Q a w := by
  simp only [idleTailB, Bool.and_eq_true, decide_eq_true_eq] at hB
  obtain ⟨⟨⟨⟨⟨⟨⟨hsel, hn0⟩, hn⟩, hs⟩, hc⟩, hr0⟩, hf0⟩, hlex⟩ := hB
  have hn' : n < l.length + 1 := by simpa using hn
  have htl : (l.take (n - 1)).length = n - 1 := by simp; omega
  have hdl : ((o :: l).drop n).length = (o :: l).toArray.size - n := by simp
  have hi0 : (o :: l).toArray[0]? = some o := by simp
  have inv0 : HeadInv .any (o :: l).toArray n (Array.replicate (o :: l).toArray.size false) :=
    ⟨by simp, fun j oj _ hl => (by rw [getD_replicate_false] at hl; cases hl), fun t _ ht => getD_in (by simpa using ht) (getD_replicate_false _ _)⟩
  have hr0' : 0 ∈ Region.ready .any (o :: l).toArray (Array.replicate (o :: l).toArray.size false) := by simpa using hr0
  have inv1 := inv0.set hr0' (by omega)
  have h00 : ((Array.replicate (o :: l).toArray.size false).setIfInBounds 0 true).getD 0 false = true := by simp
  have H := head_lex (md := .any) (g := (o :: l).toArray.size - n) hsel hs hc (l.take (n - 1)) 1 _ _ (fun j hj => by
    have hj' : j < n - 1 := by rw [htl] at hj; exact hj
    simp [hj', Nat.add_comm 1 j]) (by rw [htl]; omega) inv1 h00 (by rw [htl]; exact hlex) h
  refine wp_region_any hm ?_
  have h3 := wpAny_of_head (Q' := Q) (g := (o :: l).toArray.size - n) (fun listed a' hL => by
    have h4 := wpAny_of_seq (md := .any) (Q' := Q) ((o :: l).drop n) n listed a' { w with drawn := w.drawn + 1 } (fun j => by simp [List.getElem?_drop]) (by rw [hdl]; exact hL.1) hL.2
    rwa [hdl] at h4) _ _ _ H
  have h5 := wpAny_take hi0 hsel hf0 hr0 hQ hy h3
  rw [htl, show n - 1 + ((o :: l).toArray.size - n) + 1 = (o :: l).toArray.size by omega] at h5
  exact h5
/-- The same three laws, the world behind the draw under its name. -/
theorem region_still {id : Nat} {Q : Exit → Act → World → Prop} {a : Act} {w : World} {l : List Oper} (hm : P.follows .mixedOrders = true) (hB : Region.lexB .any l.toArray = true)
    (h : wpStill P l.toArray w.drew (fun a' => Q .normal a' w.drew) l a) : (Code.region id l.toArray true).wp P Q a w := wp_region_still_lit hm hB h
theorem region_tail {id : Nat} {Q : Exit → Act → World → Prop} {a : Act} {w : World} {l : List Oper} (n : Nat) (hm : P.follows .mixedOrders = true) (hB : Region.lexTailB .any l.toArray n = true)
    (h : wpStill P l.toArray w.drew (fun a' => wpList P l.toArray Q (l.drop n) a' w.drew) (l.take n) a) : (Code.region id l.toArray true).wp P Q a w := wp_region_still_tail n hm hB h
theorem region_idle {id : Nat} {Q : Exit → Act → World → Prop} {a : Act} {w : World} {o : Oper} {l : List Oper} {v : Value} (n : Nat) (hm : P.follows .mixedOrders = true) (hB : idleTailB .any (o :: l).toArray n = true)
    (hQ : ∀ c a w, Q (.panic c) (a.put o.dst v) w → Q (.panic c) a w) (hy : Yields P (o :: l).toArray o v a)
    (h : wpStill P (o :: l).toArray w.drew (fun a' => wpList P (o :: l).toArray Q ((o :: l).drop n) a' w.drew) (l.take (n - 1)) (a.put o.dst v)) : (Code.region id (o :: l).toArray true).wp P Q a w := wp_region_idle_tail n hm hB hQ hy h
end
end Go.Proofs.Ytoklcnfpeipalaa
/- Slices that came in: their elements' cells as a list. Of any program. -/
namespace Go.Proofs.Ytoklcnfpeipalaa
open Go.RowKit Go.ChangeShapes Go.WideShapes Go.Deep
set_option linter.unusedVariables false
/-- A slice at 'oa' whose elements' cells, one behind the other, are l. -/
def Came (w : World) (oa : Option Addr) (l : List Value) : Prop :=
  ∀ j u, l[j]? = some u → ∃ a, oa = some a ∧ w.cell? (a.add j) = some u
theorem Came.nil (w : World) (oa : Option Addr) : Came w oa [] := by intro j u h; simp at h
theorem Came.lt {w : World} {oa : Option Addr} {l : List Value} (h : Came w oa l) {j : Nat} {u : Value} (hj : l[j]? = some u) : ∃ a, oa = some a ∧ w.cell? (a.add j) = some u ∧ a.block < w.heap.size := by
  obtain ⟨a, rfl, hc⟩ := h j u hj
  refine ⟨a, rfl, hc, ?_⟩
  have e : (a.add j).block = a.block := by unfold Addr.add; split <;> rfl
  rw [← e]
  rcases Nat.lt_or_ge (a.add j).block w.heap.size with h1 | h1
  · exact h1
  · exfalso
    unfold World.cell? at hc
    rw [Array.getElem?_eq_none h1] at hc
    simp at hc
theorem Came.below {w w' : World} {oa : Option Addr} {l : List Value} (h : Came w oa l) (hb : Below w.heap.size w w') : Came w' oa l := by
  intro j u hj
  obtain ⟨a, h1, h2, h3⟩ := h.lt hj
  refine ⟨a, h1, ?_⟩
  have e : (a.add j).block = a.block := by unfold Addr.add; split <;> rfl
  rw [hb.cell (by rw [e]; exact h3)]; exact h2
/-- One cell of it, the place as the walk has it. -/
theorem Came.first {w : World} {oa : Option Addr} {l : List Value} (h : Came w oa l) (hl : 0 < l.length) : ∃ a, oa = some a ∧ a.block < w.heap.size ∧ ∀ j u, l[j]? = some u → w.cell? (a.add j) = some u := by
  obtain ⟨a, h1, h2, h3⟩ := h.lt (j := 0) (List.getElem?_eq_getElem hl)
  refine ⟨a, h1, h3, fun j u hj => ?_⟩
  obtain ⟨b, h4, h5⟩ := h j u hj
  rw [h1] at h4; cases h4; exact h5
def ivs (k : IntKind) (l : List Int) : List Value := l.map fun x : Int => Value.int k x
def svs (l : List ByteArray) : List Value := l.map Value.string
/-- Steps' cells: each step's count and its kind. -/
def pvs (l : List (Int × Int)) : List Value := l.flatMap fun s => [.int .i64 s.1, .int .i64 s.2]
def InI (x : Int) : Prop := -9223372036854775808 ≤ x ∧ x ≤ 9223372036854775807
def inK : IntKind → Int → Prop
  | .u8, x => 0 ≤ x ∧ x ≤ 255
  | .u32, x => 0 ≤ x ∧ x ≤ 4294967295
  | .u64, x => 0 ≤ x ∧ x ≤ 18446744073709551615
  | .i64, x => InI x
  | _, _ => True
theorem inK_of {k : IntKind} {x : Int} (h : (Lit.int k x).wf = true) : inK k x := by
  simp only [Lit.wf, Bool.and_eq_true, decide_eq_true_eq] at h
  cases k <;> first | trivial | (simp [IntKind.min, IntKind.max, IntKind.signed, IntKind.bits] at h; simp only [inK, InI]; omega)
section
variable {H : Type} {enc : TypeId × Value → H} {P : Program} {w : World} {base : Nat} {spare : Nat → Bool} {held : Bool}
theorem came_ints {t e : TypeId} {k : IntKind} {a : Option Addr} {len cap : Nat} {d : DataW H} {p : List MemPlace} (ht : P.underlying t = some (.slice e)) (he : P.underlying e = some (.int k)) (hc : P.cellsOf e = 1)
    (h : DataW.Trod enc P w base spare held t (.slice a len cap) d p) : ∃ l : List Int, l.length = len ∧ len ≤ cap ∧ cap ≤ maxLen ∧ Came w a (ivs k l) ∧ ∀ x ∈ l, inK k x := by
  obtain ⟨fuel, hf⟩ := h
  rcases open_ints ht he hc hf with ⟨hcs, _⟩ | ⟨x, l, c, zs, hcs, _, hl, hm, hz, _, hcell, hwz⟩
  · simp [Value.cells] at hcs
    obtain ⟨rfl, rfl, rfl⟩ := hcs
    exact ⟨[], rfl, Nat.le_refl _, Nat.zero_le _, Came.nil _ _, by simp⟩
  · simp [Value.cells] at hcs
    obtain ⟨rfl, rfl, rfl⟩ := hcs
    have hlz : len ≤ zs.length := by rw [hz]; split <;> omega
    refine ⟨zs.take len, by simp [hlz], hl, hm, fun j u hj => ⟨x, rfl, ?_⟩, fun y hy => inK_of (hwz y (List.mem_of_mem_take hy))⟩
    have hj' := (List.getElem?_eq_some_iff.1 hj).1
    simp [ivs] at hj'
    have hjl : j < zs.length := by omega
    rw [hcell j hjl]
    simp [ivs, List.getElem?_take_of_lt (show j < len by omega), hjl] at hj
    rw [← hj]; simp [hjl]
theorem came_strs {t e : TypeId} {a : Option Addr} {len cap : Nat} {d : DataW H} {p : List MemPlace} (ht : P.underlying t = some (.slice e)) (he : P.underlying e = some .string) (hc : P.cellsOf e = 1)
    (h : DataW.Trod enc P w base spare held t (.slice a len cap) d p) : ∃ l : List ByteArray, l.length = len ∧ len ≤ cap ∧ cap ≤ maxLen ∧ Came w a (svs l) ∧ ∀ x ∈ l, x.size ≤ maxLen := by
  obtain ⟨fuel, hf⟩ := h
  rcases open_strs ht he hc hf with ⟨hcs, _⟩ | ⟨x, l, c, m, S, hcs, _, hl, hm, hmm, _, hcell⟩
  · simp [Value.cells] at hcs
    obtain ⟨rfl, rfl, rfl⟩ := hcs
    exact ⟨[], rfl, Nat.le_refl _, Nat.zero_le _, Came.nil _ _, by simp⟩
  · simp [Value.cells] at hcs
    obtain ⟨rfl, rfl, rfl⟩ := hcs
    have hlz : len ≤ m := by rw [hmm]; split <;> omega
    refine ⟨(List.range len).map S, by simp, hl, hm, fun j u hj => ⟨x, rfl, ?_⟩, fun y hy => ?_⟩
    · have hj' := (List.getElem?_eq_some_iff.1 hj).1
      simp [svs] at hj'
      simp [svs, hj'] at hj
      rw [(hcell j (by omega)).1, hj]
    · obtain ⟨i, hi, rfl⟩ := List.mem_map.1 hy
      exact (hcell i (by have := List.mem_range.1 hi; omega)).2
theorem pvs_get {l : List (Int × Int)} {i : Nat} (h : i < l.length) : (pvs l)[2 * i]? = Option.some (.int .i64 l[i].1) ∧ (pvs l)[2 * i + 1]? = Option.some (.int .i64 l[i].2) := by
  induction l generalizing i with
  | nil => simp at h
  | cons s r ih =>
    cases i with
    | zero => exact ⟨rfl, rfl⟩
    | succ i =>
      have := ih (i := i) (by simpa using h)
      refine ⟨?_, ?_⟩
      · rw [show 2 * (i + 1) = 2 * i + 1 + 1 by omega]; exact this.1
      · rw [show 2 * (i + 1) + 1 = 2 * i + 1 + 1 + 1 by omega]; exact this.2
theorem pvs_length (l : List (Int × Int)) : (pvs l).length = 2 * l.length := by
  induction l with
  | nil => rfl
  | cons s r ih => show (pvs r).length + 1 + 1 = _; rw [ih, List.length_cons]; omega
theorem came_pairs {t e : TypeId} {f0 f1 : Field} {a : Option Addr} {len cap : Nat} {d : DataW H} {p : List MemPlace} (ht : P.underlying t = some (.slice e)) (he : P.underlying e = some (.struct #[f0, f1]))
    (ce : P.cellsOf e = 2) (o0 : f0.offset = 0) (o1 : f1.offset = 1) (c0 : P.cellsOf f0.type = 1) (c1 : P.cellsOf f1.type = 1) (k0 : P.underlying f0.type = some (.int .i64)) (k1 : P.underlying f1.type = some (.int .i64))
    (h : DataW.Trod enc P w base spare held t (.slice a len cap) d p) : ∃ l : List (Int × Int), l.length = len ∧ len ≤ cap ∧ cap ≤ maxLen ∧ Came w a (pvs l) ∧ ∀ s ∈ l, InI s.1 ∧ InI s.2 := by
  obtain ⟨fuel, hf⟩ := h
  rcases open_slice_pairs ht he ce o0 o1 c0 c1 hf with ⟨hcs, _⟩ | ⟨x, l, c, m, n, V0, V1, D0, D1, P0, P1, hcs, _, hl, hm, hmm, _, hx⟩
  · simp [Value.cells] at hcs
    obtain ⟨rfl, rfl, rfl⟩ := hcs
    exact ⟨[], rfl, Nat.le_refl _, Nat.zero_le _, Came.nil _ _, by simp⟩
  · simp [Value.cells] at hcs
    obtain ⟨rfl, rfl, rfl⟩ := hcs
    have hlz : len ≤ m := by rw [hmm]; split <;> omega
    have each : ∀ i, i < len → ∃ q : Int × Int, w.cell? (x.add (i * 2)) = some (.int .i64 q.1) ∧ w.cell? (x.add (i * 2 + 1)) = some (.int .i64 q.2) ∧ InI q.1 ∧ InI q.2 := by
      intro i hi
      obtain ⟨h1, h2, h3, h4⟩ := hx i (by omega)
      obtain ⟨n0, e0, _, w0⟩ := DataW.trod_int k0 h3
      obtain ⟨n1, e1, _, w1⟩ := DataW.trod_int k1 h4
      simp at e0 e1
      exact ⟨(n0, n1), by rw [h1, e0], by rw [h2, e1], inK_of w0, inK_of w1⟩
    obtain ⟨q, hq⟩ := choose_lt each
    refine ⟨(List.range len).map q, by simp, hl, hm, fun j u hj => ⟨x, rfl, ?_⟩, fun s hs => ?_⟩
    · have hj' := (List.getElem?_eq_some_iff.1 hj).1
      rw [pvs_length] at hj'
      simp at hj'
      have hi : j / 2 < len := by omega
      have hg := pvs_get (l := (List.range len).map q) (i := j / 2) (by simpa using hi)
      obtain ⟨h1, h2, _⟩ := hq (j / 2) hi
      simp only [List.getElem_map, List.getElem_range] at hg
      rcases Nat.mod_two_eq_zero_or_one j with hm2 | hm2
      · have e : j = 2 * (j / 2) := by omega
        rw [e, hg.1] at hj
        rw [show j = j / 2 * 2 by omega, h1]; exact hj
      · have e : j = 2 * (j / 2) + 1 := by omega
        rw [e, hg.2] at hj
        rw [show j = j / 2 * 2 + 1 by omega, h2]; exact hj
    · obtain ⟨i, hi, rfl⟩ := List.mem_map.1 hs
      exact (hq i (List.mem_range.1 hi)).2.2
end
end Go.Proofs.Ytoklcnfpeipalaa
/- What a call does to memory when it may write into one block alone ('grownBy' of it): the steps put together. Of any program. -/
namespace Go.Proofs.Ytoklcnfpeipalaa
open Go.RowKit
theorem grown_refl (w : World) (g : Nat) : w.grownBy w (some g) := ⟨rfl, rfl, rfl, Nat.le_refl _, fun _ _ _ => rfl⟩
theorem grown_below {w w' : World} (h : Below w.heap.size w w') (g : Nat) : w.grownBy w' (some g) := ⟨h.os, h.tape, h.output, h.size, fun k hk _ => h.block k hk⟩
theorem grown_trans {w w1 w2 : World} {g : Nat} (h : w.grownBy w1 (some g)) (k : w1.grownBy w2 (some g)) : w.grownBy w2 (some g) :=
  ⟨k.os.trans h.os, k.tape.trans h.tape, k.output.trans h.output, Nat.le_trans h.size k.size, fun i hi hg => (k.block i (Nat.lt_of_lt_of_le hi h.size) hg).trans (h.block i hi hg)⟩
theorem grown_set {w w1 : World} {g : Nat} (h : w.grownBy w1 (some g)) (o : Nat) (v : Value) : w.grownBy (w1.setCell ⟨g, o, none⟩ v) (some g) :=
  ⟨h.os, h.tape, h.output, by simpa using h.size, fun i hi hg => (Below.heap_setCell w1 _ v i (fun e => hg (by rw [e]))).trans (h.block i hi hg)⟩
theorem grown_drew {w w1 : World} {g : Nat} (h : w.grownBy w1 (some g)) : w.grownBy w1.drew (some g) := ⟨h.os, h.tape, h.output, h.size, h.block⟩
theorem grown_drewN {w w1 : World} {g : Nat} (h : w.grownBy w1 (some g)) (n : Nat) : w.grownBy (w1.drewN n) (some g) := ⟨h.os, h.tape, h.output, h.size, h.block⟩
theorem grown_alloc {w w1 : World} {g : Nat} (h : w.grownBy w1 (some g)) (o : Obj) : w.grownBy (w1.alloc o) (some g) :=
  ⟨h.os, h.tape, h.output, Nat.le_trans h.size (by simp), fun i hi hg => (Below.heap_alloc w1 o i (Nat.lt_of_lt_of_le hi h.size)).trans (h.block i hi hg)⟩
/-- A store into a block that the call itself made. -/
theorem grown_own {w w1 : World} {g : Nat} (h : w.grownBy w1 (some g)) {b : Nat} (hb : w.heap.size ≤ b) (o : Nat) (v : Value) : w.grownBy (w1.setCell ⟨b, o, none⟩ v) (some g) :=
  ⟨h.os, h.tape, h.output, by simpa using h.size, fun i hi hg => (Below.heap_setCell w1 _ v i (by show i ≠ b; omega)).trans (h.block i hi hg)⟩
theorem grown_to_below {a w w' : World} {g : Nat} (h : Below a.heap.size a w) (hg : a.heap.size ≤ g) (hb : w.grownBy w' (some g)) : Below a.heap.size a w' :=
  h.grown hb h.size (by intro k hk; cases hk; exact hg)
end Go.Proofs.Ytoklcnfpeipalaa
/- Words for memory, for arrays and structs in one block: many cells read or stored at once. They hold of any program. -/
namespace Go.Proofs.Ytoklcnfpeipalaa
open Go.RowKit Go.PlainAid
set_option linter.unusedVariables false
section
variable {w w' : World} {g : Nat} {t : TypeId} {l : List Value}
theorem take_set {α : Type} {l : List α} {o : Nat} (v : α) (h : o < l.length) : (l.set o v).take (o + 1) = l.take o ++ [v] := by
  apply List.ext_getElem
  · simp; omega
  · intro i h1 h2
    simp only [List.getElem_take, List.getElem_set, List.getElem_append, List.length_take]
    by_cases e : o = i
    · subst e
      rw [dif_neg (by omega)]; simp
    · rw [if_neg e, dif_pos (by simp at h1; omega)]
/-- Many cells are stored, from o on. -/
theorem Row.setMany : ∀ (vs : List Value) (o : Nat) {w : World} {l : List Value}, Row w g t l → o + vs.length ≤ l.length → Row (w.setCells g o vs) g t (l.take o ++ vs ++ l.drop (o + vs.length))
  | [], o, w, l, h, ho => by simpa [World.setCells] using h
  | v :: r, o, w, l, h, ho => by
    have hlen : o + (r.length + 1) ≤ l.length := by simpa using ho
    have h1 := Row.setMany r (o + 1) (h.set o v) (by rw [List.length_set]; omega)
    rw [take_set v (by omega), List.drop_set_of_lt (by omega)] at h1
    rw [World.setCells, List.length_cons, show o + (r.length + 1) = o + 1 + r.length by omega]
    simpa using h1
theorem Row.setAll (h : Row w g t l) {vs : List Value} (hl : vs.length = l.length) : Row (w.setCells g 0 vs) g t vs := by
  have := h.setMany vs 0 (by omega)
  rwa [List.take_zero, List.nil_append, List.drop_eq_nil_of_le (by omega), List.append_nil] at this
theorem heap_setCells_far : ∀ (vs : List Value) (o g' : Nat) (w : World) {k : Nat}, k ≠ g' → (w.setCells g' o vs).heap[k]? = w.heap[k]?
  | [], _, _, _, _, _ => rfl
  | v :: r, o, g', w, k, h => by
    rw [World.setCells, heap_setCells_far r (o + 1) g' _ h]
    exact Below.heap_setCell w _ v k h
theorem Row.farMany (h : Row w g t l) {g' : Nat} (hg : g ≠ g') (o : Nat) (vs : List Value) : Row (w.setCells g' o vs) g t l := (heap_setCells_far vs o g' w hg).trans h
theorem below_setCells {B : Nat} {a : World} : ∀ (vs : List Value) (o : Nat) {w : World}, Below B a w → B ≤ g → Below B a (w.setCells g o vs)
  | [], _, _, h, _ => h
  | v :: r, o, w, h, hg => below_setCells r (o + 1) (h.setCell (p := ⟨g, o, none⟩) hg v) hg
theorem setCells_size : ∀ (vs : List Value) (o : Nat) (w : World), (w.setCells g o vs).heap.size = w.heap.size
  | [], _, _ => rfl
  | v :: r, o, w => by rw [World.setCells, setCells_size r]; simp
theorem Row.range (h : Row w g t l) (o n : Nat) : w.rangeAt g o ((l.drop o).take n) := fun j v hj => by
  have hj' := (List.getElem?_eq_some_iff.1 hj).1
  rw [h.cell]
  rw [List.getElem?_take_of_lt (by simp at hj'; omega), List.getElem?_drop] at hj
  exact hj
theorem Row.there (h : Row w g t l) {o n : Nat} (hn : o + n ≤ l.length) : w.there g o n := fun j hj => by
  rw [h.cell, List.getElem?_eq_getElem (by omega)]
  exact ⟨rfl, h.frozen _⟩
theorem Row.whole (h : Row w g t l) : w.rangeAt g 0 l := by
  have := h.range 0 l.length
  rwa [List.drop_zero, List.take_length] at this
end
section
variable {P : Program}
/-- A result that lies in memory: what is loaded there. -/
theorem results_cell {fn : Func} {p : Tmp} {ty : TypeId} (h : fn.results = #[.cell p ty]) (tmps : Array Value) {ad : Addr} (hp : tmps.getD p undef = .pointer (some ad)) {v : Value} {w : World}
    (hl : (loadVar ty ad).run P w = .ok v w) : (results fn tmps).run P w = .ok v w := by
  rw [Array.getD_eq_getD_getElem?] at hp
  simp only [results, h]
  simp [hp, asAddr, hl]
theorem results_cell2 {fn : Func} {p q : Tmp} {ty tz : TypeId} (h : fn.results = #[.cell p ty, .cell q tz]) (tmps : Array Value) {ad bd : Addr} (hp : tmps.getD p undef = .pointer (some ad)) (hq : tmps.getD q undef = .pointer (some bd)) {v u : Value} {w : World}
    (hl : (loadVar ty ad).run P w = .ok v w) (hm : (loadVar tz bd).run P w = .ok u w) : (results fn tmps).run P w = .ok (.tuple #[v, u]) w := by
  rw [Array.getD_eq_getD_getElem?] at hp hq
  simp only [results, h]
  simp [hp, hq, asAddr, hl, hm]
/-- A text's first bytes, as cells. -/
def bcs (t : ByteArray) (n : Nat) : List Value := (List.range n).map fun j => Value.int .u8 (bt t j)
theorem bcs_length (t : ByteArray) (n : Nat) : (bcs t n).length = n := by simp [bcs]
theorem bcs_take (t : ByteArray) {n : Nat} (h : n ≤ t.size) : List.take n (List.map (fun b : UInt8 => Value.int IntKind.u8 (b.toNat : Int)) t.data.toList) = bcs t n := by
  apply List.ext_getElem
  · simp [bcs]; exact Nat.min_eq_left h
  · intro j h1 h2
    have hj : j < t.size := by simp [bcs] at h2; omega
    have := get_bt t j hj
    simp only [List.getElem_take, List.getElem_map, bcs, List.getElem_range]
    rw [← this]; rfl
theorem bcs_one (t : ByteArray) (n : Nat) : ∀ u ∈ bcs t n, u.oneCell' = true := by
  intro u hu; obtain ⟨x, _, rfl⟩ := List.mem_map.1 hu; rfl
/-- copy of a text into a slice: as many bytes as fit. -/
theorem run_copy_str (w : World) (dT sT ty elem : TypeId) (b o dLen dCap n : Nat) (t : ByteArray) (hn : min t.size dLen = n)
    (hu : P.underlying dT = some (.slice elem)) (hs : (P.info? elem).map (·.size) = some 1) (ht : w.there b o n) :
    (Builtin.copy_ #[dT, sT] ty #[.slice (some ⟨b, o, none⟩) dLen dCap, .string t]).run P w = .ok (goInt n) (w.setCells b o (bcs t n)) := by
  have hst := run_storeCells_cells (P := P) b o (bcs t n) 0 w (by rw [bcs_length]; simpa using fun j hj => (ht j hj).1) (by rw [bcs_length]; simpa using fun j hj => (ht j hj).2) (bcs_one t n)
  have hmin : Nat.min t.size dLen = n := hn
  cases hq : P.info? elem with
  | none => simp [hq] at hs
  | some i =>
    simp only [Nat.add_zero] at hst
    simp [Builtin.copy_, run_underlying hu, Builtin.lenOf, Builtin.firstCells, sizeOf, typeInfo, hq, hmin]
    rw [bcs_take t (by omega), hst]
    simp [Result.andThen]
end
/-- A result that lies in memory, and one that doesn't. -/
theorem results_cell_one {P : Program} {fn : Func} {p q : Tmp} {ty : TypeId} (h : fn.results = #[.cell p ty, .tmp q]) (tmps : Array Value) {ad : Addr} (hp : tmps.getD p undef = .pointer (some ad)) {v u : Value} {w : World}
    (hq : tmps.getD q undef = u) (hl : (loadVar ty ad).run P w = .ok v w) : (results fn tmps).run P w = .ok (.tuple #[v, u]) w := by
  rw [Array.getD_eq_getD_getElem?] at hp hq
  simp only [results, h]
  simp [hp, hq, asAddr, hl]
theorem row_new2 (w : World) (o : Obj) (t : TypeId) (l : List Value) : Row ((w.alloc o).alloc (.cells l.toArray t)) (w.heap.size + 1) t l := by
  have := Row.new (w.alloc o) t l
  simpa using this
end Go.Proofs.Ytoklcnfpeipalaa
/- Slices of bytes of a call's own: one byte appended, and the text that they make. Of any slice from a block's head on. -/
namespace Go.Proofs.Ytoklcnfpeipalaa
open Go.RowKit Go.PlainAid
set_option linter.unusedVariables false
theorem rets1 {a c : Value} (h : a = c) : Ending.returned a = .returned c := by rw [h]
theorem rets2 {a b c d : Value} (h : a = c) (h' : b = d) : Ending.returned (.tuple #[a, b]) = .returned (.tuple #[c, d]) := by rw [h, h']
theorem rets3 {a b c d e f : Value} (h : a = d) (h' : b = e) (h'' : c = f) : Ending.returned (.tuple #[a, b, c]) = .returned (.tuple #[d, e, f]) := by rw [h, h', h'']
def u8s (l : List Int) : List Value := l.map (Value.int .u8)
theorem u8s_length (l : List Int) : (u8s l).length = l.length := by simp [u8s]
theorem u8s_append (l m : List Int) : u8s (l ++ m) = u8s l ++ u8s m := by simp [u8s]
theorem u8s_at {l : List Int} {i : Nat} (h : i < l.length) : (u8s l)[i]? = some (.int .u8 l[i]) := by simp [u8s, h]
theorem u8s_one (l : List Int) : ∀ u ∈ u8s l, u.oneCell' = true := by
  intro u hu
  obtain ⟨x, _, rfl⟩ := List.mem_map.1 hu
  rfl
theorem infoU8 : (Try.prog.info? 5).map (fun i => (i.zero, i.size, i.bytes)) = some (some (.int .u8 0), 1, 1) := by kernel_rfl
theorem addr0 (g j : Nat) : (⟨g, 0, none⟩ : Addr).add j = ⟨g, j, none⟩ := by unfold Addr.add; split <;> simp_all
/-- A block of bytes that was just laid. -/
theorem sl_new_bytes (w : World) (l : List Int) (hl : l.length ≤ maxLen) : Sl (w.alloc (.cells (u8s l).toArray 5)) 5 (.slice (some ⟨w.heap.size, 0, none⟩) l.length l.length) (u8s l) w.heap.size := by
  have := Sl.new w 5 (u8s l) (by rw [u8s_length]; exact hl)
  rwa [u8s_length] at this
/-- The text that bytes make. -/
theorem conv_bytes {w : World} {v : Value} {l : List Int} {g : Nat} (h : Sl w 5 v (u8s l) g) : (convert 43 9 v).run Try.prog w = .ok (.string (strOfNums l)) w := by
  obtain ⟨c, rfl, _, _⟩ := h.open (n := l.length) (u8s_length l)
  exact run_convert_bytes_arg (P := Try.prog) w 43 5 Try.underlying43 Try.underlying5 g 0 l.length c l rfl (fun i hi => by
    have := h.cell (i := i) (by rw [u8s_length]; exact hi)
    rw [Nat.zero_add, this]
    simp [u8s, List.getD, hi]) 9 Try.underlying9
/-- The same of bytes whose list is another's words. -/
theorem conv_bytes_at (w : World) (g c : Nat) (l : List Int) (h : Sl w 5 (.slice (some ⟨g, 0, none⟩) l.length c) (u8s l) g) : (convert 43 9 (.slice (some ⟨g, 0, none⟩) l.length c)).run Try.prog w = .ok (.string (strOfNums l)) w := conv_bytes h
theorem conv_one (w : World) (x : Int) : (convert 43 9 (.slice (some ⟨w.heap.size, 0, none⟩) 1 1)).run Try.prog (w.alloc (.cells #[.int .u8 x] 5)) = .ok (.string (strOfNums [x])) (w.alloc (.cells #[.int .u8 x] 5)) :=
  conv_bytes (sl_new_bytes w [x] (by simp [maxLen]))
theorem conv_at (x : Int) (W : World) (g : Nat) (h : W.cell? ⟨g, 0, none⟩ = some (.int .u8 x)) : (convert 43 9 (.slice (some ⟨g, 0, none⟩) 1 1)).run Try.prog W = .ok (.string (strOfNums [x])) W :=
  run_convert_bytes_arg (P := Try.prog) W 43 5 Try.underlying43 Try.underlying5 g 0 1 1 [x] rfl (fun i hi => by
    match i, hi with
    | 0, _ => simpa using h) 9 Try.underlying9
/-- One byte more. -/
theorem wpList_append_byte {w : World} {ops : Array Oper} {rest : List Oper} {o : Oper} {a : Act} {Q : Exit → Act → World → Prop} (hgd : o.guard = none) (s x : Operand)
    (ho : o.op = .call { callee := .builtin .append, args := #[s, x], argTypes := #[43, 43] })
    {v : Value} {l : List Int} {g : Nat} (hv : a.eval s = v) (hs : Sl w 5 v (u8s l) g)
    (gx c : Nat) (b : Int) (hx : a.eval x = .slice (some ⟨gx, 0, none⟩) 1 c) (hc : w.cell? ⟨gx, 0, none⟩ = some (.int .u8 b)) (h63 : l.length ≤ 1000000000000)
    (h : ∀ v' w' g', Sl w' 5 v' (u8s (l ++ [b])) g' → (g' = g ∨ g' = w.heap.size) → w.grownBy w' (some g) → wpList Try.prog ops Q rest (a.put o.dst v') w') : wpList Try.prog ops Q (o :: rest) a w := by
  obtain ⟨i0, hi, hz0, hz1, hz2⟩ := info_parts infoU8
  refine wpList_append_sl hgd s x 43 ho 5 i0 (.int .u8 0) 1 Try.underlying43 hi hz0 hz1 hz2 rfl hv hs ⟨gx, 0, none⟩ 1 c [.int .u8 b] hx rfl ?_ ?_ ?_ ?_ ?_
  · intro j u hj
    match j, hj with
    | 0, hj => simp at hj; subst hj; rw [addr0]; exact hc
  · intro u hu; simp at hu; subst hu; rfl
  · rw [u8s_length]; unfold maxLen; omega
  · rw [u8s_length]; omega
  · intro v' w' g' h1 h2 h3
    refine h v' w' g' ?_ h2 h3
    rwa [u8s_append]
theorem u8s_get (l : List Int) (j : Nat) (h : j < (u8s l).length) : (u8s l)[j] = .int .u8 (l[j]'(by rw [u8s_length] at h; exact h)) := by simp [u8s]
/-- Bytes of another slice, behind a slice's own. -/
theorem wpList_append_bytes {w : World} {ops : Array Oper} {rest : List Oper} {o : Oper} {a : Act} {Q : Exit → Act → World → Prop} (hgd : o.guard = none) (s x : Operand)
    (ho : o.op = .call { callee := .builtin .append, args := #[s, x], argTypes := #[43, 43] })
    {v : Value} {l : List Int} {g : Nat} (hv : a.eval s = v) (hs : Sl w 5 v (u8s l) g)
    (gx m c : Nat) (l2 : List Int) (hx : a.eval x = .slice (some ⟨gx, 0, none⟩) m c) (hm : l2.length = m) (hc : ∀ j (h : j < l2.length), w.cell? ⟨gx, j, none⟩ = some (.int .u8 l2[j])) (h63 : l.length + l2.length ≤ 1000000000000)
    (h : ∀ v' w' g', Sl w' 5 v' (u8s (l ++ l2)) g' → (g' = g ∨ g' = w.heap.size) → w.grownBy w' (some g) → wpList Try.prog ops Q rest (a.put o.dst v') w') : wpList Try.prog ops Q (o :: rest) a w := by
  obtain ⟨i0, hi, hz0, hz1, hz2⟩ := info_parts infoU8
  refine wpList_append_sl hgd s x 43 ho 5 i0 (.int .u8 0) 1 Try.underlying43 hi hz0 hz1 hz2 rfl hv hs ⟨gx, 0, none⟩ m c (u8s l2) hx (by rw [u8s_length]; exact hm) ?_ (u8s_one _) ?_ ?_ ?_
  · intro j u hj
    have hj' := (List.getElem?_eq_some_iff.1 hj).1
    rw [u8s_length] at hj'
    rw [addr0, hc j hj']
    simp [u8s, hj'] at hj
    rw [hj]
  · rw [u8s_length]; unfold maxLen; omega
  · rw [u8s_length]; omega
  · intro v' w' g' h1 h2 h3
    refine h v' w' g' ?_ h2 h3
    rwa [u8s_append]
/-- A slice's cells, the place as the walk has it. -/
theorem Sl.cells_u8 {w : World} {v : Value} {l : List Int} {g : Nat} (h : Sl w 5 v (u8s l) g) : ∀ j (hj : j < l.length), w.cell? ⟨g, j, none⟩ = some (.int .u8 l[j]) := by
  intro j hj
  rw [h.cell (i := j) (by rw [u8s_length]; exact hj), u8s_get]
end Go.Proofs.Ytoklcnfpeipalaa
