/- Plain facts on words: bitwise operations, rotations, big-endian bytes. They hold of numbers alone, under no condition on the program. -/
import Derived.WalkKit
import Derived.PlainAid
import Derived.Laws.BytesArg
namespace Go.Proofs.Ytfkfkoebplpooaa
open Go.PlainAid
theorem ofInt_toNat32 {a : Int} (h0 : 0 ≤ a) (h1 : a ≤ 4294967295) : (BitVec.ofInt 32 a).toNat = a.toNat := by
  obtain ⟨n, rfl⟩ := Int.eq_ofNat_of_zero_le h0
  rw [BitVec.ofInt_natCast, BitVec.toNat_ofNat]
  simp; omega
theorem ofInt_toNat64 {a : Int} (h0 : 0 ≤ a) (h1 : a ≤ 18446744073709551615) : (BitVec.ofInt 64 a).toNat = a.toNat := by
  obtain ⟨n, rfl⟩ := Int.eq_ofNat_of_zero_le h0
  rw [BitVec.ofInt_natCast, BitVec.toNat_ofNat]
  simp; omega
theorem bits_or32 (a b : Int) : bits .or .u32 a b = ((BitVec.ofInt 32 a ||| BitVec.ofInt 32 b).toNat : Int) := by
  show IntKind.u32.wrap ((BitVec.ofInt 32 a ||| BitVec.ofInt 32 b).toNat : Int) = _
  rw [IntKind.wrap_u32]
  have := (BitVec.ofInt 32 a ||| BitVec.ofInt 32 b).isLt
  omega
theorem bits_and32 (a b : Int) : bits .and .u32 a b = ((BitVec.ofInt 32 a &&& BitVec.ofInt 32 b).toNat : Int) := by
  show IntKind.u32.wrap ((BitVec.ofInt 32 a &&& BitVec.ofInt 32 b).toNat : Int) = _
  rw [IntKind.wrap_u32]
  have := (BitVec.ofInt 32 a &&& BitVec.ofInt 32 b).isLt
  omega
theorem bits_xor32 (a b : Int) : bits .xor .u32 a b = ((BitVec.ofInt 32 a ^^^ BitVec.ofInt 32 b).toNat : Int) := by
  show IntKind.u32.wrap ((BitVec.ofInt 32 a ^^^ BitVec.ofInt 32 b).toNat : Int) = _
  rw [IntKind.wrap_u32]
  have := (BitVec.ofInt 32 a ^^^ BitVec.ofInt 32 b).isLt
  omega
theorem bits_or64 (a b : Int) : bits .or .u64 a b = ((BitVec.ofInt 64 a ||| BitVec.ofInt 64 b).toNat : Int) := by
  show IntKind.u64.wrap ((BitVec.ofInt 64 a ||| BitVec.ofInt 64 b).toNat : Int) = _
  rw [IntKind.wrap_u64]
  have := (BitVec.ofInt 64 a ||| BitVec.ofInt 64 b).isLt
  omega
/-- An or of disjoint parts is a sum. -/
theorem nat_or_add (a b i : Nat) (h : b < 2 ^ i) : a * 2 ^ i ||| b = a * 2 ^ i + b := by
  rw [← Nat.shiftLeft_eq, Nat.shiftLeft_add_eq_or_of_lt h]
theorem or32_add (a b : Int) (i : Nat) (ha : 0 ≤ a) (hb : 0 ≤ b) (hb' : b < 2 ^ i) (h : a * 2 ^ i + b ≤ 4294967295) : bits .or .u32 (a * 2 ^ i) b = a * 2 ^ i + b := by
  obtain ⟨x, rfl⟩ := Int.eq_ofNat_of_zero_le ha
  obtain ⟨y, rfl⟩ := Int.eq_ofNat_of_zero_le hb
  have e : ((x : Int) * 2 ^ i) = ((x * 2 ^ i : Nat) : Int) := by simp
  have hy : y < 2 ^ i := by have : ((y : Int)) < ((2 ^ i : Nat) : Int) := by simpa using hb'
                            omega
  rw [e] at h ⊢
  rw [bits_or32, BitVec.toNat_or, ofInt_toNat32 (by omega) (by omega), ofInt_toNat32 (by omega) (by omega)]
  simp only [Int.toNat_natCast]
  rw [nat_or_add _ _ _ hy]
  simp
theorem or64_add (a b : Int) (i : Nat) (ha : 0 ≤ a) (hb : 0 ≤ b) (hb' : b < 2 ^ i) (h : a * 2 ^ i + b ≤ 18446744073709551615) : bits .or .u64 (a * 2 ^ i) b = a * 2 ^ i + b := by
  obtain ⟨x, rfl⟩ := Int.eq_ofNat_of_zero_le ha
  obtain ⟨y, rfl⟩ := Int.eq_ofNat_of_zero_le hb
  have e : ((x : Int) * 2 ^ i) = ((x * 2 ^ i : Nat) : Int) := by simp
  have hy : y < 2 ^ i := by have : ((y : Int)) < ((2 ^ i : Nat) : Int) := by simpa using hb'
                            omega
  rw [e] at h ⊢
  rw [bits_or64, BitVec.toNat_or, ofInt_toNat64 (by omega) (by omega), ofInt_toNat64 (by omega) (by omega)]
  simp only [Int.toNat_natCast]
  rw [nat_or_add _ _ _ hy]
  simp

/-! ### Rotations -/
/-- A word, its bits turned to the right by n places. -/
def turnI (x n : Int) : Int := (((BitVec.ofInt 32 x).rotateRight (n % 32).toNat).toNat : Int)
theorem turnI_bd (x n : Int) : 0 ≤ turnI x n ∧ turnI x n ≤ 4294967295 := by
  unfold turnI
  have := ((BitVec.ofInt 32 x).rotateRight (n % 32).toNat).isLt
  omega
theorem rot_lsb (x : BitVec 32) (r i : Nat) (hi : i < 32) : (x.rotateRight r).getLsbD i = x.getLsbD ((i + r) % 32) := by
  rw [BitVec.getLsbD_rotateRight]
  by_cases h : i < 32 - r % 32
  · rw [show (i + r) % 32 = r % 32 + i from by omega]
    simp [h]
  · rw [show (i + r) % 32 = i - (32 - r % 32) from by omega]
    simp [h, hi]
theorem rot_rot (x : BitVec 32) (a b : Nat) : (x.rotateRight a).rotateRight b = x.rotateRight (a + b) := by
  apply BitVec.eq_of_getLsbD_eq
  intro i hi
  rw [rot_lsb _ _ _ hi, rot_lsb _ _ _ (by omega), rot_lsb _ _ _ hi]
  congr 1
  omega
theorem rot_mod (x : BitVec 32) (a b : Nat) (h : a % 32 = b % 32) : x.rotateRight a = x.rotateRight b := by
  apply BitVec.eq_of_getLsbD_eq
  intro i hi
  rw [rot_lsb _ _ _ hi, rot_lsb _ _ _ hi]
  congr 1
  omega
theorem rot_zero (x : BitVec 32) (a : Nat) (h : a % 32 = 0) : x.rotateRight a = x := by
  apply BitVec.eq_of_getLsbD_eq
  intro i hi
  rw [rot_lsb _ _ _ hi]
  congr 1
  omega
theorem rot_xor (x y : BitVec 32) (a : Nat) : (x ^^^ y).rotateRight a = x.rotateRight a ^^^ y.rotateRight a := by
  apply BitVec.eq_of_getLsbD_eq
  intro i hi
  rw [rot_lsb _ _ _ hi, BitVec.getLsbD_xor, BitVec.getLsbD_xor, rot_lsb _ _ _ hi, rot_lsb _ _ _ hi]
theorem rot_and (x y : BitVec 32) (a : Nat) : (x &&& y).rotateRight a = x.rotateRight a &&& y.rotateRight a := by
  apply BitVec.eq_of_getLsbD_eq
  intro i hi
  rw [rot_lsb _ _ _ hi, BitVec.getLsbD_and, BitVec.getLsbD_and, rot_lsb _ _ _ hi, rot_lsb _ _ _ hi]
theorem ofInt_toNat (x : BitVec 32) : BitVec.ofInt 32 (x.toNat : Int) = x := by
  rw [BitVec.ofInt_natCast]; simp
theorem ofInt_turnI (x n : Int) : BitVec.ofInt 32 (turnI x n) = (BitVec.ofInt 32 x).rotateRight (n % 32).toNat := by
  unfold turnI; rw [ofInt_toNat]
/-- How the program turns: two shifts and an or. -/
theorem turn_eq (x n m : Int) (h0 : 0 ≤ x) (h1 : x ≤ 4294967295) (hm : n % 32 = m) :
    bits .or .u32 (x / 2 ^ m.toNat) (x * 2 ^ (32 - m).toNat % 4294967296) = turnI x n := by
  subst hm
  unfold turnI
  generalize hk : (n % 32).toNat = k
  have hk' : k < 32 := by omega
  rw [show (32 - n % 32).toNat = 32 - k from by omega]
  obtain ⟨a, rfl⟩ := Int.eq_ofNat_of_zero_le h0
  have e1 : ((a : Int) / 2 ^ k) = ((a / 2 ^ k : Nat) : Int) := by simp
  have e2 : ((a : Int) * 2 ^ (32 - k) % 4294967296) = ((a * 2 ^ (32 - k) % 4294967296 : Nat) : Int) := by simp
  have b1 : a / 2 ^ k ≤ a := Nat.div_le_self _ _
  have b2 : a * 2 ^ (32 - k) % 4294967296 < 4294967296 := Nat.mod_lt _ (by decide)
  rw [BitVec.rotateRight_def, BitVec.toNat_or, BitVec.toNat_ushiftRight, BitVec.toNat_shiftLeft, ofInt_toNat32 (by omega) (by omega)]
  simp only [Int.toNat_natCast, Nat.shiftRight_eq_div_pow, Nat.shiftLeft_eq, Nat.mod_eq_of_lt hk', Nat.reducePow]
  rw [e1, e2]
  generalize a / 2 ^ k = p at *
  generalize a * 2 ^ (32 - k) % 4294967296 = q at *
  rw [bits_or32, BitVec.toNat_or, ofInt_toNat32 (by omega) (by omega), ofInt_toNat32 (by omega) (by omega)]
  simp only [Int.toNat_natCast]
theorem turn_one (x : Int) (h0 : 0 ≤ x) (h1 : x ≤ 4294967295) : turnI x 1 = x / 2 + x % 2 * 2147483648 := by
  rw [← turn_eq x 1 1 h0 h1 (by decide)]
  obtain ⟨a, rfl⟩ := Int.eq_ofNat_of_zero_le h0
  have e : ((a : Int) * 2 ^ (32 - (1 : Int)).toNat % 4294967296) = ((a % 2 * 2 ^ 31 : Nat) : Int) := by
    rw [show (32 - (1 : Int)).toNat = 31 from by decide]
    simp only [Nat.reducePow]
    omega
  have e1 : ((a : Int) / 2 ^ (1 : Int).toNat) = ((a / 2 : Nat) : Int) := by simp
  rw [e, e1, bits_or32, BitVec.toNat_or, ofInt_toNat32 (by omega) (by omega), ofInt_toNat32 (by omega) (by omega)]
  simp only [Int.toNat_natCast]
  rw [Nat.or_comm, nat_or_add _ _ 31 (by omega)]
  omega
theorem turnI_zero (x : Int) (h0 : 0 ≤ x) (h1 : x ≤ 4294967295) : turnI x 0 = x := by
  unfold turnI
  rw [show ((0 : Int) % 32).toNat = 0 from by decide, rot_zero _ _ (by decide), ofInt_toNat32 h0 h1]
  omega
theorem turnI_turnI (x a b : Int) : turnI (turnI x a) b = turnI x (a + b) := by
  rw [turnI, ofInt_turnI, rot_rot, turnI]
  rw [rot_mod _ _ ((a + b) % 32).toNat (by omega)]
theorem turnI_mod (x a b : Int) (h : a % 32 = b % 32) : turnI x a = turnI x b := by
  unfold turnI; rw [h]
theorem turnI_xor (x y n : Int) : bits .xor .u32 (turnI x n) (turnI y n) = turnI (bits .xor .u32 x y) n := by
  rw [bits_xor32, ofInt_turnI, ofInt_turnI, ← rot_xor, turnI, bits_xor32, ofInt_toNat]
theorem turnI_and (x y n : Int) : bits .and .u32 (turnI x n) (turnI y n) = turnI (bits .and .u32 x y) n := by
  rw [bits_and32, ofInt_turnI, ofInt_turnI, ← rot_and, turnI, bits_and32, ofInt_toNat]
theorem turn_step (x i : Int) : turnI x i / 2 + turnI x i % 2 * 2147483648 = turnI x (i + 1) := by
  rw [← turnI_turnI, turn_one _ (turnI_bd _ _).1 (turnI_bd _ _).2]
theorem wrap_tmod32 (n : Int) : (IntKind.u64.wrap n).tmod 32 = n % 32 := by
  rw [IntKind.wrap_u64, Int.tmod_eq_emod_of_nonneg (Int.emod_nonneg _ (by decide))]; omega

/-! ### Bytes of a number, the highest first -/
/-- So many bytes of a number, the highest first, as numbers. -/
def putL (x : Nat) : Nat → List Int
  | 0 => []
  | n + 1 => putL (x / 256) n ++ [((x % 256 : Nat) : Int)]
def putB (x n : Nat) : ByteArray := strOfNums (putL x n)
theorem putL_length (x n : Nat) : (putL x n).length = n := by
  induction n generalizing x with
  | zero => rfl
  | succ n ih => simp [putL, ih]
theorem putB_size (x n : Nat) : (putB x n).size = n := by rw [putB, strOfNums_size, putL_length]
/-- The other way round: the lowest byte is put ahead of what is put already. -/
theorem putL_bd (x n : Nat) : ∀ b ∈ putL x n, 0 ≤ b ∧ b ≤ 255 := by
  induction n generalizing x with
  | zero => intro b hb; simp [putL] at hb
  | succ n ih =>
    intro b hb
    rw [putL, List.mem_append] at hb
    rcases hb with hb | hb
    · exact ih _ b hb
    · simp at hb; omega
theorem putL_cons (x k : Nat) : putL x (k + 1) = ((x / 256 ^ k % 256 : Nat) : Int) :: putL x k := by
  induction k generalizing x with
  | zero => simp [putL]
  | succ k ih =>
    rw [putL, ih (x / 256), putL, Nat.div_div_eq_div_mul, show 256 * 256 ^ k = 256 ^ (k + 1) from by rw [Nat.pow_succ, Nat.mul_comm]]
    rfl
theorem put4_eq (x : Int) (h0 : 0 ≤ x) (h1 : x ≤ 4294967295) : strOfNums [x / 16777216, x / 65536 % 256, x / 256 % 256, x % 256] = putB x.toNat 4 := by
  obtain ⟨n, rfl⟩ := Int.eq_ofNat_of_zero_le h0
  unfold putB
  congr 1
  simp [putL, Nat.div_div_eq_div_mul]
  omega
theorem strOfNums_append (a b : List Int) : strOfNums (a ++ b) = strOfNums a ++ strOfNums b := by
  apply ByteArray.ext
  simp [strOfNums, ByteArray.data_append]
theorem putL_add (x m n : Nat) : putL x (m + n) = putL (x / 256 ^ n) m ++ putL x n := by
  induction n generalizing x with
  | zero => simp [putL]
  | succ n ih =>
    rw [show m + (n + 1) = (m + n) + 1 from rfl, putL, ih, putL, List.append_assoc, Nat.div_div_eq_div_mul, Nat.pow_succ, Nat.mul_comm]
theorem putL_mod (x n : Nat) : putL (x % 256 ^ n) n = putL x n := by
  induction n generalizing x with
  | zero => rfl
  | succ n ih =>
    rw [putL, putL, ← ih (x / 256)]
    congr 2
    · rw [Nat.pow_succ, Nat.mul_comm, Nat.mod_mul_right_div_self]
    · rw [Nat.pow_succ, Nat.mul_comm, Nat.mod_mul_right_mod]
theorem put8_eq (x : Nat) : putB (x / 4294967296) 4 ++ putB (x % 4294967296) 4 = putB x 8 := by
  unfold putB
  rw [← strOfNums_append]
  have h1 := putL_add x 4 4
  have h2 := putL_mod x 4
  simp only [Nat.reducePow, Nat.reduceAdd] at h1 h2
  rw [h1, h2]
/-- What four bytes tell. -/
def getI (s : ByteArray) (k : Nat) : Int := bt s k * 16777216 + bt s (k + 1) * 65536 + bt s (k + 2) * 256 + bt s (k + 3)
theorem getI_bd (s : ByteArray) (k : Nat) : 0 ≤ getI s k ∧ getI s k ≤ 4294967295 := by
  unfold getI
  have := bt_nonneg s k; have := bt_le s k; have := bt_nonneg s (k + 1); have := bt_le s (k + 1)
  have := bt_nonneg s (k + 2); have := bt_le s (k + 2); have := bt_nonneg s (k + 3); have := bt_le s (k + 3)
  omega
theorem get_eq (a b c d : Int) (ha : 0 ≤ a ∧ a ≤ 255) (hb : 0 ≤ b ∧ b ≤ 255) (hc : 0 ≤ c ∧ c ≤ 255) (hd : 0 ≤ d ∧ d ≤ 255) :
    bits .or .u32 (bits .or .u32 (bits .or .u32 (a * 16777216) (b * 65536)) (c * 256)) d = a * 16777216 + b * 65536 + c * 256 + d := by
  have e1 := or32_add a (b * 65536) 24 (by omega) (by omega) (by omega) (by omega)
  have e2 := or32_add (a * 256 + b) (c * 256) 16 (by omega) (by omega) (by omega) (by omega)
  have e3 := or32_add (a * 65536 + b * 256 + c) d 8 (by omega) (by omega) (by omega) (by omega)
  simp only [Int.reducePow] at e1 e2 e3
  rw [e1, show a * 16777216 + b * 65536 = (a * 256 + b) * 65536 from by omega, e2, show (a * 256 + b) * 65536 + c * 256 = (a * 65536 + b * 256 + c) * 256 from by omega, e3]

theorem get_eq2 (a b c d : Int) (ha : 0 ≤ a ∧ a ≤ 255) (hb : 0 ≤ b ∧ b ≤ 255) (hc : 0 ≤ c ∧ c ≤ 255) (hd : 0 ≤ d ∧ d ≤ 255) :
    bits .or .u32 (bits .or .u32 (bits .or .u32 (a % 4294967296 * 16777216 % 4294967296) (b % 4294967296 * 65536 % 4294967296)) (c % 4294967296 * 256 % 4294967296)) (d % 4294967296) = a * 16777216 + b * 65536 + c * 256 + d := by
  rw [show a % 4294967296 * 16777216 % 4294967296 = a * 16777216 from by omega, show b % 4294967296 * 65536 % 4294967296 = b * 65536 from by omega, show c % 4294967296 * 256 % 4294967296 = c * 256 from by omega, show d % 4294967296 = d from by omega]
  exact get_eq a b c d ha hb hc hd
theorem putL4 (n : Nat) : putL n 4 = [((n / 16777216 % 256 : Nat) : Int), ((n / 65536 % 256 : Nat) : Int), ((n / 256 % 256 : Nat) : Int), ((n % 256 : Nat) : Int)] := by
  simp [putL, Nat.div_div_eq_div_mul]
theorem strOfNums_at (l : List Int) (k : Nat) (b : Int) (h : l[k]? = some b) (h0 : 0 ≤ b) (h1 : b ≤ 255) : bt (strOfNums l) k = b := by
  have hk := (List.getElem?_eq_some_iff.1 h).1
  have hv := (List.getElem?_eq_some_iff.1 h).2
  have hs : k < (strOfNums l).size := by rw [strOfNums_size]; exact hk
  rw [← get_bt _ _ hs]
  have : (strOfNums l)[k] = UInt8.ofNat b.toNat := by
    show (strOfNums l).data[k] = _
    simp [strOfNums, hv]
  rw [this]
  simp; omega
/-- Two texts of one length, byte by byte the same, are one. -/
theorem bt_ext {s t : ByteArray} (hs : s.size = t.size) (h : ∀ k, k < s.size → bt s k = bt t k) : s = t := by
  apply ByteArray.ext
  apply Array.ext
  · exact hs
  · intro i h1 h2
    have := h i h1
    rw [← get_bt s i h1, ← get_bt t i h2] at this
    have h3 : (s[i]).toNat = (t[i]).toNat := by omega
    exact UInt8.toNat_inj.1 h3
theorem bt_append_left {s t : ByteArray} {k : Nat} (h : k < s.size) : bt (s ++ t) k = bt s k := by
  rw [← get_bt _ _ (by rw [ByteArray.size_append]; omega), ← get_bt _ _ h]
  congr 2
  exact ByteArray.getElem_append_left h
theorem bt_append_right {s t : ByteArray} {k : Nat} (h : s.size ≤ k) : bt (s ++ t) k = bt t (k - s.size) := by
  by_cases hk : k < (s ++ t).size
  · have h2 : k - s.size < t.size := by rw [ByteArray.size_append] at hk; omega
    rw [← get_bt _ _ hk, ← get_bt _ _ h2]
    congr 2
    exact ByteArray.getElem_append_right h
  · rw [bt_end _ (by omega), bt_end _ (by rw [ByteArray.size_append] at hk; omega)]
theorem bt_extract {s : ByteArray} {a b k : Nat} (hb : b ≤ s.size) (h : k < b - a) : bt (s.extract a b) k = bt s (a + k) := by
  have h1 : k < (s.extract a b).size := by rw [ByteArray.size_extract]; omega
  rw [← get_bt _ _ h1, ← get_bt _ _ (show a + k < s.size by omega), show (s.extract a b)[k]'h1 = s[a + k]'(by omega) from ByteArray.getElem_extract h1]
/-- What is put is got. -/
theorem get_put (s : ByteArray) (k : Nat) (n : Nat) (hn : n < 4294967296) (h : ∀ j, j < 4 → bt s (k + j) = bt (putB n 4) j) : getI s k = (n : Int) := by
  have h0 := h 0 (by decide)
  have h1 := h 1 (by decide)
  have h2 := h 2 (by decide)
  have h3 := h 3 (by decide)
  unfold putB at *
  rw [putL4] at *
  rw [strOfNums_at _ 0 _ rfl (by omega) (by omega)] at h0
  rw [strOfNums_at _ 1 _ rfl (by omega) (by omega)] at h1
  rw [strOfNums_at _ 2 _ rfl (by omega) (by omega)] at h2
  rw [strOfNums_at _ 3 _ rfl (by omega) (by omega)] at h3
  unfold getI
  simp only [Nat.add_zero] at h0
  omega
/-- What is got is put. -/
theorem put_get (s : ByteArray) (k : Nat) (h : k + 4 ≤ s.size) : putB (getI s k).toNat 4 = s.extract k (k + 4) := by
  apply bt_ext
  · rw [putB_size, ByteArray.size_extract]; omega
  · intro j hj
    rw [putB_size] at hj
    rw [bt_extract h (by omega)]
    unfold putB getI
    rw [putL4]
    have := bt_nonneg s k; have := bt_le s k; have := bt_nonneg s (k + 1); have := bt_le s (k + 1)
    have := bt_nonneg s (k + 2); have := bt_le s (k + 2); have := bt_nonneg s (k + 3); have := bt_le s (k + 3)
    match j, hj with
    | 0, _ => rw [strOfNums_at _ 0 _ rfl (by omega) (by omega)]; show _ = bt s k; omega
    | 1, _ => rw [strOfNums_at _ 1 _ rfl (by omega) (by omega)]; omega
    | 2, _ => rw [strOfNums_at _ 2 _ rfl (by omega) (by omega)]; omega
    | 3, _ => rw [strOfNums_at _ 3 _ rfl (by omega) (by omega)]; omega
end Go.Proofs.Ytfkfkoebplpooaa
