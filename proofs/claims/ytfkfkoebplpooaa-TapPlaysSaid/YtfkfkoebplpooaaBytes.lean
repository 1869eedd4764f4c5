/- A text's bytes as a list of numbers. They hold of texts alone, under no condition on the program. -/
import Derived.Test.YtfkfkoebplpooaaNum
namespace Go.Proofs.Ytfkfkoebplpooaa
open Go.PlainAid
set_option linter.unusedVariables false
/-- A text's bytes. -/
def bl (s : ByteArray) : List Int := s.data.toList.map fun u => (u.toNat : Int)
def IsB (l : List Int) : Prop := ∀ x ∈ l, 0 ≤ x ∧ x ≤ 255
theorem bl_length (s : ByteArray) : (bl s).length = s.size := by rw [bl, List.length_map]; rfl
theorem bl_at (s : ByteArray) (i : Nat) (h : i < s.size) : (bl s)[i]? = some (bt s i) := by
  have h2 : i < s.data.toList.length := h
  unfold bl bt
  rw [List.getElem?_map, List.getElem?_eq_getElem h2, dif_pos h]
  rfl
theorem bl_get (s : ByteArray) (i : Nat) (h : i < (bl s).length) : (bl s)[i] = bt s i := by
  have := bl_at s i (by rw [bl_length] at h; exact h)
  rw [List.getElem?_eq_getElem h] at this
  exact Option.some.inj this
theorem bl_isB (s : ByteArray) : IsB (bl s) := by
  intro x hx
  obtain ⟨u, _, rfl⟩ := List.mem_map.1 hx
  have := u.toNat_lt
  omega
theorem bl_drop (s : ByteArray) (i : Nat) (h : i < s.size) : (bl s).drop i = bt s i :: (bl s).drop (i + 1) := by
  have hl : i < (bl s).length := by rw [bl_length]; exact h
  rw [List.drop_eq_getElem_cons hl, bl_get]
theorem bl_drop_end (s : ByteArray) (i : Nat) (h : s.size ≤ i) : (bl s).drop i = [] := List.drop_eq_nil_of_le (by rw [bl_length]; exact h)
theorem bl_inj {s t : ByteArray} (h : bl s = bl t) : s = t := by
  have hs : s.size = t.size := by rw [← bl_length, ← bl_length, h]
  apply bt_ext hs
  intro k hk
  have h1 := bl_at s k hk
  have h2 := bl_at t k (by omega)
  rw [h, h2] at h1
  exact (Option.some.inj h1).symm
theorem bl_append (s t : ByteArray) : bl (s ++ t) = bl s ++ bl t := by simp [bl, ByteArray.data_append]
theorem bl_extract (s : ByteArray) (a b : Nat) (hb : b ≤ s.size) : bl (s.extract a b) = ((bl s).drop a).take (b - a) := by
  apply List.ext_getElem?
  intro i
  by_cases hi : i < b - a
  · rw [bl_at _ _ (by rw [ByteArray.size_extract]; omega), bt_extract hb hi, List.getElem?_take_of_lt hi, List.getElem?_drop, bl_at _ _ (by omega)]
  · rw [List.getElem?_eq_none (by rw [bl_length, ByteArray.size_extract]; omega), List.getElem?_eq_none (by simp; omega)]
theorem bl_str {l : List Int} (h : IsB l) : bl (strOfNums l) = l := by
  apply List.ext_getElem?
  intro i
  by_cases hi : i < l.length
  · have hm := h l[i] (List.getElem_mem hi)
    rw [bl_at _ _ (by rw [strOfNums_size]; exact hi), strOfNums_at l i l[i] (List.getElem?_eq_getElem hi) hm.1 hm.2, List.getElem?_eq_getElem hi]
  · rw [List.getElem?_eq_none (by rw [bl_length, strOfNums_size]; omega), List.getElem?_eq_none (by omega)]
theorem str_bl (s : ByteArray) : strOfNums (bl s) = s := bl_inj (bl_str (bl_isB s))
theorem str_inj {l m : List Int} (hl : IsB l) (hm : IsB m) (h : strOfNums l = strOfNums m) : l = m := by rw [← bl_str hl, ← bl_str hm, h]
theorem IsB.append {l m : List Int} (h : IsB l) (k : IsB m) : IsB (l ++ m) := by
  intro x hx
  rcases List.mem_append.1 hx with h1 | h1
  · exact h x h1
  · exact k x h1
theorem IsB.cons {x : Int} {l : List Int} (h0 : 0 ≤ x) (h1 : x ≤ 255) (h : IsB l) : IsB (x :: l) := by
  intro y hy
  rcases List.mem_cons.1 hy with rfl | hy
  · exact ⟨h0, h1⟩
  · exact h y hy
theorem IsB.nil : IsB [] := by intro x hx; cases hx
theorem IsB.head {x : Int} {l : List Int} (h : IsB (x :: l)) : 0 ≤ x ∧ x ≤ 255 := h x (List.mem_cons_self ..)
theorem IsB.tail {x : Int} {l : List Int} (h : IsB (x :: l)) : IsB l := fun y hy => h y (List.mem_cons_of_mem _ hy)
theorem IsB.drop {l : List Int} (h : IsB l) (n : Nat) : IsB (l.drop n) := fun y hy => h y (List.mem_of_mem_drop hy)
theorem IsB.take {l : List Int} (h : IsB l) (n : Nat) : IsB (l.take n) := fun y hy => h y (List.mem_of_mem_take hy)

/-! ### An or of disjoint parts, in a byte and in an int -/
theorem ofInt_toNat8 {a : Int} (h0 : 0 ≤ a) (h1 : a ≤ 255) : (BitVec.ofInt 8 a).toNat = a.toNat := by
  obtain ⟨n, rfl⟩ := Int.eq_ofNat_of_zero_le h0
  rw [BitVec.ofInt_natCast, BitVec.toNat_ofNat]
  simp; omega
theorem bits_or8 (a b : Int) : bits .or .u8 a b = ((BitVec.ofInt 8 a ||| BitVec.ofInt 8 b).toNat : Int) := by
  show IntKind.u8.wrap ((BitVec.ofInt 8 a ||| BitVec.ofInt 8 b).toNat : Int) = _
  rw [IntKind.wrap_u8]
  have := (BitVec.ofInt 8 a ||| BitVec.ofInt 8 b).isLt
  omega
theorem or8_add (a b : Int) (i : Nat) (ha : 0 ≤ a) (hb : 0 ≤ b) (hb' : b < 2 ^ i) (h : a * 2 ^ i + b ≤ 255) : bits .or .u8 (a * 2 ^ i) b = a * 2 ^ i + b := by
  obtain ⟨x, rfl⟩ := Int.eq_ofNat_of_zero_le ha
  obtain ⟨y, rfl⟩ := Int.eq_ofNat_of_zero_le hb
  have e : ((x : Int) * 2 ^ i) = ((x * 2 ^ i : Nat) : Int) := by simp
  have hy : y < 2 ^ i := by have : ((y : Int)) < ((2 ^ i : Nat) : Int) := by simpa using hb'
                            omega
  rw [e] at h ⊢
  rw [bits_or8, BitVec.toNat_or, ofInt_toNat8 (by omega) (by omega), ofInt_toNat8 (by omega) (by omega)]
  simp only [Int.toNat_natCast]
  rw [nat_or_add _ _ _ hy]
  simp
theorem bits_ori (a b : Int) : bits .or .i64 a b = IntKind.i64.wrap ((BitVec.ofInt 64 a ||| BitVec.ofInt 64 b).toNat : Int) := rfl
theorem ori_add (a b : Int) (i : Nat) (ha : 0 ≤ a) (hb : 0 ≤ b) (hb' : b < 2 ^ i) (h : a * 2 ^ i + b ≤ 9223372036854775807) : bits .or .i64 (a * 2 ^ i) b = a * 2 ^ i + b := by
  obtain ⟨x, rfl⟩ := Int.eq_ofNat_of_zero_le ha
  obtain ⟨y, rfl⟩ := Int.eq_ofNat_of_zero_le hb
  have e : ((x : Int) * 2 ^ i) = ((x * 2 ^ i : Nat) : Int) := by simp
  have hy : y < 2 ^ i := by have : ((y : Int)) < ((2 ^ i : Nat) : Int) := by simpa using hb'
                            omega
  rw [e] at h ⊢
  rw [bits_ori, BitVec.toNat_or, ofInt_toNat64 (by omega) (by omega), ofInt_toNat64 (by omega) (by omega)]
  simp only [Int.toNat_natCast]
  rw [nat_or_add _ _ _ hy, IntKind.wrap_i64]
  omega
theorem or8_128 (b : Int) (h0 : 0 ≤ b) (h1 : b < 128) : bits .or .u8 128 b = 128 + b := or8_add 1 b 7 (by decide) h0 h1 (by omega)
theorem ori_7 (a b : Int) (ha : 0 ≤ a) (h0 : 0 ≤ b) (h1 : b < 128) (h : a * 128 + b ≤ 9223372036854775807) : bits .or .i64 (a * 128) b = a * 128 + b := ori_add a b 7 ha h0 h1 h
/-! ### The lower bits, and a bit -/
theorem bits_and8 (a b : Int) : bits .and .u8 a b = ((BitVec.ofInt 8 a &&& BitVec.ofInt 8 b).toNat : Int) := by
  show IntKind.u8.wrap ((BitVec.ofInt 8 a &&& BitVec.ofInt 8 b).toNat : Int) = _
  rw [IntKind.wrap_u8]
  have := (BitVec.ofInt 8 a &&& BitVec.ofInt 8 b).isLt
  omega
theorem bits_andi (a b : Int) : bits .and .i64 a b = IntKind.i64.wrap ((BitVec.ofInt 64 a &&& BitVec.ofInt 64 b).toNat : Int) := rfl
theorem and8_low (a : Int) (i : Nat) (h0 : 0 ≤ a) (h1 : a ≤ 255) (hi : i ≤ 8) : bits .and .u8 a (2 ^ i - 1) = a % 2 ^ i := by
  obtain ⟨x, rfl⟩ := Int.eq_ofNat_of_zero_le h0
  have hp : 2 ^ i ≤ 2 ^ 8 := Nat.pow_le_pow_right (by decide) hi
  have hq : 0 < 2 ^ i := Nat.pow_pos (by decide)
  have e : ((2 : Int) ^ i - 1) = ((2 ^ i - 1 : Nat) : Int) := by rw [Int.ofNat_sub hq]; simp
  rw [e, bits_and8, BitVec.toNat_and, ofInt_toNat8 (by omega) (by omega), ofInt_toNat8 (by omega) (by omega), Int.toNat_natCast, Int.toNat_natCast, Nat.and_two_pow_sub_one_eq_mod]
  simp
theorem andi_low (a : Int) (i : Nat) (h0 : 0 ≤ a) (h1 : a ≤ 9223372036854775807) (hi : i ≤ 62) : bits .and .i64 a (2 ^ i - 1) = a % 2 ^ i := by
  obtain ⟨x, rfl⟩ := Int.eq_ofNat_of_zero_le h0
  have hp : 2 ^ i ≤ 2 ^ 62 := Nat.pow_le_pow_right (by decide) hi
  have hq : 0 < 2 ^ i := Nat.pow_pos (by decide)
  have e : ((2 : Int) ^ i - 1) = ((2 ^ i - 1 : Nat) : Int) := by rw [Int.ofNat_sub hq]; simp
  have hm : x % 2 ^ i ≤ x := Nat.mod_le _ _
  rw [e, bits_andi, BitVec.toNat_and, ofInt_toNat64 (by omega) (by omega), ofInt_toNat64 (by omega) (by omega), Int.toNat_natCast, Int.toNat_natCast, Nat.and_two_pow_sub_one_eq_mod, IntKind.wrap_i64]
  rw [show ((x : Int) % 2 ^ i) = ((x % 2 ^ i : Nat) : Int) by simp]
  omega
theorem and8_31 (a : Int) (h0 : 0 ≤ a) (h1 : a ≤ 255) : bits .and .u8 a 31 = a % 32 := and8_low a 5 h0 h1 (by decide)
theorem and8_127 (a : Int) (h0 : 0 ≤ a) (h1 : a ≤ 255) : bits .and .u8 a 127 = a % 128 := and8_low a 7 h0 h1 (by decide)
theorem and8_32all : ∀ x : Fin 256, bits .and .u8 (x.val : Int) 32 = (x.val : Int) / 32 % 2 * 32 := by decide +kernel
theorem and8_32 (a : Int) (h0 : 0 ≤ a) (h1 : a ≤ 255) : bits .and .u8 a 32 = a / 32 % 2 * 32 := by
  have := and8_32all ⟨a.toNat, by omega⟩
  simp only [Int.toNat_of_nonneg h0] at this
  exact this
theorem andi_127 (a : Int) (h0 : 0 ≤ a) (h1 : a ≤ 9223372036854775807) : bits .and .i64 a 127 = a % 128 := andi_low a 7 h0 h1 (by decide)
end Go.Proofs.Ytfkfkoebplpooaa
