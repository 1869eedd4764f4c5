/- Plain facts on words: bitwise operations, rotations, big-endian bytes. They hold of numbers alone, under no condition on the program. -/
import Derived.WalkKit
import Derived.PlainAid
import Derived.Laws.BytesArg
import Derived.Below
import Derived.Lib.Hide
import Derived.Deep.QuietTactic
import Derived.Test.YtiiimhamfibdbaaGreatChecked
import Derived.WalkSpells
import Derived.Laws.AppendOwn
import Derived.Laws.OwnMore
import Derived.Deep.MidRow
import Derived.Lib.SlBuf
import Derived.Deep.Strs
import Derived.Deep.SlicePairs
import Derived.ChangeSlices
import Derived.StillTail
import Derived.StillTailTactics
namespace Go.Proofs.YtiiimhamfibdbaaGreat
open Go.PlainAid
theorem ofInt_toNat32 {a : Int} (h0 : 0 ≤ a) (h1 : a ≤ 4294967295) : (BitVec.ofInt 32 a).toNat = a.toNat := by
 obtain ⟨n, rfl⟩ := Int.eq_ofNat_of_zero_le h0
 rw [BitVec.ofInt_natCast, BitVec.toNat_ofNat]
 simp; omega
theorem ofInt_toNat64 {a : Int} (h0 : 0 ≤ a) (h1 : a ≤ 18446744073709551615) : (BitVec.ofInt 64 a).toNat = a.toNat := by
 obtain ⟨n, rfl⟩ := Int.eq_ofNat_of_zero_le h0
 rw [BitVec.ofInt_natCast, BitVec.toNat_ofNat]
 simp; omega
theorem bits_or32 (a b : Int) : bits .or .u32 a b = ((BitVec.ofInt 32 a ||| BitVec.ofInt 32 b).toNat : Int) := by
 show IntKind.u32.wrap ((BitVec.ofInt 32 a ||| BitVec.ofInt 32 b).toNat : Int) = _
 rw [IntKind.wrap_u32]
 have := (BitVec.ofInt 32 a ||| BitVec.ofInt 32 b).isLt
 omega
theorem bits_or64 (a b : Int) : bits .or .u64 a b = ((BitVec.ofInt 64 a ||| BitVec.ofInt 64 b).toNat : Int) := by
 show IntKind.u64.wrap ((BitVec.ofInt 64 a ||| BitVec.ofInt 64 b).toNat : Int) = _
 rw [IntKind.wrap_u64]
 have := (BitVec.ofInt 64 a ||| BitVec.ofInt 64 b).isLt
 omega
theorem nat_or_add (a b i : Nat) (h : b < 2 ^ i) : a * 2 ^ i ||| b = a * 2 ^ i + b := by
 rw [← Nat.shiftLeft_eq, Nat.shiftLeft_add_eq_or_of_lt h]
theorem or32_add (a b : Int) (i : Nat) (ha : 0 ≤ a) (hb : 0 ≤ b) (hb' : b < 2 ^ i) (h : a * 2 ^ i + b ≤ 4294967295) : bits .or .u32 (a * 2 ^ i) b = a * 2 ^ i + b := by
  obtain ⟨x, rfl⟩ := Int.eq_ofNat_of_zero_le ha
  obtain ⟨y, rfl⟩ := Int.eq_ofNat_of_zero_le hb
  have e : ((x : Int) * 2 ^ i) = ((x * 2 ^ i : Nat) : Int) := by simp
  have hy : y < 2 ^ i := by have : ((y : Int)) < ((2 ^ i : Nat) : Int) := by simpa using hb'
                            omega
  rw [e] at h ⊢
  rw [bits_or32, BitVec.toNat_or, ofInt_toNat32 (by omega) (by omega), ofInt_toNat32 (by omega) (by omega)]
  simp only [Int.toNat_natCast]
  rw [nat_or_add _ _ _ hy]
  simp
theorem or64_add (a b : Int) (i : Nat) (ha : 0 ≤ a) (hb : 0 ≤ b) (hb' : b < 2 ^ i) (h : a * 2 ^ i + b ≤ 18446744073709551615) : bits .or .u64 (a * 2 ^ i) b = a * 2 ^ i + b := by
  obtain ⟨x, rfl⟩ := Int.eq_ofNat_of_zero_le ha
  obtain ⟨y, rfl⟩ := Int.eq_ofNat_of_zero_le hb
  have e : ((x : Int) * 2 ^ i) = ((x * 2 ^ i : Nat) : Int) := by simp
  have hy : y < 2 ^ i := by have : ((y : Int)) < ((2 ^ i : Nat) : Int) := by simpa using hb'
                            omega
  rw [e] at h ⊢
  rw [bits_or64, BitVec.toNat_or, ofInt_toNat64 (by omega) (by omega), ofInt_toNat64 (by omega) (by omega)]
  simp only [Int.toNat_natCast]
  rw [nat_or_add _ _ _ hy]
  simp

/-! ### Rotations -/
/-! ### Bytes of a number, the highest first -/
theorem strOfNums_append (a b : List Int) : strOfNums (a ++ b) = strOfNums a ++ strOfNums b := by
 apply ByteArray.ext
 simp [strOfNums, ByteArray.data_append]
theorem strOfNums_at (l : List Int) (k : Nat) (b : Int) (h : l[k]? = some b) (h0 : 0 ≤ b) (h1 : b ≤ 255) : bt (strOfNums l) k = b := by
 have hk := (List.getElem?_eq_some_iff.1 h).1
 have hv := (List.getElem?_eq_some_iff.1 h).2
 have hs : k < (strOfNums l).size := by rw [strOfNums_size]; exact hk
 rw [← get_bt _ _ hs]
 have : (strOfNums l)[k] = UInt8.ofNat b.toNat := by
  show (strOfNums l).data[k] = _
  simp [strOfNums, hv]
 rw [this]
 simp; omega
theorem bt_ext {s t : ByteArray} (hs : s.size = t.size) (h : ∀ k, k < s.size → bt s k = bt t k) : s = t := by
 apply ByteArray.ext
 apply Array.ext
 ·exact hs
 ·intro i h1 h2
  have := h i h1
  rw [← get_bt s i h1, ← get_bt t i h2] at this
  have h3 : (s[i]).toNat = (t[i]).toNat := by omega
  exact UInt8.toNat_inj.1 h3
theorem bt_extract {s : ByteArray} {a b k : Nat} (hb : b ≤ s.size) (h : k < b - a) : bt (s.extract a b) k = bt s (a + k) := by
 have h1 : k < (s.extract a b).size := by rw [ByteArray.size_extract]; omega
 rw [← get_bt _ _ h1, ← get_bt _ _ (show a + k < s.size by omega), show (s.extract a b)[k]'h1 = s[a + k]'(by omega) from ByteArray.getElem_extract h1]
end Go.Proofs.YtiiimhamfibdbaaGreat
/- A text's bytes as a list of numbers. They hold of texts alone, under no condition on the program. -/
namespace Go.Proofs.YtiiimhamfibdbaaGreat
open Go.PlainAid
set_option linter.unusedVariables false
def bl (s : ByteArray) : List Int := s.data.toList.map fun u => (u.toNat : Int)
def IsB (l : List Int) : Prop := ∀ x ∈ l, 0 ≤ x ∧ x ≤ 255
theorem bl_length (s : ByteArray) : (bl s).length = s.size := by rw [bl, List.length_map]; rfl
theorem bl_at (s : ByteArray) (i : Nat) (h : i < s.size) : (bl s)[i]? = some (bt s i) := by
 have h2 : i < s.data.toList.length := h
 unfold bl bt
 rw [List.getElem?_map, List.getElem?_eq_getElem h2, dif_pos h]
 rfl
theorem bl_get (s : ByteArray) (i : Nat) (h : i < (bl s).length) : (bl s)[i] = bt s i := by
 have := bl_at s i (by rw [bl_length] at h; exact h)
 rw [List.getElem?_eq_getElem h] at this
 exact Option.some.inj this
theorem bl_isB (s : ByteArray) : IsB (bl s) := by
 intro x hx
 obtain ⟨u, _, rfl⟩ := List.mem_map.1 hx
 have := u.toNat_lt
 omega
theorem bl_drop (s : ByteArray) (i : Nat) (h : i < s.size) : (bl s).drop i = bt s i :: (bl s).drop (i + 1) := by
 have hl : i < (bl s).length := by rw [bl_length]; exact h
 rw [List.drop_eq_getElem_cons hl, bl_get]
theorem bl_drop_end (s : ByteArray) (i : Nat) (h : s.size ≤ i) : (bl s).drop i = [] := List.drop_eq_nil_of_le (by rw [bl_length]; exact h)
theorem bl_inj {s t : ByteArray} (h : bl s = bl t) : s = t := by
 have hs : s.size = t.size := by rw [← bl_length, ← bl_length, h]
 apply bt_ext hs
 intro k hk
 have h1 := bl_at s k hk
 have h2 := bl_at t k (by omega)
 rw [h, h2] at h1
 exact (Option.some.inj h1).symm
theorem bl_append (s t : ByteArray) : bl (s ++ t) = bl s ++ bl t := by simp [bl, ByteArray.data_append]
theorem bl_extract (s : ByteArray) (a b : Nat) (hb : b ≤ s.size) : bl (s.extract a b) = ((bl s).drop a).take (b - a) := by
 apply List.ext_getElem?
 intro i
 by_cases hi : i < b - a
 ·rw [bl_at _ _ (by rw [ByteArray.size_extract]; omega), bt_extract hb hi, List.getElem?_take_of_lt hi, List.getElem?_drop, bl_at _ _ (by omega)]
 ·rw [List.getElem?_eq_none (by rw [bl_length, ByteArray.size_extract]; omega), List.getElem?_eq_none (by simp; omega)]
theorem bl_str {l : List Int} (h : IsB l) : bl (strOfNums l) = l := by
 apply List.ext_getElem?
 intro i
 by_cases hi : i < l.length
 ·have hm := h l[i] (List.getElem_mem hi)
  rw [bl_at _ _ (by rw [strOfNums_size]; exact hi), strOfNums_at l i l[i] (List.getElem?_eq_getElem hi) hm.1 hm.2, List.getElem?_eq_getElem hi]
 ·rw [List.getElem?_eq_none (by rw [bl_length, strOfNums_size]; omega), List.getElem?_eq_none (by omega)]
theorem str_bl (s : ByteArray) : strOfNums (bl s) = s := bl_inj (bl_str (bl_isB s))
theorem IsB.append {l m : List Int} (h : IsB l) (k : IsB m) : IsB (l ++ m) := by
 intro x hx
 rcases List.mem_append.1 hx with h1 | h1
 ·exact h x h1
 ·exact k x h1
theorem IsB.cons {x : Int} {l : List Int} (h0 : 0 ≤ x) (h1 : x ≤ 255) (h : IsB l) : IsB (x :: l) := by
 intro y hy
 rcases List.mem_cons.1 hy with rfl | hy
 ·exact ⟨h0, h1⟩
 ·exact h y hy
theorem IsB.nil : IsB [] := by intro x hx; cases hx
theorem IsB.head {x : Int} {l : List Int} (h : IsB (x :: l)) : 0 ≤ x ∧ x ≤ 255 := h x (List.mem_cons_self ..)
theorem IsB.tail {x : Int} {l : List Int} (h : IsB (x :: l)) : IsB l := fun y hy => h y (List.mem_cons_of_mem _ hy)
theorem IsB.drop {l : List Int} (h : IsB l) (n : Nat) : IsB (l.drop n) := fun y hy => h y (List.mem_of_mem_drop hy)
theorem IsB.take {l : List Int} (h : IsB l) (n : Nat) : IsB (l.take n) := fun y hy => h y (List.mem_of_mem_take hy)

/-! ### An or of disjoint parts, in a byte and in an int -/
theorem ofInt_toNat8 {a : Int} (h0 : 0 ≤ a) (h1 : a ≤ 255) : (BitVec.ofInt 8 a).toNat = a.toNat := by
 obtain ⟨n, rfl⟩ := Int.eq_ofNat_of_zero_le h0
 rw [BitVec.ofInt_natCast, BitVec.toNat_ofNat]
 simp; omega
theorem bits_or8 (a b : Int) : bits .or .u8 a b = ((BitVec.ofInt 8 a ||| BitVec.ofInt 8 b).toNat : Int) := by
 show IntKind.u8.wrap ((BitVec.ofInt 8 a ||| BitVec.ofInt 8 b).toNat : Int) = _
 rw [IntKind.wrap_u8]
 have := (BitVec.ofInt 8 a ||| BitVec.ofInt 8 b).isLt
 omega
theorem or8_add (a b : Int) (i : Nat) (ha : 0 ≤ a) (hb : 0 ≤ b) (hb' : b < 2 ^ i) (h : a * 2 ^ i + b ≤ 255) : bits .or .u8 (a * 2 ^ i) b = a * 2 ^ i + b := by
  obtain ⟨x, rfl⟩ := Int.eq_ofNat_of_zero_le ha
  obtain ⟨y, rfl⟩ := Int.eq_ofNat_of_zero_le hb
  have e : ((x : Int) * 2 ^ i) = ((x * 2 ^ i : Nat) : Int) := by simp
  have hy : y < 2 ^ i := by have : ((y : Int)) < ((2 ^ i : Nat) : Int) := by simpa using hb'
                            omega
  rw [e] at h ⊢
  rw [bits_or8, BitVec.toNat_or, ofInt_toNat8 (by omega) (by omega), ofInt_toNat8 (by omega) (by omega)]
  simp only [Int.toNat_natCast]
  rw [nat_or_add _ _ _ hy]
  simp
theorem bits_ori (a b : Int) : bits .or .i64 a b = IntKind.i64.wrap ((BitVec.ofInt 64 a ||| BitVec.ofInt 64 b).toNat : Int) := rfl
theorem ori_add (a b : Int) (i : Nat) (ha : 0 ≤ a) (hb : 0 ≤ b) (hb' : b < 2 ^ i) (h : a * 2 ^ i + b ≤ 9223372036854775807) : bits .or .i64 (a * 2 ^ i) b = a * 2 ^ i + b := by
  obtain ⟨x, rfl⟩ := Int.eq_ofNat_of_zero_le ha
  obtain ⟨y, rfl⟩ := Int.eq_ofNat_of_zero_le hb
  have e : ((x : Int) * 2 ^ i) = ((x * 2 ^ i : Nat) : Int) := by simp
  have hy : y < 2 ^ i := by have : ((y : Int)) < ((2 ^ i : Nat) : Int) := by simpa using hb'
                            omega
  rw [e] at h ⊢
  rw [bits_ori, BitVec.toNat_or, ofInt_toNat64 (by omega) (by omega), ofInt_toNat64 (by omega) (by omega)]
  simp only [Int.toNat_natCast]
  rw [nat_or_add _ _ _ hy, IntKind.wrap_i64]
  omega
theorem ori_7 (a b : Int) (ha : 0 ≤ a) (h0 : 0 ≤ b) (h1 : b < 128) (h : a * 128 + b ≤ 9223372036854775807) : bits .or .i64 (a * 128) b = a * 128 + b := ori_add a b 7 ha h0 h1 h
/-! ### The lower bits, and a bit -/
theorem bits_and8 (a b : Int) : bits .and .u8 a b = ((BitVec.ofInt 8 a &&& BitVec.ofInt 8 b).toNat : Int) := by
 show IntKind.u8.wrap ((BitVec.ofInt 8 a &&& BitVec.ofInt 8 b).toNat : Int) = _
 rw [IntKind.wrap_u8]
 have := (BitVec.ofInt 8 a &&& BitVec.ofInt 8 b).isLt
 omega
theorem and8_low (a : Int) (i : Nat) (h0 : 0 ≤ a) (h1 : a ≤ 255) (hi : i ≤ 8) : bits .and .u8 a (2 ^ i - 1) = a % 2 ^ i := by
 obtain ⟨x, rfl⟩ := Int.eq_ofNat_of_zero_le h0
 have hp : 2 ^ i ≤ 2 ^ 8 := Nat.pow_le_pow_right (by decide) hi
 have hq : 0 < 2 ^ i := Nat.pow_pos (by decide)
 have e : ((2 : Int) ^ i - 1) = ((2 ^ i - 1 : Nat) : Int) := by rw [Int.ofNat_sub hq]; simp
 rw [e, bits_and8, BitVec.toNat_and, ofInt_toNat8 (by omega) (by omega), ofInt_toNat8 (by omega) (by omega), Int.toNat_natCast, Int.toNat_natCast, Nat.and_two_pow_sub_one_eq_mod]
 simp
theorem and8_31 (a : Int) (h0 : 0 ≤ a) (h1 : a ≤ 255) : bits .and .u8 a 31 = a % 32 := and8_low a 5 h0 h1 (by decide)
theorem and8_127 (a : Int) (h0 : 0 ≤ a) (h1 : a ≤ 255) : bits .and .u8 a 127 = a % 128 := and8_low a 7 h0 h1 (by decide)
theorem and8_32all : ∀ x : Fin 256, bits .and .u8 (x.val : Int) 32 = (x.val : Int) / 32 % 2 * 32 := by decide +kernel
theorem and8_32 (a : Int) (h0 : 0 ≤ a) (h1 : a ≤ 255) : bits .and .u8 a 32 = a / 32 % 2 * 32 := by
 have := and8_32all ⟨a.toNat, by omega⟩
 simp only [Int.toNat_of_nonneg h0] at this
 exact this
end Go.Proofs.YtiiimhamfibdbaaGreat
/- Words for memory: a slice of the call's own blocks that holds a list; what is laid, stored, appended keeps of it. They hold of any program. -/
namespace Go.Proofs.YtiiimhamfibdbaaGreat
open Go.RowKit
def Row (w : World) (g : Nat) (t : TypeId) (l : List Value) : Prop := w.heap[g]? = some (.cells l.toArray t (0, 0))
section
variable {w w' : World} {g : Nat} {t : TypeId} {l : List Value}
theorem Row.lt (h : Row w g t l) : g < w.heap.size := by
 unfold Row at h
 rcases Nat.lt_or_ge g w.heap.size with h1 | h1
 ·exact h1
 ·rw [Array.getElem?_eq_none h1] at h; cases h
theorem Row.cell (h : Row w g t l) (i : Nat) : w.cell? ⟨g, i, none⟩ = l[i]? := by
 rw [cell_of_row w g i l.toArray t (0, 0) h]; simp
theorem Row.frozen (h : Row w g t l) (i : Nat) : w.frozen? ⟨g, i, none⟩ = false := by
 unfold Row at h
 simp [World.frozen?, h]
theorem Row.new (w : World) (t : TypeId) (l : List Value) : Row (w.alloc (.cells l.toArray t)) w.heap.size t l := heap_alloc_new w _
theorem Row.alloc (h : Row w g t l) (o : Obj) : Row (w.alloc o) g t l := (Below.heap_alloc w o g h.lt).trans h
theorem Row.set (h : Row w g t l) (i : Nat) (u : Value) : Row (w.setCell ⟨g, i, none⟩ u) g t (l.set i u) := by
 unfold Row
 rw [heap_setCell_same w g i l.toArray t u h]; simp
theorem Row.far (h : Row w g t l) {p : Addr} (hp : g ≠ p.block) (u : Value) : Row (w.setCell p u) g t l := (Below.heap_setCell w p u g hp).trans h
theorem Row.below {B : Nat} (h : Row w g t l) (hb : Below B w w') (hg : g < B) : Row w' g t l := (hb.block g hg).trans h
theorem Row.grown {row : Option Nat} (h : Row w g t l) (hb : w.grownBy w' row) (hg : some g ≠ row) : Row w' g t l := (hb.block g h.lt hg).trans h

def Sl (w : World) (t : TypeId) (v : Value) (l : List Value) (g : Nat) : Prop :=
 ∃ sp : List Value, v = .slice (some ⟨g, 0, none⟩) l.length (l.length + sp.length) ∧ l.length + sp.length ≤ maxLen ∧ Row w g t (l ++ sp)
theorem Sl.lt {v : Value} (h : Sl w t v l g) : g < w.heap.size := by
 obtain ⟨sp, _, _, h⟩ := h; exact h.lt
theorem Sl.open {v : Value} {n : Nat} (h : Sl w t v l g) (hn : l.length = n) : ∃ c, v = .slice (some ⟨g, 0, none⟩) n c ∧ n ≤ c ∧ c ≤ maxLen := by
 obtain ⟨sp, h, hm, _⟩ := h; subst hn; exact ⟨_, h, by omega, hm⟩
theorem Sl.cell {v : Value} (h : Sl w t v l g) {i : Nat} (hi : i < l.length) : w.cell? ⟨g, i, none⟩ = some l[i] := by
 obtain ⟨sp, _, _, h⟩ := h
 rw [h.cell, List.getElem?_append_left hi, List.getElem?_eq_getElem hi]
theorem Sl.below {v : Value} {B : Nat} (h : Sl w t v l g) (hb : Below B w w') (hg : g < B) : Sl w' t v l g := by
 obtain ⟨sp, h1, h2, h⟩ := h; exact ⟨sp, h1, h2, h.below hb hg⟩
theorem Sl.keep {v : Value} (h : Sl w t v l g) (hb : Below w.heap.size w w') : Sl w' t v l g := h.below hb h.lt
theorem Sl.alloc {v : Value} (h : Sl w t v l g) (o : Obj) : Sl (w.alloc o) t v l g := by
 obtain ⟨sp, h1, h2, h⟩ := h; exact ⟨sp, h1, h2, h.alloc o⟩
theorem Sl.drew {v : Value} (h : Sl w t v l g) : Sl w.drew t v l g := h
theorem Sl.drewN {v : Value} (h : Sl w t v l g) (k : Nat) : Sl (w.drewN k) t v l g := h
theorem Sl.grown {v : Value} {row : Option Nat} (h : Sl w t v l g) (hb : w.grownBy w' row) (hg : some g ≠ row) : Sl w' t v l g := by
 obtain ⟨sp, h1, h2, h⟩ := h; exact ⟨sp, h1, h2, h.grown hb hg⟩
theorem Sl.new (w : World) (t : TypeId) (l : List Value) (hl : l.length ≤ maxLen) : Sl (w.alloc (.cells l.toArray t)) t (.slice (some ⟨w.heap.size, 0, none⟩) l.length l.length) l w.heap.size :=
 ⟨[], by simp, by simpa using hl, by simpa using Row.new w t l⟩
end
section
variable {P : Program}
theorem run_append_sl (w : World) (t ty e : TypeId) (i : TypeInfo) (z : Value) (bytes : Nat) (ht : P.underlying t = some (.slice e)) (hi : P.info? e = some i) (hz : i.zero = some z)
    (hsize : i.size = 1) (hby : i.bytes = bytes) (hzs : z.cells.size = 1) {v : Value} {l : List Value} {g : Nat} (hs : Sl w e v l g)
    (a : Addr) (m c : Nat) (news : List Value) (hl : news.length = m) (hnews : ∀ j u, news[j]? = some u → w.cell? (a.add j) = some u) (h1 : ∀ u ∈ news, u.oneCell' = true)
    (h63 : l.length + m ≤ maxLen) (hbytes : (l.length + m) * bytes ≤ 140737488355328) :
    ∃ v' w' g', (Builtin.append_ #[t, t] ty #[v, .slice (some a) m c]).run P w = .ok v' w' ∧ Sl w' e v' (l ++ news) g' ∧ (g' = g ∨ g' = w.heap.size) ∧ w.grownBy w' (some g) := by
  subst hby
  obtain ⟨sp, hv, hm, hr⟩ := id hs
  have hll : (l ++ news).length = l.length + m := by rw [List.length_append, hl]
  by_cases hroom : l.length + m ≤ l.length + sp.length
  · have h := run_append_room (P := P) w t ty e i ht hi g l.length (l.length + sp.length) (l ++ sp).toArray hr a m c news (by rw [hsize, hl]; omega) hnews h1 hroom (by rw [hsize, hl]; simp; omega)
    rw [hv]
    refine ⟨_, _, g, h, ⟨sp.drop m, ?_, ?_, ?_⟩, .inl rfl, ?_⟩
    · rw [hll, List.length_drop, show l.length + m + (sp.length - m) = l.length + sp.length by omega]
    · rw [hll, List.length_drop]; omega
    · unfold Row
      rw [setRow_heap w g _ _ e (0, 0) hr]
      congr 3
      rw [hsize, Nat.mul_one, List.take_left, hl, List.drop_append, List.drop_eq_nil_of_le (by omega), List.nil_append]
      congr 3
      omega
    · exact ⟨rfl, rfl, rfl, by simp, fun k _ hk => setRow_other w g k _ (fun e => hk (by rw [e]))⟩
  · have h := run_append_grow (P := P) w t ty e i z ht hi hz ⟨g, 0, none⟩ l.length (l.length + sp.length) l (by rw [hsize]; omega)
      (fun j u hj => by
        have hj' := (List.getElem?_eq_some_iff.1 hj).1
        rw [show (⟨g, 0, none⟩ : Addr).add j = ⟨g, j, none⟩ by unfold Addr.add; split <;> simp_all, hr.cell, List.getElem?_append_left hj']; exact hj)
      a m c news (by rw [hsize, hl]; omega) hnews (by omega) (by simp only [maxLen] at h63; omega) (growslice_fits (by omega) hbytes)
    rw [hv]
    have hzl : (Builtin.zeroCells z.cells (grownCap w (l.length + m) (l.length + sp.length) e - (l.length + m))).toList.length = grownCap w (l.length + m) (l.length + sp.length) e - (l.length + m) := by
      rw [Array.length_toList, size_zeroCells, hzs, Nat.mul_one]
    refine ⟨_, _, w.heap.size, h, ⟨(Builtin.zeroCells z.cells (grownCap w (l.length + m) (l.length + sp.length) e - (l.length + m))).toList, ?_, ?_, ?_⟩, .inr rfl, ?_⟩
    · rw [hll, hzl]
      have := grownCap_ge w (l.length + m) (l.length + sp.length) e
      congr 1
      omega
    · rw [hll, hzl]
      have := grownCap_le_maxLen w (l.length + m) (l.length + sp.length) e h63
      have := grownCap_ge w (l.length + m) (l.length + sp.length) e
      omega
    · unfold Row
      have hn := heap_alloc_new w.drew (.cells (l.toArray ++ news.toArray ++ Builtin.zeroCells z.cells (grownCap w (l.length + m) (l.length + sp.length) e - (l.length + m))) e)
      refine Eq.trans hn ?_
      simp
    · exact ⟨rfl, rfl, rfl, by simp, fun k hk _ => Below.heap_alloc w.drew _ k hk⟩
theorem wpList_append_sl {w : World} {ops : Array Oper} {rest : List Oper} {o : Oper} {a : Act} {Q : Exit → Act → World → Prop} (hgd : o.guard = none) (s x : Operand) (t : TypeId)
  (ho : o.op = .call { callee := .builtin .append, args := #[s, x], argTypes := #[t, t] })
  (e : TypeId) (i : TypeInfo) (z : Value) (bytes : Nat) (ht : P.underlying t = some (.slice e)) (hi : P.info? e = some i) (hz : i.zero = some z)
  (hsize : i.size = 1) (hby : i.bytes = bytes) (hzs : z.cells.size = 1)
  {v : Value} {l : List Value} {g : Nat} (hv : a.eval s = v) (hs : Sl w e v l g)
  (ad : Addr) (m c : Nat) (news : List Value) (hx : a.eval x = .slice (some ad) m c) (hl : news.length = m) (hnews : ∀ j u, news[j]? = some u → w.cell? (ad.add j) = some u) (h1 : ∀ u ∈ news, u.oneCell' = true)
  (h63 : l.length + m ≤ maxLen) (hbytes : (l.length + m) * bytes ≤ 140737488355328)
  (h : ∀ v' w' g', Sl w' e v' (l ++ news) g' → (g' = g ∨ g' = w.heap.size) → w.grownBy w' (some g) → wpList P ops Q rest (a.put o.dst v') w') : wpList P ops Q (o :: rest) a w := by
 refine wpList_plain hgd fun K hK => ?_
 obtain ⟨v', w', g', hr, h2, h3, h4⟩ := run_append_sl (P := P) w t o.type e i z bytes ht hi hz hsize hby hzs hs ad m c news hl hnews h1 h63 hbytes
 unfold Oper.wp execOp
 simp only [ho, resolve, invoke, builtin, Sem.run_bind, Sem.run_pure, Result.andThen_ok, List.map_toArray, List.map_cons, List.map_nil, hv, hx, hr]
 exact hK _ _ (h v' w' g' h2 h3 h4)
end
end Go.Proofs.YtiiimhamfibdbaaGreat
/- What a call does to memory when it may write into one block alone ('grownBy' of it): the steps put together. Of any program. -/
namespace Go.Proofs.YtiiimhamfibdbaaGreat
open Go.RowKit
theorem grown_refl (w : World) (g : Nat) : w.grownBy w (some g) := ⟨rfl, rfl, rfl, Nat.le_refl _, fun _ _ _ => rfl⟩
end Go.Proofs.YtiiimhamfibdbaaGreat
/- Slices of bytes of a call's own: one byte appended, and the text that they make. Of any slice from a block's head on. -/
namespace Go.Proofs.YtiiimhamfibdbaaGreat
open Go.RowKit Go.PlainAid
set_option linter.unusedVariables false
theorem rets1 {a c : Value} (h : a = c) : Ending.returned a = .returned c := by rw [h]
theorem rets2 {a b c d : Value} (h : a = c) (h' : b = d) : Ending.returned (.tuple #[a, b]) = .returned (.tuple #[c, d]) := by rw [h, h']
theorem rets3 {a b c d e f : Value} (h : a = d) (h' : b = e) (h'' : c = f) : Ending.returned (.tuple #[a, b, c]) = .returned (.tuple #[d, e, f]) := by rw [h, h', h'']
def u8s (l : List Int) : List Value := l.map (Value.int .u8)
theorem u8s_length (l : List Int) : (u8s l).length = l.length := by simp [u8s]
theorem u8s_append (l m : List Int) : u8s (l ++ m) = u8s l ++ u8s m := by simp [u8s]
theorem u8s_one (l : List Int) : ∀ u ∈ u8s l, u.oneCell' = true := by
 intro u hu
 obtain ⟨x, _, rfl⟩ := List.mem_map.1 hu
 rfl
theorem infoU8 : (Tryz.prog.info? 5).map (fun i => (i.zero, i.size, i.bytes)) = some (some (.int .u8 0), 1, 1) := by kernel_rfl
theorem addr0 (g j : Nat) : (⟨g, 0, none⟩ : Addr).add j = ⟨g, j, none⟩ := by unfold Addr.add; split <;> simp_all
theorem sl_new_bytes (w : World) (l : List Int) (hl : l.length ≤ maxLen) : Sl (w.alloc (.cells (u8s l).toArray 5)) 5 (.slice (some ⟨w.heap.size, 0, none⟩) l.length l.length) (u8s l) w.heap.size := by
 have := Sl.new w 5 (u8s l) (by rw [u8s_length]; exact hl)
 rwa [u8s_length] at this
theorem conv_bytes {w : World} {v : Value} {l : List Int} {g : Nat} (h : Sl w 5 v (u8s l) g) : (convert 107 9 v).run Tryz.prog w = .ok (.string (strOfNums l)) w := by
 obtain ⟨c, rfl, _, _⟩ := h.open (n := l.length) (u8s_length l)
 exact run_convert_bytes_arg (P := Tryz.prog) w 107 5 Tryz.underlying107 Tryz.underlying5 g 0 l.length c l rfl (fun i hi => by
  have := h.cell (i := i) (by rw [u8s_length]; exact hi)
  rw [Nat.zero_add, this]
  simp [u8s, List.getD, hi]) 9 Tryz.underlying9
theorem conv_one (w : World) (x : Int) : (convert 107 9 (.slice (some ⟨w.heap.size, 0, none⟩) 1 1)).run Tryz.prog (w.alloc (.cells #[.int .u8 x] 5)) = .ok (.string (strOfNums [x])) (w.alloc (.cells #[.int .u8 x] 5)) :=
 conv_bytes (sl_new_bytes w [x] (by simp [maxLen]))
theorem conv_at (x : Int) (W : World) (g : Nat) (h : W.cell? ⟨g, 0, none⟩ = some (.int .u8 x)) : (convert 107 9 (.slice (some ⟨g, 0, none⟩) 1 1)).run Tryz.prog W = .ok (.string (strOfNums [x])) W :=
 run_convert_bytes_arg (P := Tryz.prog) W 107 5 Tryz.underlying107 Tryz.underlying5 g 0 1 1 [x] rfl (fun i hi => by
  match i, hi with
  |0, _ => simpa using h) 9 Tryz.underlying9
theorem wpList_append_byte {w : World} {ops : Array Oper} {rest : List Oper} {o : Oper} {a : Act} {Q : Exit → Act → World → Prop} (hgd : o.guard = none) (s x : Operand)
  (ho : o.op = .call { callee := .builtin .append, args := #[s, x], argTypes := #[107, 107] })
  {v : Value} {l : List Int} {g : Nat} (hv : a.eval s = v) (hs : Sl w 5 v (u8s l) g)
  (gx c : Nat) (b : Int) (hx : a.eval x = .slice (some ⟨gx, 0, none⟩) 1 c) (hc : w.cell? ⟨gx, 0, none⟩ = some (.int .u8 b)) (h63 : l.length ≤ 1000000000000)
  (h : ∀ v' w' g', Sl w' 5 v' (u8s (l ++ [b])) g' → (g' = g ∨ g' = w.heap.size) → w.grownBy w' (some g) → wpList Tryz.prog ops Q rest (a.put o.dst v') w') : wpList Tryz.prog ops Q (o :: rest) a w := by
 obtain ⟨i0, hi, hz0, hz1, hz2⟩ := info_parts infoU8
 refine wpList_append_sl hgd s x 107 ho 5 i0 (.int .u8 0) 1 Tryz.underlying107 hi hz0 hz1 hz2 rfl hv hs ⟨gx, 0, none⟩ 1 c [.int .u8 b] hx rfl ?_ ?_ ?_ ?_ ?_
 ·intro j u hj
  match j, hj with
  |0, hj => simp at hj; subst hj; rw [addr0]; exact hc
 ·intro u hu; simp at hu; subst hu; rfl
 ·rw [u8s_length]; unfold maxLen; omega
 ·rw [u8s_length]; omega
 ·intro v' w' g' h1 h2 h3
  refine h v' w' g' ?_ h2 h3
  rwa [u8s_append]
theorem u8s_get (l : List Int) (j : Nat) (h : j < (u8s l).length) : (u8s l)[j] = .int .u8 (l[j]'(by rw [u8s_length] at h; exact h)) := by simp [u8s]
theorem wpList_append_bytes {w : World} {ops : Array Oper} {rest : List Oper} {o : Oper} {a : Act} {Q : Exit → Act → World → Prop} (hgd : o.guard = none) (s x : Operand)
  (ho : o.op = .call { callee := .builtin .append, args := #[s, x], argTypes := #[107, 107] })
  {v : Value} {l : List Int} {g : Nat} (hv : a.eval s = v) (hs : Sl w 5 v (u8s l) g)
  (gx m c : Nat) (l2 : List Int) (hx : a.eval x = .slice (some ⟨gx, 0, none⟩) m c) (hm : l2.length = m) (hc : ∀ j (h : j < l2.length), w.cell? ⟨gx, j, none⟩ = some (.int .u8 l2[j])) (h63 : l.length + l2.length ≤ 1000000000000)
  (h : ∀ v' w' g', Sl w' 5 v' (u8s (l ++ l2)) g' → (g' = g ∨ g' = w.heap.size) → w.grownBy w' (some g) → wpList Tryz.prog ops Q rest (a.put o.dst v') w') : wpList Tryz.prog ops Q (o :: rest) a w := by
 obtain ⟨i0, hi, hz0, hz1, hz2⟩ := info_parts infoU8
 refine wpList_append_sl hgd s x 107 ho 5 i0 (.int .u8 0) 1 Tryz.underlying107 hi hz0 hz1 hz2 rfl hv hs ⟨gx, 0, none⟩ m c (u8s l2) hx (by rw [u8s_length]; exact hm) ?_ (u8s_one _) ?_ ?_ ?_
 ·intro j u hj
  have hj' := (List.getElem?_eq_some_iff.1 hj).1
  rw [u8s_length] at hj'
  rw [addr0, hc j hj']
  simp [u8s, hj'] at hj
  rw [hj]
 ·rw [u8s_length]; unfold maxLen; omega
 ·rw [u8s_length]; omega
 ·intro v' w' g' h1 h2 h3
  refine h v' w' g' ?_ h2 h3
  rwa [u8s_append]
theorem Sl.cells_u8 {w : World} {v : Value} {l : List Int} {g : Nat} (h : Sl w 5 v (u8s l) g) : ∀ j (hj : j < l.length), w.cell? ⟨g, j, none⟩ = some (.int .u8 l[j]) := by
 intro j hj
 rw [h.cell (i := j) (by rw [u8s_length]; exact hj), u8s_get]
end Go.Proofs.YtiiimhamfibdbaaGreat
/- What a call does to memory when it may write into some blocks alone: the blocks F. Of any program. -/
namespace Go.Proofs.YtiiimhamfibdbaaGreat
open Go.RowKit
set_option linter.unusedVariables false
structure Chg (F : Nat → Prop) (w w' : World) : Prop where
 os : w'.os = w.os
 tape : w'.tape = w.tape
 output : w'.output = w.output
 size : w.heap.size ≤ w'.heap.size
 block : ∀ i, i < w.heap.size → ¬ F i → w'.heap[i]? = w.heap[i]?
theorem Chg.to_below {F : Nat → Prop} {a w w' : World} (h : Below a.heap.size a w) (hc : Chg F w w') (hF : ∀ i, F i → a.heap.size ≤ i) : Below a.heap.size a w' :=
 ⟨hc.os.trans h.os, hc.tape.trans h.tape, hc.output.trans h.output, Nat.le_trans h.size hc.size, fun i hi => (hc.block i (Nat.lt_of_lt_of_le hi h.size) (fun f => by have := hF i f; omega)).trans (h.block i hi)⟩
theorem Row.chg {F : Nat → Prop} {w w' : World} {g : Nat} {t : TypeId} {l : List Value} (h : Row w g t l) (hc : Chg F w w') (hg : ¬ F g) : Row w' g t l := (hc.block g h.lt hg).trans h
theorem Chg.of_below {F : Nat → Prop} {w w' : World} (h : Below w.heap.size w w') : Chg F w w' := ⟨h.os, h.tape, h.output, h.size, fun i hi _ => h.block i hi⟩
theorem Chg.trans {F F' : Nat → Prop} {a w w' : World} (h : Chg F a w) (k : Chg F' w w') (hF : ∀ i, F' i → F i ∨ a.heap.size ≤ i) : Chg F a w' :=
 ⟨k.os.trans h.os, k.tape.trans h.tape, k.output.trans h.output, Nat.le_trans h.size k.size, fun i hi hn => (k.block i (Nat.lt_of_lt_of_le hi h.size) (fun f => by rcases hF i f with q | q; exact hn q; omega)).trans (h.block i hi hn)⟩
end Go.Proofs.YtiiimhamfibdbaaGreat
/- Slices of a call's own, of elements of any size: what keeps them. Of any program. -/
namespace Go.Proofs.YtiiimhamfibdbaaGreat
open Go.RowKit
set_option linter.unusedVariables false
section
variable {w w' : World} {base : Nat} {e : TypeId} {size : Nat} {v : Value} {n : Nat} {xs : List Value}
theorem own_keep (h : w.ownsRow base e size v n xs) (hb : ∀ i, i < w.heap.size → base ≤ i → w'.heap[i]? = w.heap[i]?) : w'.ownsRow base e size v n xs := by
 obtain ⟨hl, h1 | ⟨g, cap, cur, hv, hg, hh, hn, hc, hs, ht⟩⟩ := h
 ·exact ⟨hl, .inl h1⟩
 ·refine ⟨hl, .inr ⟨g, cap, cur, hv, hg, ?_, hn, hc, hs, ht⟩⟩
  have hlt : g < w.heap.size := by
   rcases Nat.lt_or_ge g w.heap.size with h1 | h1
   ·exact h1
   ·rw [Array.getElem?_eq_none h1] at hh; cases hh
  rw [hb g hlt hg]; exact hh
theorem own_chg {F : Nat → Prop} (h : w.ownsRow base e size v n xs) (hc : Chg F w w') (hF : ∀ i, F i → i < base) : w'.ownsRow base e size v n xs :=
 own_keep h (fun i h1 h2 => hc.block i h1 (fun f => by have := hF i f; omega))
theorem own_below (h : w.ownsRow base e size v n xs) (hb : Below w.heap.size w w') : w'.ownsRow base e size v n xs :=
 own_keep h (fun i h1 _ => hb.block i h1)
theorem own_shape (h : w.ownsRow base e size v n xs) : (v = .slice none 0 0 ∧ n = 0) ∨ ∃ g c, v = .slice (some ⟨g, 0, none⟩) n c ∧ n ≤ c ∧ c ≤ maxLen ∧ base ≤ g ∧ g < w.heap.size := by
 obtain ⟨hl, h1 | ⟨g, cap, cur, hv, hg, hh, hn, hc, hs, ht⟩⟩ := h
 ·exact .inl h1
 ·refine .inr ⟨g, cap, hv, hn, hc, hg, ?_⟩
  rcases Nat.lt_or_ge g w.heap.size with h1 | h1
  ·exact h1
  ·rw [Array.getElem?_eq_none h1] at hh; cases hh
end
end Go.Proofs.YtiiimhamfibdbaaGreat
/- Words for memory, for arrays and structs in one block: many cells read or stored at once. They hold of any program. -/
namespace Go.Proofs.YtiiimhamfibdbaaGreat
open Go.RowKit Go.PlainAid
set_option linter.unusedVariables false
section
variable {w w' : World} {g : Nat} {t : TypeId} {l : List Value}
theorem take_set {α : Type} {l : List α} {o : Nat} (v : α) (h : o < l.length) : (l.set o v).take (o + 1) = l.take o ++ [v] := by
 apply List.ext_getElem
 ·simp; omega
 ·intro i h1 h2
  simp only [List.getElem_take, List.getElem_set, List.getElem_append, List.length_take]
  by_cases e : o = i
  ·subst e
   rw [dif_neg (by omega)]; simp
  ·rw [if_neg e, dif_pos (by simp at h1; omega)]
theorem Row.setMany : ∀ (vs : List Value) (o : Nat) {w : World} {l : List Value}, Row w g t l → o + vs.length ≤ l.length → Row (w.setCells g o vs) g t (l.take o ++ vs ++ l.drop (o + vs.length))
 |[], o, w, l, h, ho => by simpa [World.setCells] using h
 |v :: r, o, w, l, h, ho => by
  have hlen : o + (r.length + 1) ≤ l.length := by simpa using ho
  have h1 := Row.setMany r (o + 1) (h.set o v) (by rw [List.length_set]; omega)
  rw [take_set v (by omega), List.drop_set_of_lt (by omega)] at h1
  rw [World.setCells, List.length_cons, show o + (r.length + 1) = o + 1 + r.length by omega]
  simpa using h1
theorem Row.setAll (h : Row w g t l) {vs : List Value} (hl : vs.length = l.length) : Row (w.setCells g 0 vs) g t vs := by
 have := h.setMany vs 0 (by omega)
 rwa [List.take_zero, List.nil_append, List.drop_eq_nil_of_le (by omega), List.append_nil] at this
theorem heap_setCells_far : ∀ (vs : List Value) (o g' : Nat) (w : World) {k : Nat}, k ≠ g' → (w.setCells g' o vs).heap[k]? = w.heap[k]?
 |[], _, _, _, _, _ => rfl
 |v :: r, o, g', w, k, h => by
  rw [World.setCells, heap_setCells_far r (o + 1) g' _ h]
  exact Below.heap_setCell w _ v k h
theorem Row.farMany (h : Row w g t l) {g' : Nat} (hg : g ≠ g') (o : Nat) (vs : List Value) : Row (w.setCells g' o vs) g t l := (heap_setCells_far vs o g' w hg).trans h
theorem below_setCells {B : Nat} {a : World} : ∀ (vs : List Value) (o : Nat) {w : World}, Below B a w → B ≤ g → Below B a (w.setCells g o vs)
 |[], _, _, h, _ => h
 |v :: r, o, w, h, hg => below_setCells r (o + 1) (h.setCell (p := ⟨g, o, none⟩) hg v) hg
theorem Row.range (h : Row w g t l) (o n : Nat) : w.rangeAt g o ((l.drop o).take n) := fun j v hj => by
 have hj' := (List.getElem?_eq_some_iff.1 hj).1
 rw [h.cell]
 rw [List.getElem?_take_of_lt (by simp at hj'; omega), List.getElem?_drop] at hj
 exact hj
theorem Row.there (h : Row w g t l) {o n : Nat} (hn : o + n ≤ l.length) : w.there g o n := fun j hj => by
 rw [h.cell, List.getElem?_eq_getElem (by omega)]
 exact ⟨rfl, h.frozen _⟩
theorem Row.whole (h : Row w g t l) : w.rangeAt g 0 l := by
 have := h.range 0 l.length
 rwa [List.drop_zero, List.take_length] at this
end
section
variable {P : Program}
theorem results_cell {fn : Func} {p : Tmp} {ty : TypeId} (h : fn.results = #[.cell p ty]) (tmps : Array Value) {ad : Addr} (hp : tmps.getD p undef = .pointer (some ad)) {v : Value} {w : World}
  (hl : (loadVar ty ad).run P w = .ok v w) : (results fn tmps).run P w = .ok v w := by
 rw [Array.getD_eq_getD_getElem?] at hp
 simp only [results, h]
 simp [hp, asAddr, hl]
end
theorem results_cell_one {P : Program} {fn : Func} {p q : Tmp} {ty : TypeId} (h : fn.results = #[.cell p ty, .tmp q]) (tmps : Array Value) {ad : Addr} (hp : tmps.getD p undef = .pointer (some ad)) {v u : Value} {w : World}
  (hq : tmps.getD q undef = u) (hl : (loadVar ty ad).run P w = .ok v w) : (results fn tmps).run P w = .ok (.tuple #[v, u]) w := by
 rw [Array.getD_eq_getD_getElem?] at hp hq
 simp only [results, h]
 simp [hp, hq, asAddr, hl]
theorem row_new2 (w : World) (o : Obj) (t : TypeId) (l : List Value) : Row ((w.alloc o).alloc (.cells l.toArray t)) (w.heap.size + 1) t l := by
 have := Row.new (w.alloc o) t l
 simpa using this
end Go.Proofs.YtiiimhamfibdbaaGreat
/- Slices that came in: their elements' cells as a list. Of any program. -/
namespace Go.Proofs.YtiiimhamfibdbaaGreat
open Go.RowKit Go.ChangeShapes Go.WideShapes Go.Deep
set_option linter.unusedVariables false
def Came (w : World) (oa : Option Addr) (l : List Value) : Prop :=
 ∀ j u, l[j]? = some u → ∃ a, oa = some a ∧ w.cell? (a.add j) = some u
theorem Came.nil (w : World) (oa : Option Addr) : Came w oa [] := by intro j u h; simp at h
theorem Came.lt {w : World} {oa : Option Addr} {l : List Value} (h : Came w oa l) {j : Nat} {u : Value} (hj : l[j]? = some u) : ∃ a, oa = some a ∧ w.cell? (a.add j) = some u ∧ a.block < w.heap.size := by
 obtain ⟨a, rfl, hc⟩ := h j u hj
 refine ⟨a, rfl, hc, ?_⟩
 have e : (a.add j).block = a.block := by unfold Addr.add; split <;> rfl
 rw [← e]
 rcases Nat.lt_or_ge (a.add j).block w.heap.size with h1 | h1
 ·exact h1
 ·exfalso
  unfold World.cell? at hc
  rw [Array.getElem?_eq_none h1] at hc
  simp at hc
theorem Came.below {w w' : World} {oa : Option Addr} {l : List Value} (h : Came w oa l) (hb : Below w.heap.size w w') : Came w' oa l := by
 intro j u hj
 obtain ⟨a, h1, h2, h3⟩ := h.lt hj
 refine ⟨a, h1, ?_⟩
 have e : (a.add j).block = a.block := by unfold Addr.add; split <;> rfl
 rw [hb.cell (by rw [e]; exact h3)]; exact h2
theorem Came.first {w : World} {oa : Option Addr} {l : List Value} (h : Came w oa l) (hl : 0 < l.length) : ∃ a, oa = some a ∧ a.block < w.heap.size ∧ ∀ j u, l[j]? = some u → w.cell? (a.add j) = some u := by
 obtain ⟨a, h1, h2, h3⟩ := h.lt (j := 0) (List.getElem?_eq_getElem hl)
 refine ⟨a, h1, h3, fun j u hj => ?_⟩
 obtain ⟨b, h4, h5⟩ := h j u hj
 rw [h1] at h4; cases h4; exact h5
def ivs (k : IntKind) (l : List Int) : List Value := l.map fun x : Int => Value.int k x
def svs (l : List ByteArray) : List Value := l.map Value.string
def InI (x : Int) : Prop := -9223372036854775808 ≤ x ∧ x ≤ 9223372036854775807
def inK : IntKind → Int → Prop
 |.u8, x => 0 ≤ x ∧ x ≤ 255
 |.u32, x => 0 ≤ x ∧ x ≤ 4294967295
 |.u64, x => 0 ≤ x ∧ x ≤ 18446744073709551615
 |.i64, x => InI x
 |_, _ => True
theorem inK_of {k : IntKind} {x : Int} (h : (Lit.int k x).wf = true) : inK k x := by
 simp only [Lit.wf, Bool.and_eq_true, decide_eq_true_eq] at h
 cases k <;> first | trivial | (simp [IntKind.min, IntKind.max, IntKind.signed, IntKind.bits] at h; simp only [inK, InI]; omega)
section
variable {H : Type} {enc : TypeId × Value → H} {P : Program} {w : World} {base : Nat} {spare : Nat → Bool} {held : Bool}
theorem came_ints {t e : TypeId} {k : IntKind} {a : Option Addr} {len cap : Nat} {d : DataW H} {p : List MemPlace} (ht : P.underlying t = some (.slice e)) (he : P.underlying e = some (.int k)) (hc : P.cellsOf e = 1)
  (h : DataW.Trod enc P w base spare held t (.slice a len cap) d p) : ∃ l : List Int, l.length = len ∧ len ≤ cap ∧ cap ≤ maxLen ∧ Came w a (ivs k l) ∧ ∀ x ∈ l, inK k x := by
 obtain ⟨fuel, hf⟩ := h
 rcases open_ints ht he hc hf with ⟨hcs, _⟩ | ⟨x, l, c, zs, hcs, _, hl, hm, hz, _, hcell, hwz⟩
 ·simp [Value.cells] at hcs
  obtain ⟨rfl, rfl, rfl⟩ := hcs
  exact ⟨[], rfl, Nat.le_refl _, Nat.zero_le _, Came.nil _ _, by simp⟩
 ·simp [Value.cells] at hcs
  obtain ⟨rfl, rfl, rfl⟩ := hcs
  have hlz : len ≤ zs.length := by rw [hz]; split <;> omega
  refine ⟨zs.take len, by simp [hlz], hl, hm, fun j u hj => ⟨x, rfl, ?_⟩, fun y hy => inK_of (hwz y (List.mem_of_mem_take hy))⟩
  have hj' := (List.getElem?_eq_some_iff.1 hj).1
  simp [ivs] at hj'
  have hjl : j < zs.length := by omega
  rw [hcell j hjl]
  simp [ivs, List.getElem?_take_of_lt (show j < len by omega), hjl] at hj
  rw [← hj]; simp [hjl]
end
end Go.Proofs.YtiiimhamfibdbaaGreat
/- A region that draws its order, whose first operation only moves a slot that a later append wants (so that it may come up at any time), whose other operations read or call quietly, and which ends in a forced tail. Of any program. -/
namespace Go.Proofs.YtiiimhamfibdbaaGreat
open Go
section
variable {P : Program} {ops : Array Oper} {md : Region.Mode} {w : World}
end
end Go.Proofs.YtiiimhamfibdbaaGreat
