/- Plain facts on words: bitwise operations, rotations, big-endian bytes. They hold of numbers alone, under no condition on the program. -/
import Derived.WalkKit
import Derived.PlainAid
import Derived.Laws.BytesArg
import Derived.Below
import Derived.Lib.Hide
import Derived.Deep.QuietTactic
import Derived.Test.YtiiimhamfibdbaaChecked
import Derived.WalkSpells
import Derived.Laws.AppendOwn
import Derived.Laws.OwnMore
import Derived.Deep.MidRow
import Derived.Lib.SlBuf
import Derived.Deep.Strs
import Derived.Deep.SlicePairs
import Derived.ChangeSlices
import Derived.StillTail
import Derived.StillTailTactics
namespace Go.Proofs.Ytiiimhamfibdbaa
open Go.PlainAid
theorem ofInt_toNat32 {a : Int} (h0 : 0 ≤ a) (h1 : a ≤ 4294967295) : (BitVec.ofInt 32 a).toNat = a.toNat := by
 obtain ⟨n, rfl⟩ := Int.eq_ofNat_of_zero_le h0
 rw [BitVec.ofInt_natCast, BitVec.toNat_ofNat]
 simp; omega
theorem ofInt_toNat64 {a : Int} (h0 : 0 ≤ a) (h1 : a ≤ 18446744073709551615) : (BitVec.ofInt 64 a).toNat = a.toNat := by
 obtain ⟨n, rfl⟩ := Int.eq_ofNat_of_zero_le h0
 rw [BitVec.ofInt_natCast, BitVec.toNat_ofNat]
 simp; omega
theorem bits_or32 (a b : Int) : bits .or .u32 a b = ((BitVec.ofInt 32 a ||| BitVec.ofInt 32 b).toNat : Int) := by
 show IntKind.u32.wrap ((BitVec.ofInt 32 a ||| BitVec.ofInt 32 b).toNat : Int) = _
 rw [IntKind.wrap_u32]
 have := (BitVec.ofInt 32 a ||| BitVec.ofInt 32 b).isLt
 omega
theorem bits_or64 (a b : Int) : bits .or .u64 a b = ((BitVec.ofInt 64 a ||| BitVec.ofInt 64 b).toNat : Int) := by
 show IntKind.u64.wrap ((BitVec.ofInt 64 a ||| BitVec.ofInt 64 b).toNat : Int) = _
 rw [IntKind.wrap_u64]
 have := (BitVec.ofInt 64 a ||| BitVec.ofInt 64 b).isLt
 omega
theorem nat_or_add (a b i : Nat) (h : b < 2 ^ i) : a * 2 ^ i ||| b = a * 2 ^ i + b := by
 rw [← Nat.shiftLeft_eq, Nat.shiftLeft_add_eq_or_of_lt h]
theorem or32_add (a b : Int) (i : Nat) (ha : 0 ≤ a) (hb : 0 ≤ b) (hb' : b < 2 ^ i) (h : a * 2 ^ i + b ≤ 4294967295) : bits .or .u32 (a * 2 ^ i) b = a * 2 ^ i + b := by
  obtain ⟨x, rfl⟩ := Int.eq_ofNat_of_zero_le ha
  obtain ⟨y, rfl⟩ := Int.eq_ofNat_of_zero_le hb
  have e : ((x : Int) * 2 ^ i) = ((x * 2 ^ i : Nat) : Int) := by simp
  have hy : y < 2 ^ i := by have : ((y : Int)) < ((2 ^ i : Nat) : Int) := by simpa using hb'
                            omega
  rw [e] at h ⊢
  rw [bits_or32, BitVec.toNat_or, ofInt_toNat32 (by omega) (by omega), ofInt_toNat32 (by omega) (by omega)]
  simp only [Int.toNat_natCast]
  rw [nat_or_add _ _ _ hy]
  simp
theorem or64_add (a b : Int) (i : Nat) (ha : 0 ≤ a) (hb : 0 ≤ b) (hb' : b < 2 ^ i) (h : a * 2 ^ i + b ≤ 18446744073709551615) : bits .or .u64 (a * 2 ^ i) b = a * 2 ^ i + b := by
  obtain ⟨x, rfl⟩ := Int.eq_ofNat_of_zero_le ha
  obtain ⟨y, rfl⟩ := Int.eq_ofNat_of_zero_le hb
  have e : ((x : Int) * 2 ^ i) = ((x * 2 ^ i : Nat) : Int) := by simp
  have hy : y < 2 ^ i := by have : ((y : Int)) < ((2 ^ i : Nat) : Int) := by simpa using hb'
                            omega
  rw [e] at h ⊢
  rw [bits_or64, BitVec.toNat_or, ofInt_toNat64 (by omega) (by omega), ofInt_toNat64 (by omega) (by omega)]
  simp only [Int.toNat_natCast]
  rw [nat_or_add _ _ _ hy]
  simp

/-! ### Rotations -/
/-! ### Bytes of a number, the highest first -/
theorem strOfNums_append (a b : List Int) : strOfNums (a ++ b) = strOfNums a ++ strOfNums b := by
 apply ByteArray.ext
 simp [strOfNums, ByteArray.data_append]
theorem strOfNums_at (l : List Int) (k : Nat) (b : Int) (h : l[k]? = some b) (h0 : 0 ≤ b) (h1 : b ≤ 255) : bt (strOfNums l) k = b := by
 have hk := (List.getElem?_eq_some_iff.1 h).1
 have hv := (List.getElem?_eq_some_iff.1 h).2
 have hs : k < (strOfNums l).size := by rw [strOfNums_size]; exact hk
 rw [← get_bt _ _ hs]
 have : (strOfNums l)[k] = UInt8.ofNat b.toNat := by
  show (strOfNums l).data[k] = _
  simp [strOfNums, hv]
 rw [this]
 simp; omega
theorem bt_extract {s : ByteArray} {a b k : Nat} (hb : b ≤ s.size) (h : k < b - a) : bt (s.extract a b) k = bt s (a + k) := by
 have h1 : k < (s.extract a b).size := by rw [ByteArray.size_extract]; omega
 rw [← get_bt _ _ h1, ← get_bt _ _ (show a + k < s.size by omega), show (s.extract a b)[k]'h1 = s[a + k]'(by omega) from ByteArray.getElem_extract h1]
end Go.Proofs.Ytiiimhamfibdbaa
/- A text's bytes as a list of numbers. They hold of texts alone, under no condition on the program. -/
namespace Go.Proofs.Ytiiimhamfibdbaa
open Go.PlainAid
set_option linter.unusedVariables false
def bl (s : ByteArray) : List Int := s.data.toList.map fun u => (u.toNat : Int)
def IsB (l : List Int) : Prop := ∀ x ∈ l, 0 ≤ x ∧ x ≤ 255
theorem bl_length (s : ByteArray) : (bl s).length = s.size := by rw [bl, List.length_map]; rfl
theorem bl_at (s : ByteArray) (i : Nat) (h : i < s.size) : (bl s)[i]? = some (bt s i) := by
 have h2 : i < s.data.toList.length := h
 unfold bl bt
 rw [List.getElem?_map, List.getElem?_eq_getElem h2, dif_pos h]
 rfl
theorem bl_get (s : ByteArray) (i : Nat) (h : i < (bl s).length) : (bl s)[i] = bt s i := by
 have := bl_at s i (by rw [bl_length] at h; exact h)
 rw [List.getElem?_eq_getElem h] at this
 exact Option.some.inj this
theorem bl_isB (s : ByteArray) : IsB (bl s) := by
 intro x hx
 obtain ⟨u, _, rfl⟩ := List.mem_map.1 hx
 have := u.toNat_lt
 omega
theorem bl_drop (s : ByteArray) (i : Nat) (h : i < s.size) : (bl s).drop i = bt s i :: (bl s).drop (i + 1) := by
 have hl : i < (bl s).length := by rw [bl_length]; exact h
 rw [List.drop_eq_getElem_cons hl, bl_get]
theorem bl_drop_end (s : ByteArray) (i : Nat) (h : s.size ≤ i) : (bl s).drop i = [] := List.drop_eq_nil_of_le (by rw [bl_length]; exact h)
theorem bl_extract (s : ByteArray) (a b : Nat) (hb : b ≤ s.size) : bl (s.extract a b) = ((bl s).drop a).take (b - a) := by
 apply List.ext_getElem?
 intro i
 by_cases hi : i < b - a
 ·rw [bl_at _ _ (by rw [ByteArray.size_extract]; omega), bt_extract hb hi, List.getElem?_take_of_lt hi, List.getElem?_drop, bl_at _ _ (by omega)]
 ·rw [List.getElem?_eq_none (by rw [bl_length, ByteArray.size_extract]; omega), List.getElem?_eq_none (by simp; omega)]
theorem bl_str {l : List Int} (h : IsB l) : bl (strOfNums l) = l := by
 apply List.ext_getElem?
 intro i
 by_cases hi : i < l.length
 ·have hm := h l[i] (List.getElem_mem hi)
  rw [bl_at _ _ (by rw [strOfNums_size]; exact hi), strOfNums_at l i l[i] (List.getElem?_eq_getElem hi) hm.1 hm.2, List.getElem?_eq_getElem hi]
 ·rw [List.getElem?_eq_none (by rw [bl_length, strOfNums_size]; omega), List.getElem?_eq_none (by omega)]
theorem IsB.append {l m : List Int} (h : IsB l) (k : IsB m) : IsB (l ++ m) := by
 intro x hx
 rcases List.mem_append.1 hx with h1 | h1
 ·exact h x h1
 ·exact k x h1
theorem IsB.cons {x : Int} {l : List Int} (h0 : 0 ≤ x) (h1 : x ≤ 255) (h : IsB l) : IsB (x :: l) := by
 intro y hy
 rcases List.mem_cons.1 hy with rfl | hy
 ·exact ⟨h0, h1⟩
 ·exact h y hy
theorem IsB.nil : IsB [] := by intro x hx; cases hx
theorem IsB.head {x : Int} {l : List Int} (h : IsB (x :: l)) : 0 ≤ x ∧ x ≤ 255 := h x (List.mem_cons_self ..)
theorem IsB.tail {x : Int} {l : List Int} (h : IsB (x :: l)) : IsB l := fun y hy => h y (List.mem_cons_of_mem _ hy)
theorem IsB.drop {l : List Int} (h : IsB l) (n : Nat) : IsB (l.drop n) := fun y hy => h y (List.mem_of_mem_drop hy)
theorem IsB.take {l : List Int} (h : IsB l) (n : Nat) : IsB (l.take n) := fun y hy => h y (List.mem_of_mem_take hy)

/-! ### An or of disjoint parts, in a byte and in an int -/
theorem ofInt_toNat8 {a : Int} (h0 : 0 ≤ a) (h1 : a ≤ 255) : (BitVec.ofInt 8 a).toNat = a.toNat := by
 obtain ⟨n, rfl⟩ := Int.eq_ofNat_of_zero_le h0
 rw [BitVec.ofInt_natCast, BitVec.toNat_ofNat]
 simp; omega
theorem bits_or8 (a b : Int) : bits .or .u8 a b = ((BitVec.ofInt 8 a ||| BitVec.ofInt 8 b).toNat : Int) := by
 show IntKind.u8.wrap ((BitVec.ofInt 8 a ||| BitVec.ofInt 8 b).toNat : Int) = _
 rw [IntKind.wrap_u8]
 have := (BitVec.ofInt 8 a ||| BitVec.ofInt 8 b).isLt
 omega
theorem or8_add (a b : Int) (i : Nat) (ha : 0 ≤ a) (hb : 0 ≤ b) (hb' : b < 2 ^ i) (h : a * 2 ^ i + b ≤ 255) : bits .or .u8 (a * 2 ^ i) b = a * 2 ^ i + b := by
  obtain ⟨x, rfl⟩ := Int.eq_ofNat_of_zero_le ha
  obtain ⟨y, rfl⟩ := Int.eq_ofNat_of_zero_le hb
  have e : ((x : Int) * 2 ^ i) = ((x * 2 ^ i : Nat) : Int) := by simp
  have hy : y < 2 ^ i := by have : ((y : Int)) < ((2 ^ i : Nat) : Int) := by simpa using hb'
                            omega
  rw [e] at h ⊢
  rw [bits_or8, BitVec.toNat_or, ofInt_toNat8 (by omega) (by omega), ofInt_toNat8 (by omega) (by omega)]
  simp only [Int.toNat_natCast]
  rw [nat_or_add _ _ _ hy]
  simp
theorem bits_ori (a b : Int) : bits .or .i64 a b = IntKind.i64.wrap ((BitVec.ofInt 64 a ||| BitVec.ofInt 64 b).toNat : Int) := rfl
theorem ori_add (a b : Int) (i : Nat) (ha : 0 ≤ a) (hb : 0 ≤ b) (hb' : b < 2 ^ i) (h : a * 2 ^ i + b ≤ 9223372036854775807) : bits .or .i64 (a * 2 ^ i) b = a * 2 ^ i + b := by
  obtain ⟨x, rfl⟩ := Int.eq_ofNat_of_zero_le ha
  obtain ⟨y, rfl⟩ := Int.eq_ofNat_of_zero_le hb
  have e : ((x : Int) * 2 ^ i) = ((x * 2 ^ i : Nat) : Int) := by simp
  have hy : y < 2 ^ i := by have : ((y : Int)) < ((2 ^ i : Nat) : Int) := by simpa using hb'
                            omega
  rw [e] at h ⊢
  rw [bits_ori, BitVec.toNat_or, ofInt_toNat64 (by omega) (by omega), ofInt_toNat64 (by omega) (by omega)]
  simp only [Int.toNat_natCast]
  rw [nat_or_add _ _ _ hy, IntKind.wrap_i64]
  omega
theorem ori_7 (a b : Int) (ha : 0 ≤ a) (h0 : 0 ≤ b) (h1 : b < 128) (h : a * 128 + b ≤ 9223372036854775807) : bits .or .i64 (a * 128) b = a * 128 + b := ori_add a b 7 ha h0 h1 h
/-! ### The lower bits, and a bit -/
theorem bits_and8 (a b : Int) : bits .and .u8 a b = ((BitVec.ofInt 8 a &&& BitVec.ofInt 8 b).toNat : Int) := by
 show IntKind.u8.wrap ((BitVec.ofInt 8 a &&& BitVec.ofInt 8 b).toNat : Int) = _
 rw [IntKind.wrap_u8]
 have := (BitVec.ofInt 8 a &&& BitVec.ofInt 8 b).isLt
 omega
theorem and8_low (a : Int) (i : Nat) (h0 : 0 ≤ a) (h1 : a ≤ 255) (hi : i ≤ 8) : bits .and .u8 a (2 ^ i - 1) = a % 2 ^ i := by
 obtain ⟨x, rfl⟩ := Int.eq_ofNat_of_zero_le h0
 have hp : 2 ^ i ≤ 2 ^ 8 := Nat.pow_le_pow_right (by decide) hi
 have hq : 0 < 2 ^ i := Nat.pow_pos (by decide)
 have e : ((2 : Int) ^ i - 1) = ((2 ^ i - 1 : Nat) : Int) := by rw [Int.ofNat_sub hq]; simp
 rw [e, bits_and8, BitVec.toNat_and, ofInt_toNat8 (by omega) (by omega), ofInt_toNat8 (by omega) (by omega), Int.toNat_natCast, Int.toNat_natCast, Nat.and_two_pow_sub_one_eq_mod]
 simp
theorem and8_31 (a : Int) (h0 : 0 ≤ a) (h1 : a ≤ 255) : bits .and .u8 a 31 = a % 32 := and8_low a 5 h0 h1 (by decide)
theorem and8_127 (a : Int) (h0 : 0 ≤ a) (h1 : a ≤ 255) : bits .and .u8 a 127 = a % 128 := and8_low a 7 h0 h1 (by decide)
theorem and8_32all : ∀ x : Fin 256, bits .and .u8 (x.val : Int) 32 = (x.val : Int) / 32 % 2 * 32 := by decide +kernel
theorem and8_32 (a : Int) (h0 : 0 ≤ a) (h1 : a ≤ 255) : bits .and .u8 a 32 = a / 32 % 2 * 32 := by
 have := and8_32all ⟨a.toNat, by omega⟩
 simp only [Int.toNat_of_nonneg h0] at this
 exact this
end Go.Proofs.Ytiiimhamfibdbaa
/- Words for memory: a slice of the call's own blocks that holds a list; what is laid, stored, appended keeps of it. They hold of any program. -/
namespace Go.Proofs.Ytiiimhamfibdbaa
open Go.RowKit
def Row (w : World) (g : Nat) (t : TypeId) (l : List Value) : Prop := w.heap[g]? = some (.cells l.toArray t (0, 0))
section
variable {w w' : World} {g : Nat} {t : TypeId} {l : List Value}
theorem Row.lt (h : Row w g t l) : g < w.heap.size := by
 unfold Row at h
 rcases Nat.lt_or_ge g w.heap.size with h1 | h1
 ·exact h1
 ·rw [Array.getElem?_eq_none h1] at h; cases h
theorem Row.cell (h : Row w g t l) (i : Nat) : w.cell? ⟨g, i, none⟩ = l[i]? := by
 rw [cell_of_row w g i l.toArray t (0, 0) h]; simp
theorem Row.frozen (h : Row w g t l) (i : Nat) : w.frozen? ⟨g, i, none⟩ = false := by
 unfold Row at h
 simp [World.frozen?, h]
theorem Row.new (w : World) (t : TypeId) (l : List Value) : Row (w.alloc (.cells l.toArray t)) w.heap.size t l := heap_alloc_new w _
theorem Row.alloc (h : Row w g t l) (o : Obj) : Row (w.alloc o) g t l := (Below.heap_alloc w o g h.lt).trans h
theorem Row.set (h : Row w g t l) (i : Nat) (u : Value) : Row (w.setCell ⟨g, i, none⟩ u) g t (l.set i u) := by
 unfold Row
 rw [heap_setCell_same w g i l.toArray t u h]; simp
theorem Row.far (h : Row w g t l) {p : Addr} (hp : g ≠ p.block) (u : Value) : Row (w.setCell p u) g t l := (Below.heap_setCell w p u g hp).trans h
theorem Row.below {B : Nat} (h : Row w g t l) (hb : Below B w w') (hg : g < B) : Row w' g t l := (hb.block g hg).trans h
theorem Row.grown {row : Option Nat} (h : Row w g t l) (hb : w.grownBy w' row) (hg : some g ≠ row) : Row w' g t l := (hb.block g h.lt hg).trans h

end
section
variable {P : Program}
end
end Go.Proofs.Ytiiimhamfibdbaa
/- What a call does to memory when it may write into one block alone ('grownBy' of it): the steps put together. Of any program. -/
namespace Go.Proofs.Ytiiimhamfibdbaa
open Go.RowKit
end Go.Proofs.Ytiiimhamfibdbaa
/- Slices of bytes of a call's own: one byte appended, and the text that they make. Of any slice from a block's head on. -/
namespace Go.Proofs.Ytiiimhamfibdbaa
open Go.RowKit Go.PlainAid
set_option linter.unusedVariables false
theorem rets1 {a c : Value} (h : a = c) : Ending.returned a = .returned c := by rw [h]
theorem rets2 {a b c d : Value} (h : a = c) (h' : b = d) : Ending.returned (.tuple #[a, b]) = .returned (.tuple #[c, d]) := by rw [h, h']
theorem rets3 {a b c d e f : Value} (h : a = d) (h' : b = e) (h'' : c = f) : Ending.returned (.tuple #[a, b, c]) = .returned (.tuple #[d, e, f]) := by rw [h, h', h'']
theorem conv_at (x : Int) (W : World) (g : Nat) (h : W.cell? ⟨g, 0, none⟩ = some (.int .u8 x)) : (convert 80 9 (.slice (some ⟨g, 0, none⟩) 1 1)).run Try.prog W = .ok (.string (strOfNums [x])) W :=
 run_convert_bytes_arg (P := Try.prog) W 80 5 Try.underlying80 Try.underlying5 g 0 1 1 [x] rfl (fun i hi => by
  match i, hi with
  |0, _ => simpa using h) 9 Try.underlying9
end Go.Proofs.Ytiiimhamfibdbaa
/- What a call does to memory when it may write into some blocks alone: the blocks F. Of any program. -/
namespace Go.Proofs.Ytiiimhamfibdbaa
open Go.RowKit
set_option linter.unusedVariables false
structure Chg (F : Nat → Prop) (w w' : World) : Prop where
 os : w'.os = w.os
 tape : w'.tape = w.tape
 output : w'.output = w.output
 size : w.heap.size ≤ w'.heap.size
 block : ∀ i, i < w.heap.size → ¬ F i → w'.heap[i]? = w.heap[i]?
theorem Chg.to_below {F : Nat → Prop} {a w w' : World} (h : Below a.heap.size a w) (hc : Chg F w w') (hF : ∀ i, F i → a.heap.size ≤ i) : Below a.heap.size a w' :=
 ⟨hc.os.trans h.os, hc.tape.trans h.tape, hc.output.trans h.output, Nat.le_trans h.size hc.size, fun i hi => (hc.block i (Nat.lt_of_lt_of_le hi h.size) (fun f => by have := hF i f; omega)).trans (h.block i hi)⟩
theorem Row.chg {F : Nat → Prop} {w w' : World} {g : Nat} {t : TypeId} {l : List Value} (h : Row w g t l) (hc : Chg F w w') (hg : ¬ F g) : Row w' g t l := (hc.block g h.lt hg).trans h
theorem Chg.of_below {F : Nat → Prop} {w w' : World} (h : Below w.heap.size w w') : Chg F w w' := ⟨h.os, h.tape, h.output, h.size, fun i hi _ => h.block i hi⟩
theorem Chg.trans {F F' : Nat → Prop} {a w w' : World} (h : Chg F a w) (k : Chg F' w w') (hF : ∀ i, F' i → F i ∨ a.heap.size ≤ i) : Chg F a w' :=
 ⟨k.os.trans h.os, k.tape.trans h.tape, k.output.trans h.output, Nat.le_trans h.size k.size, fun i hi hn => (k.block i (Nat.lt_of_lt_of_le hi h.size) (fun f => by rcases hF i f with q | q; exact hn q; omega)).trans (h.block i hi hn)⟩
end Go.Proofs.Ytiiimhamfibdbaa
/- Slices of a call's own, of elements of any size: what keeps them. Of any program. -/
namespace Go.Proofs.Ytiiimhamfibdbaa
open Go.RowKit
set_option linter.unusedVariables false
section
variable {w w' : World} {base : Nat} {e : TypeId} {size : Nat} {v : Value} {n : Nat} {xs : List Value}
theorem own_keep (h : w.ownsRow base e size v n xs) (hb : ∀ i, i < w.heap.size → base ≤ i → w'.heap[i]? = w.heap[i]?) : w'.ownsRow base e size v n xs := by
 obtain ⟨hl, h1 | ⟨g, cap, cur, hv, hg, hh, hn, hc, hs, ht⟩⟩ := h
 ·exact ⟨hl, .inl h1⟩
 ·refine ⟨hl, .inr ⟨g, cap, cur, hv, hg, ?_, hn, hc, hs, ht⟩⟩
  have hlt : g < w.heap.size := by
   rcases Nat.lt_or_ge g w.heap.size with h1 | h1
   ·exact h1
   ·rw [Array.getElem?_eq_none h1] at hh; cases hh
  rw [hb g hlt hg]; exact hh
theorem own_chg {F : Nat → Prop} (h : w.ownsRow base e size v n xs) (hc : Chg F w w') (hF : ∀ i, F i → i < base) : w'.ownsRow base e size v n xs :=
 own_keep h (fun i h1 h2 => hc.block i h1 (fun f => by have := hF i f; omega))
theorem own_below (h : w.ownsRow base e size v n xs) (hb : Below w.heap.size w w') : w'.ownsRow base e size v n xs :=
 own_keep h (fun i h1 _ => hb.block i h1)
theorem own_shape (h : w.ownsRow base e size v n xs) : (v = .slice none 0 0 ∧ n = 0) ∨ ∃ g c, v = .slice (some ⟨g, 0, none⟩) n c ∧ n ≤ c ∧ c ≤ maxLen ∧ base ≤ g ∧ g < w.heap.size := by
 obtain ⟨hl, h1 | ⟨g, cap, cur, hv, hg, hh, hn, hc, hs, ht⟩⟩ := h
 ·exact .inl h1
 ·refine .inr ⟨g, cap, hv, hn, hc, hg, ?_⟩
  rcases Nat.lt_or_ge g w.heap.size with h1 | h1
  ·exact h1
  ·rw [Array.getElem?_eq_none h1] at hh; cases hh
end
end Go.Proofs.Ytiiimhamfibdbaa
/- Words for memory, for arrays and structs in one block: many cells read or stored at once. They hold of any program. -/
namespace Go.Proofs.Ytiiimhamfibdbaa
open Go.RowKit Go.PlainAid
set_option linter.unusedVariables false
section
variable {w w' : World} {g : Nat} {t : TypeId} {l : List Value}
theorem take_set {α : Type} {l : List α} {o : Nat} (v : α) (h : o < l.length) : (l.set o v).take (o + 1) = l.take o ++ [v] := by
 apply List.ext_getElem
 ·simp; omega
 ·intro i h1 h2
  simp only [List.getElem_take, List.getElem_set, List.getElem_append, List.length_take]
  by_cases e : o = i
  ·subst e
   rw [dif_neg (by omega)]; simp
  ·rw [if_neg e, dif_pos (by simp at h1; omega)]
theorem Row.setMany : ∀ (vs : List Value) (o : Nat) {w : World} {l : List Value}, Row w g t l → o + vs.length ≤ l.length → Row (w.setCells g o vs) g t (l.take o ++ vs ++ l.drop (o + vs.length))
 |[], o, w, l, h, ho => by simpa [World.setCells] using h
 |v :: r, o, w, l, h, ho => by
  have hlen : o + (r.length + 1) ≤ l.length := by simpa using ho
  have h1 := Row.setMany r (o + 1) (h.set o v) (by rw [List.length_set]; omega)
  rw [take_set v (by omega), List.drop_set_of_lt (by omega)] at h1
  rw [World.setCells, List.length_cons, show o + (r.length + 1) = o + 1 + r.length by omega]
  simpa using h1
theorem Row.setAll (h : Row w g t l) {vs : List Value} (hl : vs.length = l.length) : Row (w.setCells g 0 vs) g t vs := by
 have := h.setMany vs 0 (by omega)
 rwa [List.take_zero, List.nil_append, List.drop_eq_nil_of_le (by omega), List.append_nil] at this
theorem below_setCells {B : Nat} {a : World} : ∀ (vs : List Value) (o : Nat) {w : World}, Below B a w → B ≤ g → Below B a (w.setCells g o vs)
 |[], _, _, h, _ => h
 |v :: r, o, w, h, hg => below_setCells r (o + 1) (h.setCell (p := ⟨g, o, none⟩) hg v) hg
theorem Row.range (h : Row w g t l) (o n : Nat) : w.rangeAt g o ((l.drop o).take n) := fun j v hj => by
 have hj' := (List.getElem?_eq_some_iff.1 hj).1
 rw [h.cell]
 rw [List.getElem?_take_of_lt (by simp at hj'; omega), List.getElem?_drop] at hj
 exact hj
theorem Row.there (h : Row w g t l) {o n : Nat} (hn : o + n ≤ l.length) : w.there g o n := fun j hj => by
 rw [h.cell, List.getElem?_eq_getElem (by omega)]
 exact ⟨rfl, h.frozen _⟩
theorem Row.whole (h : Row w g t l) : w.rangeAt g 0 l := by
 have := h.range 0 l.length
 rwa [List.drop_zero, List.take_length] at this
end
section
variable {P : Program}
theorem results_cell {fn : Func} {p : Tmp} {ty : TypeId} (h : fn.results = #[.cell p ty]) (tmps : Array Value) {ad : Addr} (hp : tmps.getD p undef = .pointer (some ad)) {v : Value} {w : World}
  (hl : (loadVar ty ad).run P w = .ok v w) : (results fn tmps).run P w = .ok v w := by
 rw [Array.getD_eq_getD_getElem?] at hp
 simp only [results, h]
 simp [hp, asAddr, hl]
end
theorem results_cell_one {P : Program} {fn : Func} {p q : Tmp} {ty : TypeId} (h : fn.results = #[.cell p ty, .tmp q]) (tmps : Array Value) {ad : Addr} (hp : tmps.getD p undef = .pointer (some ad)) {v u : Value} {w : World}
  (hq : tmps.getD q undef = u) (hl : (loadVar ty ad).run P w = .ok v w) : (results fn tmps).run P w = .ok (.tuple #[v, u]) w := by
 rw [Array.getD_eq_getD_getElem?] at hp hq
 simp only [results, h]
 simp [hp, hq, asAddr, hl]
theorem row_new2 (w : World) (o : Obj) (t : TypeId) (l : List Value) : Row ((w.alloc o).alloc (.cells l.toArray t)) (w.heap.size + 1) t l := by
 have := Row.new (w.alloc o) t l
 simpa using this
end Go.Proofs.Ytiiimhamfibdbaa
/- Slices that came in: their elements' cells as a list. Of any program. -/
namespace Go.Proofs.Ytiiimhamfibdbaa
open Go.RowKit Go.ChangeShapes Go.WideShapes Go.Deep
set_option linter.unusedVariables false
def Came (w : World) (oa : Option Addr) (l : List Value) : Prop :=
 ∀ j u, l[j]? = some u → ∃ a, oa = some a ∧ w.cell? (a.add j) = some u
def InI (x : Int) : Prop := -9223372036854775808 ≤ x ∧ x ≤ 9223372036854775807
section
variable {H : Type} {enc : TypeId × Value → H} {P : Program} {w : World} {base : Nat} {spare : Nat → Bool} {held : Bool}
end
end Go.Proofs.Ytiiimhamfibdbaa
/- A region that draws its order, whose first operation only moves a slot that a later append wants (so that it may come up at any time), whose other operations read or call quietly, and which ends in a forced tail. Of any program. -/
namespace Go.Proofs.Ytiiimhamfibdbaa
open Go
section
variable {P : Program} {ops : Array Oper} {md : Region.Mode} {w : World}
end
end Go.Proofs.Ytiiimhamfibdbaa
