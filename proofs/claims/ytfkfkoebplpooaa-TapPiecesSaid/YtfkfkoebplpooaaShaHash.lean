/- A digest that goes on, in memory; what held, Len and Copy give. -/
import Derived.Test.YtfkfkoebplpooaaShaBlock
import Derived.Test.YtfkfkoebplpooaaShaPad
namespace Go.Proofs.Ytfkfkoebplpooaa
open Go.RowKit Go.PlainAid
set_option linter.unusedVariables false
def bv (R : List Int) : List Value := R.map fun x : Int => Value.int .u8 x
theorem bv_length (R : List Int) : (bv R).length = R.length := by simp [bv]
/-- The cells of a digest: the state, the bytes behind the last whole block, how many bytes came. -/
def hcells (s : St) (R : List Int) (n : Nat) : List Value := uv s.l ++ bv R ++ [.int .u64 (n : Int)]
theorem hcells_length (s : St) (R : List Int) (n : Nat) (hR : R.length = 64) : (hcells s R n).length = 73 := by
  simp [hcells, uv, bv, hR, St.l]
theorem hcells_count (s : St) (R : List Int) (n : Nat) (hR : R.length = 64) : (hcells s R n)[72]? = some (.int .u64 (n : Int)) := by
  unfold hcells
  rw [List.getElem?_append_right (by simp [uv, bv, hR, St.l])]
  simp [uv, bv, hR, St.l]
theorem hcells_one (s : St) (R : List Int) (n : Nat) : ∀ u ∈ hcells s R n, u.oneCell' = true := by
  intro u hu
  unfold hcells at hu
  simp only [List.mem_append, List.mem_singleton] at hu
  rcases hu with (h | h) | h
  · exact uv_one _ u h
  · obtain ⟨x, _, rfl⟩ := List.mem_map.1 h; rfl
  · subst h; rfl
/-- Block g holds the digest of what came: all. -/
def HashAt (w : World) (g : Nat) (all : ByteArray) : Prop :=
  ∃ R : List Int, R.length = 64 ∧ (∀ j, j < all.size % 64 → R.getD j 0 = bt all (64 * (all.size / 64) + j)) ∧ Row w g 57 (hcells (stAt all (all.size / 64)) R all.size)
theorem HashAt.lt {w : World} {g : Nat} {all : ByteArray} (h : HashAt w g all) : g < w.heap.size := by
  obtain ⟨_, _, _, h⟩ := h; exact h.lt
theorem HashAt.below {w w' : World} {g B : Nat} {all : ByteArray} (h : HashAt w g all) (hb : Below B w w') (hg : g < B) : HashAt w' g all := by
  obtain ⟨R, h1, h2, h⟩ := h; exact ⟨R, h1, h2, h.below hb hg⟩
theorem HashAt.count {w : World} {g : Nat} {all : ByteArray} (h : HashAt w g all) : w.cell? ⟨g, 72, none⟩ = some (.int .u64 (all.size : Int)) := by
  obtain ⟨R, h1, _, h⟩ := h; rw [h.cell, hcells_count _ _ _ h1]
theorem held_any (g : Nat) (all : ByteArray) (w : World) (h : HashAt w g all) (hs : all.size ≤ 1000000) :
    Calls Try.prog 24 #[.pointer (some ⟨g, 0, none⟩)] w fun e w' => e = .returned (.int .i64 ((all.size % 64 : Nat) : Int)) ∧ w = w' := by
  have hc := h.count
  clear h
  generalize all.size = n at *
  go_enter Try.func24, Try.ntmps24
  go_wp2
  go_ret
  exact ⟨ret_int (by go_num), rfl⟩
theorem infoHash : (Try.prog.info? 57).map (·.size) = some 73 := by kernel_rfl
theorem infoZ : (Try.prog.info? 57).map (fun i => i.zero) = some (some (.agg (hcells ⟨0, 0, 0, 0, 0, 0, 0, 0⟩ (List.replicate 64 0) 0).toArray)) := by kernel_rfl
theorem zeroHash (w : World) : (zeroValue 57).run Try.prog w = .ok (.agg (hcells ⟨0, 0, 0, 0, 0, 0, 0, 0⟩ (List.replicate 64 0) 0).toArray) w := by
  obtain ⟨i, hi, hz⟩ := Option.map_eq_some_iff.1 infoZ
  simp only [zeroValue, typeInfo, Sem.run_bind]
  simp [hi, hz]
set_option maxRecDepth 100000 in
set_option maxHeartbeats 1000000 in
theorem copy_any (g : Nat) (all : ByteArray) (w : World) (h : HashAt w g all) :
    Calls Try.prog 27 #[.pointer (some ⟨g, 0, none⟩)] w fun e w' => e = .returned (.pointer (some ⟨w.heap.size, 0, none⟩)) ∧ HashAt w' w.heap.size all ∧ Below w.heap.size w w' := by
  obtain ⟨R, hR, hr, hrow⟩ := h
  have HR := Lib.hid hR
  have HRR := Lib.hid hr
  have HROW := Lib.hid hrow
  have hl := hcells_length (stAt all (all.size / 64)) R all.size hR
  have h1 := hcells_one (stAt all (all.size / 64)) R all.size
  clear hR hr hrow
  generalize hlc : hcells (stAt all (all.size / 64)) R all.size = l at *
  have HLC := Lib.hid hlc
  clear hlc
  have hI : (Try.prog.info? 57).map (·.size) = some l.length := by rw [infoHash, hl]
  have hI2 : (Try.prog.info? 57).map (·.size) = some l.toArray.size := by rw [infoHash]; simp [hl]
  have hzv := zeroHash
  have hzl := hcells_length ⟨0, 0, 0, 0, 0, 0, 0, 0⟩ (List.replicate 64 0) 0 (by simp)
  generalize hcells ⟨0, 0, 0, 0, 0, 0, 0, 0⟩ (List.replicate 64 0) 0 = zl at *
  have hN := Row.new w 57 zl
  have hT : World.there (w.alloc (.cells zl.toArray 57)) w.heap.size 0 l.toArray.size := by
    have := hN.there (o := 0) (n := 73) (by omega)
    simpa [hl] using this
  have HF := Lib.hid (hN.setAll (vs := l) (by rw [hl, hzl]))
  have hB : Below w.heap.size w ((w.alloc (.cells zl.toArray 57)).setCells w.heap.size 0 l) := below_setCells _ _ ((Below.refl _ _).alloc (Nat.le_refl _) _) (Nat.le_refl _)
  clear hzl
  have HI := Lib.hid hI
  have HI2 := Lib.hid hI2
  have HT := Lib.hid hT
  have HL := Lib.hid hl
  have H1 := Lib.hid h1
  clear hI hI2 hN hT hl h1
  go_enter Try.func27, Try.ntmps27
  go_wp2_with (first
    | refine wpList_load_mid rfl 57 (.tmp 5) rfl g 0 rfl l _ HROW.out.whole Try.underlying57 rfl HI.out ?_
    | refine wpList_store_mid rfl 57 (.tmp 3) (.tmp 6) rfl w.heap.size 0 l.toArray rfl rfl HT.out HI2.out (all_oneCell_toArray H1.out) ?_)
  go_ret
  exact ⟨rfl, ⟨R, HR.out, HRR.out, by rw [HLC.out]; exact HF.out⟩, hB⟩
theorem len64 : Try.prog.arrayLen 55 = 64 := by kernel_rfl
theorem elem64 : Try.prog.elem 55 = 5 := by kernel_rfl
theorem add_mid (g o k : Nat) : (⟨g, o, none⟩ : Addr).add k = ⟨g, o + k, none⟩ := by unfold Addr.add; split <;> simp_all
theorem rest_from (g r : Nat) (hr : r ≤ 63) (w : World) : (Instr.sliceAt 55 (.pointer (some ⟨g, 8, none⟩)) (some (.int .i64 (r : Int))) none none).run Try.prog w = .ok (.slice (some ⟨g, 8 + r, none⟩) (64 - r) (64 - r)) w := by
  rw [run_sliceAt_array_l (ht := by rw [len64, elem64]; exact Try.underlying55) (h0 := by omega) (h1 := by rw [len64]; omega), elem64, Try.sizeOf5, len64]
  simp only [Result.andThen_ok, slicedAt, Int.toNat_natCast]
  rw [if_neg (by omega), Nat.mul_one, add_mid]
theorem rest_all (g : Nat) (w : World) : (Instr.sliceAt 55 (.pointer (some ⟨g, 8, none⟩)) none none none).run Try.prog w = .ok (.slice (some ⟨g, 8, none⟩) 64 64) w := by
  rw [run_sliceAt_array_all (ht := by rw [len64, elem64]; exact Try.underlying55), elem64, Try.sizeOf5, len64]
  simp only [Result.andThen_ok, slicedAt]
  rw [if_neg (by omega), Nat.zero_mul, add_mid]
theorem hcells_set (s : St) (R : List Int) (n m : Nat) (hR : R.length = 64) : (hcells s R n).set 72 (.int .u64 (m : Int)) = hcells s R m := by
  unfold hcells
  rw [List.set_append_right _ _ (by simp [uv, bv, hR, St.l])]
  simp [uv, bv, hR, St.l]
/-- The bytes behind the last whole block, so many of them turned, from r on. -/
def put (R : List Int) (r : Nat) (b : ByteArray) (k : Nat) : List Int := R.take r ++ (List.range k).map (fun j => bt b j) ++ R.drop (r + k)
theorem put_length (R : List Int) (r k : Nat) (b : ByteArray) (h : r + k ≤ R.length) : (put R r b k).length = R.length := by
  simp [put]; omega
theorem put_low (R : List Int) (r k j : Nat) (b : ByteArray) (h : r + k ≤ R.length) (hj : j < r) : (put R r b k).getD j 0 = R.getD j 0 := by
  simp only [put, List.getD, List.append_assoc]
  rw [List.getElem?_append_left (by simp; omega), List.getElem?_take_of_lt hj]
theorem put_mid (R : List Int) (r k j : Nat) (b : ByteArray) (h : r + k ≤ R.length) (hj : j < k) : (put R r b k).getD (r + j) 0 = bt b j := by
  simp only [put, List.getD, List.append_assoc]
  rw [List.getElem?_append_right (by simp; omega), List.getElem?_append_left (by simp; omega)]
  simp only [List.length_take, Nat.min_eq_left (show r ≤ R.length by omega), Nat.add_sub_cancel_left]
  simp [hj]
theorem hcells_put (s : St) (R : List Int) (n r k : Nat) (b : ByteArray) (hR : R.length = 64) (h : r + k ≤ 64) :
    (hcells s R n).take (8 + r) ++ bcs b k ++ (hcells s R n).drop (8 + r + (bcs b k).length) = hcells s (put R r b k) n := by
  have h8 : (uv s.l).length = 8 := by simp [uv, St.l]
  have hb : bcs b k = bv ((List.range k).map fun j => bt b j) := by simp [bcs, bv]
  rw [bcs_length]
  unfold hcells
  rw [List.append_assoc (uv s.l), List.take_append, List.drop_append, h8, List.take_of_length_le (by omega), List.drop_eq_nil_of_le (by omega), List.nil_append,
    show 8 + r - 8 = r by omega, show 8 + r + k - 8 = r + k by omega, List.take_append, List.drop_append, bv_length, hR, show r - 64 = 0 by omega, List.take_zero, List.append_nil, show r + k - 64 = 0 by omega, List.drop_zero, hb]
  unfold put bv
  simp [List.map_take, List.map_drop]
end Go.Proofs.Ytfkfkoebplpooaa
