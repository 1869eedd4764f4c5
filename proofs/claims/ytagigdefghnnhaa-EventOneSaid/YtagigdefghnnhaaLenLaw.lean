/- Layer 6: what the laws need beside the contracts. -/
import Derived.Test.YtagigdefghnnhaaRefLen
import Derived.Lib.Strings
import Derived.Laws.Cover1
namespace Go.Proofs.Ytagigdefghnnhaa
open Go.RowKit Go.PlainAid
set_option linter.unusedVariables false
theorem lpS_size {n : Int} (h : lenOk n = true) : (lpS n).size = (lenPut n).length := by rw [lpS_ok h, strOfNums_size]
theorem lpS_le (n : Int) : (lpS n).size ≤ 9 := by
  by_cases h : lenOk n = true
  · rw [lpS_size h]; exact (lenPut_le h).2
  · rw [lpS_bad h]; decide
theorem bl_lpS {n : Int} (h : lenOk n = true) : bl (lpS n) = lenPut n := by rw [lpS_ok h, bl_str (lenPut_isB h)]
theorem back_len (m : ByteArray) {n : Int} (h : lenOk n = true) : lgAt (m ++ lpS n ++ m) m.size = (n, (m.size : Int) + (lpS n).size, 0) := by
  rw [lpS_size h]
  refine lgAt_in _ m.size (by rw [ByteArray.size_append, ByteArray.size_append]; omega) ?_
  rw [bl_append, bl_append, List.append_assoc, List.drop_left' (by rw [bl_length]), bl_lpS h]
  exact lenGet_put h _
theorem cut_len {n : Int} (h : lenOk n = true) (k : Nat) (hk : k < (lpS n).size) : lgAt ((lpS n).extract 0 k) 0 = (0, (k : Int), 2) := by
  have := lgAt_in ((lpS n).extract 0 k) 0 (by omega) (v := 0) (n := k) (e := 2) (by
    rw [List.drop_zero, bl_extract _ _ _ (by omega), List.drop_zero, bl_lpS h, Nat.sub_zero]
    exact lenGet_cut h k (by rw [← lpS_size h]; exact hk))
  simpa using this
theorem one_len (b : ByteArray) (h : (lgAt b 0).2.2 = 0) : ∃ k : Nat, (lgAt b 0).2.1 = k ∧ 1 ≤ k ∧ k ≤ b.size ∧ lpE (lgAt b 0).1 = 0 ∧ lpS (lgAt b 0).1 = b.extract 0 k := by
  have e : lgAt b 0 = ((lenGet (bl b)).1, ((lenGet (bl b)).2.1 : Int), (lenGet (bl b)).2.2) := by
    have := lgAt_in b 0 (by omega) (show lenGet ((bl b).drop 0) = ((lenGet (bl b)).1, (lenGet (bl b)).2.1, (lenGet (bl b)).2.2) by rw [List.drop_zero])
    simpa using this
  rw [e] at h ⊢
  obtain ⟨h1, h2, h3, h4⟩ := lenGet_one (bl b) (bl_isB b) h
  rw [bl_length] at h3
  refine ⟨_, rfl, h2, h3, lpE_ok.2 h1, ?_⟩
  apply bl_inj
  rw [bl_lpS h1, h4, bl_extract _ _ _ h3, List.drop_zero, Nat.sub_zero]
theorem bad_len (b : ByteArray) (h : ¬ (lgAt b 0).2.2 = 0) : (lgAt b 0).1 = 0 := by
  unfold lgAt at h ⊢
  rw [if_neg (by omega)] at h ⊢
  exact lenGet_bad _ h
theorem lgAt_bd (b : ByteArray) (at_ : Int) : 0 ≤ (lgAt b at_).1 ∧ (lgAt b at_).1 ≤ 2305843009213693951 := by
  unfold lgAt
  split
  · simp
  · exact lenGet_bd _ ((bl_isB b).drop _)
/-! ### Sizes -/
theorem len_size {n : Int} (h : lenOk n = true) : (lpS n).size = if n < 128 then 1 else 1 + (loB n.toNat).length := by rw [lpS_size h, lenPut_length h]; rfl
theorem len_first {n : Int} (h : lenOk n = true) : bt (lpS n) 0 = if n < 128 then n else 128 + ((loB n.toNat).length : Int) := by
  have h1 : 0 < (lpS n).size := by rw [lpS_size h]; exact (lenPut_le h).1
  have := bl_at (lpS n) 0 h1
  rw [bl_lpS h, lenPut] at this
  split at this
  · rename_i hs; rw [if_pos hs]; simpa using this.symm
  · rename_i hs; rw [if_neg hs]; simpa [nB] using this.symm
theorem len_second {n : Int} (h : lenOk n = true) (hs : ¬ n < 128) : bt (lpS n) 1 ≠ 0 := by
  obtain ⟨h0, h1⟩ := lenOk_iff.1 h
  obtain ⟨x, r, e, hx⟩ := hiB_head (n := n.toNat) (by omega)
  have h2 : 1 < (lpS n).size := by rw [lpS_size h, lenPut, if_neg hs, e]; simp
  have := bl_at (lpS n) 1 h2
  rw [bl_lpS h, lenPut, if_neg hs, e] at this
  simp at this
  rw [← this]; exact hx
/-! ### Order -/
theorem val_acc (l : List Int) (a : Int) : val l a = a * 256 ^ l.length + val l 0 := by
  induction l generalizing a with
  | nil => simp [val]
  | cons x r ih =>
    show val r (a * 256 + x) = _ + val r (0 * 256 + x)
    rw [ih (a * 256 + x), ih (0 * 256 + x), List.length_cons, Int.pow_succ]
    have e1 : (a * 256 + x) * 256 ^ r.length = a * (256 ^ r.length * 256) + x * 256 ^ r.length := by rw [Int.add_mul, Int.mul_assoc, Int.mul_comm 256]
    have e2 : (0 * 256 + x) * (256 : Int) ^ r.length = x * 256 ^ r.length := by simp
    omega
theorem val_small (l : List Int) (hl : IsB l) : 0 ≤ val l 0 ∧ val l 0 < 256 ^ l.length := by
  refine ⟨val_nonneg l 0 hl (Int.le_refl 0), ?_⟩
  have := val_lt l 0 hl
  simpa using this
theorem ub_isB (l : List UInt8) : IsB (l.map fun u => (u.toNat : Int)) := by
  intro x hx
  obtain ⟨u, _, rfl⟩ := List.mem_map.1 hx
  have := u.toNat_lt
  omega
theorem less_of (l m : List UInt8) (h : l.length = m.length) (hv : val (l.map fun u => (u.toNat : Int)) 0 ≤ val (m.map fun u => (u.toNat : Int)) 0) : Op.bytesLess l m = true ∨ l = m := by
  induction l generalizing m with
  | nil => cases m with
    | nil => right; rfl
    | cons y q => simp at h
  | cons x r ih =>
    cases m with
    | nil => simp at h
    | cons y q =>
      have hl : r.length = q.length := by simpa using h
      have hv2 : val (r.map fun u => (u.toNat : Int)) (0 * 256 + (x.toNat : Int)) ≤ val (q.map fun u => (u.toNat : Int)) (0 * 256 + (y.toNat : Int)) := hv
      rw [val_acc, val_acc (q.map _), List.length_map, List.length_map, hl] at hv2
      have b1 := val_small _ (ub_isB r)
      have b2 := val_small _ (ub_isB q)
      rw [List.length_map] at b1 b2
      rw [hl] at b1
      have hp : (0 : Int) < 256 ^ q.length := Int.pow_pos (by decide)
      generalize (256 : Int) ^ q.length = P at *
      rcases Nat.lt_trichotomy x.toNat y.toNat with hxy | hxy | hxy
      · left
        have : x < y := hxy
        simp [Op.bytesLess, this]
      · have hxe : x = y := UInt8.toNat_inj.1 hxy
        subst hxe
        rcases ih q hl (by omega) with hq | hq
        · left; simp [Op.bytesLess, hq]
        · right; rw [hq]
      · exfalso
        have e : ((y.toNat : Int) + 1) * P ≤ (x.toNat : Int) * P := Int.mul_le_mul_of_nonneg_right (by omega) (by omega)
        rw [Int.add_mul] at e
        have e2 : (0 * 256 + (x.toNat : Int)) * P = (x.toNat : Int) * P := by simp
        have e3 : (0 * 256 + (y.toNat : Int)) * P = (y.toNat : Int) * P := by simp
        omega
theorem rise_len {n m : Int} (hn : lenOk n = true) (hm : lenOk m = true) (h : n ≤ m) : (lpS n).size ≤ (lpS m).size := by
  obtain ⟨h0, h1⟩ := lenOk_iff.1 hn
  rw [len_size hn, len_size hm]
  have := loB_mono (show n.toNat ≤ m.toNat by omega)
  split <;> split <;> omega
theorem rise_le {n m : Int} (hn : lenOk n = true) (hm : lenOk m = true) (h : n ≤ m) (hs : (lpS n).size = (lpS m).size) : (Op.bytesLess (lpS n).toList (lpS m).toList || (lpS n).toList == (lpS m).toList) = true := by
  obtain ⟨h0, h1⟩ := lenOk_iff.1 hn
  obtain ⟨h2, h3⟩ := lenOk_iff.1 hm
  rw [Lib.toList_data, Lib.toList_data]
  have key : val (bl (lpS n)) 0 ≤ val (bl (lpS m)) 0 := by
    rw [bl_lpS hn, bl_lpS hm]
    rw [len_size hn, len_size hm] at hs
    unfold lenPut nB
    have p1 := loB_pos (n := n.toNat)
    have p2 := loB_pos (n := m.toNat)
    by_cases c1 : n < 128 <;> by_cases c2 : m < 128
    · rw [if_pos c1, if_pos c2]; simp [val]; omega
    · rw [if_pos c1, if_neg c2, p2 (by omega)] at hs; simp at hs
    · omega
    · rw [if_neg c1, if_neg c2] at hs ⊢
      show val (hiB n.toNat) (0 * 256 + _) ≤ val (hiB m.toNat) (0 * 256 + _)
      have hle : (loB n.toNat).length = (loB m.toNat).length := by omega
      rw [val_acc, val_acc (hiB m.toNat), hiB_len, hiB_len, hle, val_hiB _ 0, val_hiB _ 0]
      omega
  rcases less_of _ _ (by have e : ∀ s : ByteArray, s.data.toList.length = s.size := fun s => rfl
                         rw [e, e]; exact hs) key with hk | hk
  · rw [hk]; rfl
  · rw [hk]; simp
end Go.Proofs.Ytagigdefghnnhaa
