/- What the reference's Put and Get of lengths give. -/
import Derived.Test.YtoklcnfpeipalaaB0
import Derived.Test.YtoklcnfpeipalaaP0
import Derived.Test.YtoklcnfpeipalaaE1
import Derived.Laws.BytesArg
import Derived.Handy
import Derived.Lib.Strings
import Derived.Laws.Cover1
namespace Go.Proofs.Ytoklcnfpeipalaa
open Go.RowKit Go.PlainAid
set_option linter.unusedVariables false
/-- What Put answers. -/
def lpS (n : Int) : ByteArray := if lenOk n = true then strOfNums (lenPut n) else ⟨#[]⟩
def lpE (n : Int) : Int := if lenOk n = true then 0 else 1
theorem lpS_ok {n : Int} (h : lenOk n = true) : lpS n = strOfNums (lenPut n) := by rw [lpS, if_pos h]
theorem lpS_bad {n : Int} (h : ¬ lenOk n = true) : lpS n = ⟨#[]⟩ := by rw [lpS, if_neg h]
theorem lpE_ok {n : Int} : lpE n = 0 ↔ lenOk n = true := by unfold lpE; split <;> simp_all
/-- What Get tells at a place: the number, the place, the error. -/
def lgAt (b : ByteArray) (at_ : Int) : Int × Int × Int :=
  if at_ < 0 ∨ (b.size : Int) < at_ then (0, 0, 1)
  else ((lenGet ((bl b).drop at_.toNat)).1, at_ + (lenGet ((bl b).drop at_.toNat)).2.1, (lenGet ((bl b).drop at_.toNat)).2.2)
theorem lgAt_in (b : ByteArray) (i : Nat) (hi : i ≤ b.size) {v : Int} {n : Nat} {e : Int} (h : lenGet ((bl b).drop i) = (v, n, e)) : lgAt b (i : Int) = (v, (i : Int) + n, e) := by
  unfold lgAt
  rw [if_neg (by omega), Int.toNat_natCast, h]
theorem lgAt_out (b : ByteArray) (at_ : Int) (h : at_ < 0 ∨ (b.size : Int) < at_) : lgAt b at_ = (0, 0, 1) := by
  unfold lgAt; rw [if_pos h]
theorem val_step (l : List Int) (i : Nat) (h : i < l.length) : val (l.take (i + 1)) 0 = val (l.take i) 0 * 256 + l[i] := by
  rw [List.take_add_one, List.getElem?_eq_getElem h, Option.toList_some, val_append]; rfl
end Go.Proofs.Ytoklcnfpeipalaa
/- What the reference's Put gives. -/
namespace Go.Proofs.Ytoklcnfpeipalaa
open Go.RowKit Go.PlainAid
set_option linter.unusedVariables false
/-- A number's groups, the highest first. -/
def loD (n : Nat) : List Int := if n < 128 then [(n : Int)] else ((n % 128 : Nat) : Int) :: loD (n / 128)
def dG (n : Nat) : List Int := (loD n).reverse
theorem loD_small {n : Nat} (h : n < 128) : loD n = [(n : Int)] := by rw [loD, if_pos h]
theorem loD_big {n : Nat} (h : ¬ n < 128) : loD n = ((n % 128 : Nat) : Int) :: loD (n / 128) := by rw [loD, if_neg h]
theorem dG_small {n : Nat} (h : n < 128) : dG n = [(n : Int)] := by rw [dG, loD_small h]; rfl
theorem dG_big {n : Nat} (h : ¬ n < 128) : dG n = dG (n / 128) ++ [((n % 128 : Nat) : Int)] := by rw [dG, loD_big h, List.reverse_cons]; rfl
/-- All with 128 but the last one. -/
theorem gB_dG (n : Nat) : gB n = (dG n).dropLast.map (128 + ·) ++ [((n % 128 : Nat) : Int)] := by
  have key : ∀ m : Nat, m ≠ 0 → hiG m = (dG m).map (128 + ·) := by
    intro m
    induction m using Nat.strongRecOn with
    | ind m ih =>
      intro h0
      rw [hiG_pos h0]
      by_cases h : m < 128
      · rw [dG_small h, show m / 128 = 0 by omega, hiG_zero, show m % 128 = m by omega]; simp
      · rw [dG_big h, ih (m / 128) (by omega) (by omega)]; simp
  rw [gB]
  by_cases h : n < 128
  · rw [dG_small h, show n / 128 = 0 by omega, hiG_zero]; rfl
  · rw [dG_big h, List.dropLast_concat, key _ (by omega)]
theorem dG_last (n : Nat) : (dG n).getLast? = some ((n % 128 : Nat) : Int) := by
  by_cases h : n < 128
  · rw [dG_small h]; simp; omega
  · rw [dG_big h]; simp
theorem dG_length (n : Nat) : (dG n).length = (gB n).length := by
  rw [gB_dG]
  have : dG n ≠ [] := by intro h; have := dG_last n; rw [h] at this; cases this
  have := List.length_pos_iff.2 this
  simp; omega
theorem dG_bd (n : Nat) : ∀ x ∈ dG n, 0 ≤ x ∧ x ≤ 127 := by
  induction n using Nat.strongRecOn with
  | ind n ih =>
    intro x hx
    by_cases h : n < 128
    · rw [dG_small h] at hx; simp at hx; omega
    · rw [dG_big h] at hx
      rcases List.mem_append.1 hx with hx | hx
      · exact ih _ (by omega) x hx
      · simp at hx; omega
theorem dropLast_append_last {l : List Int} {x : Int} (h : l.getLast? = some x) : l = l.dropLast ++ [x] := by
  obtain ⟨ys, rfl⟩ := List.getLast?_eq_some_iff.1 h
  simp
/-- The bytes after k rounds of the reference's loop. -/
def refOut (f : Int) (n k : Nat) : List Int := if k < (dG n).length then f :: ((dG n).take k).map (128 + ·) else f :: gB n
theorem refOut_zero (f : Int) (n : Nat) : refOut f n 0 = [f] := by
  have := dG_length n
  have := gB_length n
  rw [refOut, if_pos (by omega)]; rfl
theorem refOut_mid (f : Int) (n k : Nat) (h : k + 1 < (dG n).length) : refOut f n (k + 1) = refOut f n k ++ [128 + (dG n)[k]] := by
  rw [refOut, refOut, if_pos h, if_pos (by omega), List.take_add_one, List.getElem?_eq_getElem (by omega), List.map_append]
  rfl
theorem refOut_last (f : Int) (n k : Nat) (h : k + 1 = (dG n).length) : refOut f n (k + 1) = refOut f n k ++ [(dG n)[k]] := by
  have hl := dropLast_append_last (dG_last n)
  have hk : (dG n)[k] = ((n % 128 : Nat) : Int) := by
    have := dG_last n
    rw [List.getLast?_eq_getElem?, ← h, Nat.add_sub_cancel, List.getElem?_eq_getElem (by omega)] at this
    exact Option.some.inj this
  rw [refOut, refOut, if_neg (by omega), if_pos (by omega), hk, gB_dG, List.dropLast_eq_take, ← h]
  simp
theorem refOut_end (f : Int) (n k : Nat) (h : (dG n).length ≤ k) : refOut f n k = f :: gB n := by rw [refOut, if_neg (by omega)]
end Go.Proofs.Ytoklcnfpeipalaa
/- What the reference's Get gives. -/
namespace Go.Proofs.Ytoklcnfpeipalaa
open Go.RowKit Go.PlainAid
set_option linter.unusedVariables false
end Go.Proofs.Ytoklcnfpeipalaa
/- Layer 5: what the laws need beside the contracts. -/
namespace Go.Proofs.Ytoklcnfpeipalaa
open Go.RowKit Go.PlainAid
set_option linter.unusedVariables false
theorem putE_ok {cls tag : Int} : putE cls tag = 0 ↔ idOk cls tag = true := by
  unfold putE; split <;> simp_all
theorem putS_ok {cls tag : Int} {cons : Bool} (h : idOk cls tag = true) : putS cls tag cons = strOfNums (idPut cls tag cons) := by rw [putS, if_pos h]
theorem putS_bad {cls tag : Int} {cons : Bool} (h : ¬ idOk cls tag = true) : putS cls tag cons = ⟨#[]⟩ := by rw [putS, if_neg h]
theorem putS_size {cls tag : Int} {cons : Bool} (h : idOk cls tag = true) : (putS cls tag cons).size = (idPut cls tag cons).length := by rw [putS_ok h, strOfNums_size]
theorem putS_le (cls tag : Int) (cons : Bool) : (putS cls tag cons).size ≤ 5 := by
  by_cases h : idOk cls tag = true
  · rw [putS_size h]; exact (idPut_length h).2
  · rw [putS_bad h]; decide
theorem bl_putS {cls tag : Int} {cons : Bool} (h : idOk cls tag = true) : bl (putS cls tag cons) = idPut cls tag cons := by rw [putS_ok h, bl_str (idPut_isB h)]
theorem gAt_in (b : ByteArray) (i : Nat) (hi : i ≤ b.size) {c t : Int} {k : Bool} {n : Nat} {e : Int} (h : idGet ((bl b).drop i) = (c, t, k, n, e)) : gAt b (i : Int) = (c, t, k, (i : Int) + n, e) := by
  unfold gAt
  rw [if_neg (by omega), Int.toNat_natCast, h]
theorem gAt_bd (b : ByteArray) (at_ : Int) : 0 ≤ (gAt b at_).1 ∧ (gAt b at_).1 ≤ 3 ∧ 0 ≤ (gAt b at_).2.1 ∧ (gAt b at_).2.1 ≤ 268435455 := by
  unfold gAt
  split
  · simp
  · exact idGet_bd _ ((bl_isB b).drop _)
theorem back_at (m : ByteArray) {cls tag : Int} {cons : Bool} (h : idOk cls tag = true) : gAt (m ++ putS cls tag cons ++ m) m.size = (cls, tag, cons, (m.size : Int) + (putS cls tag cons).size, 0) := by
  rw [putS_size h]
  refine gAt_in _ m.size (by rw [ByteArray.size_append, ByteArray.size_append]; omega) ?_
  rw [bl_append, bl_append, List.append_assoc, List.drop_left' (by rw [bl_length]), bl_putS h]
  exact idGet_put h _
theorem cut_at {cls tag : Int} {cons : Bool} (h : idOk cls tag = true) (n : Nat) (hn : n < (putS cls tag cons).size) : gAt ((putS cls tag cons).extract 0 n) 0 = (0, 0, false, (n : Int), 2) := by
  have := gAt_in ((putS cls tag cons).extract 0 n) 0 (by omega) (c := 0) (t := 0) (k := false) (n := n) (e := 2) (by
    rw [List.drop_zero, bl_extract _ _ _ (by omega), List.drop_zero, bl_putS h, Nat.sub_zero]
    exact idGet_cut h n (by rw [← putS_size h]; exact hn))
  simpa using this
theorem whole_at {cls tag : Int} {cons : Bool} (h : idOk cls tag = true) (m : ByteArray) : gAt (putS cls tag cons ++ m) 0 = (cls, tag, cons, ((putS cls tag cons).size : Int), 0) := by
  have e : idGet ((bl (putS cls tag cons ++ m)).drop 0) = (cls, tag, cons, (idPut cls tag cons).length, 0) := by
    rw [List.drop_zero, bl_append, bl_putS h]
    exact idGet_put h _
  have := gAt_in (putS cls tag cons ++ m) 0 (by omega) e
  rw [putS_size h]
  simpa using this
theorem whole_at0 {cls tag : Int} {cons : Bool} (h : idOk cls tag = true) : gAt (putS cls tag cons) 0 = (cls, tag, cons, ((putS cls tag cons).size : Int), 0) := by
  have := whole_at (cons := cons) h ⟨#[]⟩
  rwa [show putS cls tag cons ++ (⟨#[]⟩ : ByteArray) = putS cls tag cons by apply ByteArray.ext; simp [ByteArray.data_append]] at this
theorem one_at (b : ByteArray) (h : (gAt b 0).2.2.2.2 = 0) : ∃ n : Nat, (gAt b 0).2.2.2.1 = n ∧ 1 ≤ n ∧ n ≤ b.size ∧ putE (gAt b 0).1 (gAt b 0).2.1 = 0 ∧ putS (gAt b 0).1 (gAt b 0).2.1 (gAt b 0).2.2.1 = b.extract 0 n := by
  have e : gAt b 0 = ((idGet (bl b)).1, (idGet (bl b)).2.1, (idGet (bl b)).2.2.1, ((idGet (bl b)).2.2.2.1 : Int), (idGet (bl b)).2.2.2.2) := by
    have := gAt_in b 0 (by omega) (show idGet ((bl b).drop 0) = ((idGet (bl b)).1, (idGet (bl b)).2.1, (idGet (bl b)).2.2.1, (idGet (bl b)).2.2.2.1, (idGet (bl b)).2.2.2.2) by rw [List.drop_zero])
    simpa using this
  rw [e] at h ⊢
  obtain ⟨h1, h2, h3, h4⟩ := idGet_one (bl b) (bl_isB b) h
  rw [bl_length] at h3
  refine ⟨_, rfl, h2, h3, putE_ok.2 h1, ?_⟩
  apply bl_inj
  rw [bl_putS h1, h4, bl_extract _ _ _ h3, List.drop_zero, Nat.sub_zero]
theorem bad_at (b : ByteArray) (h : ¬ (gAt b 0).2.2.2.2 = 0) : (gAt b 0).1 = 0 ∧ (gAt b 0).2.1 = 0 ∧ (gAt b 0).2.2.1 = false := by
  unfold gAt at h ⊢
  rw [if_neg (by omega)] at h ⊢
  exact idGet_bad _ h
/-! ### Sizes -/
theorem idPut_tail (cls tag : Int) (cons : Bool) (c2 : Int) (k2 : Bool) : (idPut cls tag cons).drop 1 = (idPut c2 tag k2).drop 1 := rfl
theorem loG_half {n : Nat} (h : n ≠ 0) : (loG n).length = (loG (n / 128)).length + 1 := by rw [loG_pos h]; rfl
theorem sizes_len {cls tag : Int} {cons : Bool} (h : idOk cls tag = true) : (putS cls tag cons).size = if tag < 31 then 1 else 1 + (loG tag.toNat).length := by
  obtain ⟨h0, h1, h2, h3⟩ := idOk_iff.1 h
  rw [putS_size h, idPut]
  by_cases ht : tag < 31
  · rw [if_pos ht, if_pos ht]; rfl
  · rw [if_neg ht, if_neg ht, List.length_cons, gB_length, loG_half (show tag.toNat ≠ 0 by omega)]; omega
theorem first_bt {cls tag : Int} {cons : Bool} (h : idOk cls tag = true) : bt (putS cls tag cons) 0 = first cls tag cons := by
  have h1 : 0 < (putS cls tag cons).size := by rw [putS_size h]; exact (idPut_length h).1
  have := bl_at (putS cls tag cons) 0 h1
  rw [bl_putS h, idPut] at this
  simpa using this.symm
theorem first_parts {cls tag : Int} {cons : Bool} (h : idOk cls tag = true) : first cls tag cons / 64 = cls ∧ decide (first cls tag cons / 32 % 2 = 1) = cons ∧ first cls tag cons % 32 = first 0 tag false % 32 := by
  obtain ⟨h0, h1, h2, h3⟩ := idOk_iff.1 h
  unfold first
  by_cases ht : tag < 31 <;> cases cons <;> simp [ht] <;> omega
end Go.Proofs.Ytoklcnfpeipalaa
/- Layer 6: what the laws need beside the contracts. -/
namespace Go.Proofs.Ytoklcnfpeipalaa
open Go.RowKit Go.PlainAid
set_option linter.unusedVariables false
theorem lpS_size {n : Int} (h : lenOk n = true) : (lpS n).size = (lenPut n).length := by rw [lpS_ok h, strOfNums_size]
theorem lpS_le (n : Int) : (lpS n).size ≤ 9 := by
  by_cases h : lenOk n = true
  · rw [lpS_size h]; exact (lenPut_le h).2
  · rw [lpS_bad h]; decide
theorem bl_lpS {n : Int} (h : lenOk n = true) : bl (lpS n) = lenPut n := by rw [lpS_ok h, bl_str (lenPut_isB h)]
theorem back_len (m : ByteArray) {n : Int} (h : lenOk n = true) : lgAt (m ++ lpS n ++ m) m.size = (n, (m.size : Int) + (lpS n).size, 0) := by
  rw [lpS_size h]
  refine lgAt_in _ m.size (by rw [ByteArray.size_append, ByteArray.size_append]; omega) ?_
  rw [bl_append, bl_append, List.append_assoc, List.drop_left' (by rw [bl_length]), bl_lpS h]
  exact lenGet_put h _
theorem cut_len {n : Int} (h : lenOk n = true) (k : Nat) (hk : k < (lpS n).size) : lgAt ((lpS n).extract 0 k) 0 = (0, (k : Int), 2) := by
  have := lgAt_in ((lpS n).extract 0 k) 0 (by omega) (v := 0) (n := k) (e := 2) (by
    rw [List.drop_zero, bl_extract _ _ _ (by omega), List.drop_zero, bl_lpS h, Nat.sub_zero]
    exact lenGet_cut h k (by rw [← lpS_size h]; exact hk))
  simpa using this
theorem one_len (b : ByteArray) (h : (lgAt b 0).2.2 = 0) : ∃ k : Nat, (lgAt b 0).2.1 = k ∧ 1 ≤ k ∧ k ≤ b.size ∧ lpE (lgAt b 0).1 = 0 ∧ lpS (lgAt b 0).1 = b.extract 0 k := by
  have e : lgAt b 0 = ((lenGet (bl b)).1, ((lenGet (bl b)).2.1 : Int), (lenGet (bl b)).2.2) := by
    have := lgAt_in b 0 (by omega) (show lenGet ((bl b).drop 0) = ((lenGet (bl b)).1, (lenGet (bl b)).2.1, (lenGet (bl b)).2.2) by rw [List.drop_zero])
    simpa using this
  rw [e] at h ⊢
  obtain ⟨h1, h2, h3, h4⟩ := lenGet_one (bl b) (bl_isB b) h
  rw [bl_length] at h3
  refine ⟨_, rfl, h2, h3, lpE_ok.2 h1, ?_⟩
  apply bl_inj
  rw [bl_lpS h1, h4, bl_extract _ _ _ h3, List.drop_zero, Nat.sub_zero]
theorem bad_len (b : ByteArray) (h : ¬ (lgAt b 0).2.2 = 0) : (lgAt b 0).1 = 0 := by
  unfold lgAt at h ⊢
  rw [if_neg (by omega)] at h ⊢
  exact lenGet_bad _ h
theorem lgAt_bd (b : ByteArray) (at_ : Int) : 0 ≤ (lgAt b at_).1 ∧ (lgAt b at_).1 ≤ 2305843009213693951 := by
  unfold lgAt
  split
  · simp
  · exact lenGet_bd _ ((bl_isB b).drop _)
/-! ### Sizes -/
theorem len_size {n : Int} (h : lenOk n = true) : (lpS n).size = if n < 128 then 1 else 1 + (loB n.toNat).length := by rw [lpS_size h, lenPut_length h]; rfl
theorem len_first {n : Int} (h : lenOk n = true) : bt (lpS n) 0 = if n < 128 then n else 128 + ((loB n.toNat).length : Int) := by
  have h1 : 0 < (lpS n).size := by rw [lpS_size h]; exact (lenPut_le h).1
  have := bl_at (lpS n) 0 h1
  rw [bl_lpS h, lenPut] at this
  split at this
  · rename_i hs; rw [if_pos hs]; simpa using this.symm
  · rename_i hs; rw [if_neg hs]; simpa [nB] using this.symm
theorem len_second {n : Int} (h : lenOk n = true) (hs : ¬ n < 128) : bt (lpS n) 1 ≠ 0 := by
  obtain ⟨h0, h1⟩ := lenOk_iff.1 h
  obtain ⟨x, r, e, hx⟩ := hiB_head (n := n.toNat) (by omega)
  have h2 : 1 < (lpS n).size := by rw [lpS_size h, lenPut, if_neg hs, e]; simp
  have := bl_at (lpS n) 1 h2
  rw [bl_lpS h, lenPut, if_neg hs, e] at this
  simp at this
  rw [← this]; exact hx
/-! ### Order -/
theorem rise_len {n m : Int} (hn : lenOk n = true) (hm : lenOk m = true) (h : n ≤ m) : (lpS n).size ≤ (lpS m).size := by
  obtain ⟨h0, h1⟩ := lenOk_iff.1 hn
  rw [len_size hn, len_size hm]
  have := loB_mono (show n.toNat ≤ m.toNat by omega)
  split <;> split <;> omega
theorem rise_le {n m : Int} (hn : lenOk n = true) (hm : lenOk m = true) (h : n ≤ m) (hs : (lpS n).size = (lpS m).size) : (Op.bytesLess (lpS n).toList (lpS m).toList || (lpS n).toList == (lpS m).toList) = true := by
  obtain ⟨h0, h1⟩ := lenOk_iff.1 hn
  obtain ⟨h2, h3⟩ := lenOk_iff.1 hm
  rw [Lib.toList_data, Lib.toList_data]
  have key : val (bl (lpS n)) 0 ≤ val (bl (lpS m)) 0 := by
    rw [bl_lpS hn, bl_lpS hm]
    rw [len_size hn, len_size hm] at hs
    unfold lenPut nB
    have p1 := loB_pos (n := n.toNat)
    have p2 := loB_pos (n := m.toNat)
    by_cases c1 : n < 128 <;> by_cases c2 : m < 128
    · rw [if_pos c1, if_pos c2]; simp [val]; omega
    · rw [if_pos c1, if_neg c2, p2 (by omega)] at hs; simp at hs
    · omega
    · rw [if_neg c1, if_neg c2] at hs ⊢
      show val (hiB n.toNat) (0 * 256 + _) ≤ val (hiB m.toNat) (0 * 256 + _)
      have hle : (loB n.toNat).length = (loB m.toNat).length := by omega
      rw [val_acc, val_acc (hiB m.toNat), hiB_len, hiB_len, hle, val_hiB _ 0, val_hiB _ 0]
      omega
  rcases less_of _ _ (by have e : ∀ s : ByteArray, s.data.toList.length = s.size := fun s => rfl
                         rw [e, e]; exact hs) key with hk | hk
  · rw [hk]; rfl
  · rw [hk]; simp
end Go.Proofs.Ytoklcnfpeipalaa
/- What the reference's Put and Get of heads give. -/
namespace Go.Proofs.Ytoklcnfpeipalaa
open Go.RowKit Go.PlainAid
set_option linter.unusedVariables false
/-- What Put answers. -/
def hpS (c t : Int) (k : Bool) (n : Int) : ByteArray := if hdOk c t n = true then strOfNums (hdPut c t k n) else ⟨#[]⟩
def hpE (c t n : Int) : Int := if hdOk c t n = true then 0 else 1
theorem hpS_ok {c t : Int} {k : Bool} {n : Int} (h : hdOk c t n = true) : hpS c t k n = strOfNums (hdPut c t k n) := by rw [hpS, if_pos h]
theorem hpS_bad {c t : Int} {k : Bool} {n : Int} (h : ¬ hdOk c t n = true) : hpS c t k n = ⟨#[]⟩ := by rw [hpS, if_neg h]
theorem hpE_ok {c t n : Int} : hpE c t n = 0 ↔ hdOk c t n = true := by unfold hpE; split <;> simp_all
theorem hpE_bad {c t n : Int} (h : ¬ hdOk c t n = true) : hpE c t n = 1 := by unfold hpE; rw [if_neg h]
theorem putE_bad {c t : Int} (h : ¬ idOk c t = true) : putE c t = 1 := by unfold putE; rw [if_neg h]
theorem lpE_bad {n : Int} (h : ¬ lenOk n = true) : lpE n = 1 := by unfold lpE; rw [if_neg h]
theorem hpS_join {c t : Int} {k : Bool} {n : Int} (h1 : idOk c t = true) (h2 : lenOk n = true) : putS c t k ++ lpS n = hpS c t k n := by
  rw [hpS_ok (hdOk_iff.2 ⟨h1, h2⟩), putS_ok h1, lpS_ok h2, ← strOfNums_append]; rfl
/-- What Get tells at a place: class, tag, form, length, the place, the error. -/
def hgAt (b : ByteArray) (at_ : Int) : Int × Int × Bool × Int × Int × Int :=
  if at_ < 0 ∨ (b.size : Int) < at_ then (0, 0, false, 0, 0, 1)
  else ((hdGet ((bl b).drop at_.toNat)).1, (hdGet ((bl b).drop at_.toNat)).2.1, (hdGet ((bl b).drop at_.toNat)).2.2.1, (hdGet ((bl b).drop at_.toNat)).2.2.2.1, at_ + (hdGet ((bl b).drop at_.toNat)).2.2.2.2.1, (hdGet ((bl b).drop at_.toNat)).2.2.2.2.2)
theorem hgAt_in (b : ByteArray) (i : Nat) (hi : i ≤ b.size) {c t : Int} {k : Bool} {v : Int} {n : Nat} {e : Int} (h : hdGet ((bl b).drop i) = (c, t, k, v, n, e)) : hgAt b (i : Int) = (c, t, k, v, (i : Int) + n, e) := by
  unfold hgAt
  rw [if_neg (by omega), Int.toNat_natCast, h]
theorem hgAt_out (b : ByteArray) (at_ : Int) (h : at_ < 0 ∨ (b.size : Int) < at_) : hgAt b at_ = (0, 0, false, 0, 0, 1) := by
  unfold hgAt; rw [if_pos h]
def hgV (g : Int × Int × Bool × Int × Int × Int) : Value := .tuple #[.agg #[.int .i64 g.1, .int .i64 g.2.1, .bool g.2.2.1, .int .i64 g.2.2.2.1], .int .i64 g.2.2.2.2.1, .int .i64 g.2.2.2.2.2]
/-- The two steps that a head is got by. -/
theorem hgAt_cases (b : ByteArray) (at_ : Int) (ha : -9223372036854775808 ≤ at_ ∧ at_ ≤ 9223372036854775807) (hb : b.size ≤ maxLen) :
    (∃ n e, gAt b at_ = (0, 0, false, n, e) ∧ e ≠ 0 ∧ hgAt b at_ = (0, 0, false, 0, n, e)) ∨
    (∃ c t k n m e, gAt b at_ = (c, t, k, n, 0) ∧ 0 ≤ n ∧ n ≤ b.size ∧ lgAt b n = (0, m, e) ∧ e ≠ 0 ∧ hgAt b at_ = (0, 0, false, 0, m, e)) ∨
    (∃ c t k n v m, gAt b at_ = (c, t, k, n, 0) ∧ 0 ≤ n ∧ n ≤ b.size ∧ lgAt b n = (v, m, 0) ∧ hgAt b at_ = (c, t, k, v, m, 0)) := by
  by_cases h : at_ < 0 ∨ (b.size : Int) < at_
  · left
    refine ⟨0, 1, ?_, by decide, hgAt_out b at_ h⟩
    unfold gAt; rw [if_pos h]
  · obtain ⟨i, rfl⟩ := Int.eq_ofNat_of_zero_le (show 0 ≤ at_ by omega)
    have hi : i ≤ b.size := by omega
    have hle := idGet_le ((bl b).drop i)
    rw [List.length_drop, bl_length] at hle
    rcases hdGet_cases ((bl b).drop i) with ⟨c, t, k, n, e, h1, he⟩ | ⟨c, t, k, n, v, m, e, h1, h2, he⟩ | ⟨c, t, k, n, v, m, h1, h2⟩
    · left
      obtain ⟨z1, z2, z3⟩ := idGet_bad ((bl b).drop i) (by rw [h1]; exact he)
      rw [h1] at z1 z2 z3
      simp only at z1 z2 z3
      subst z1 z2 z3
      exact ⟨(i : Int) + n, e, gAt_in b i hi h1, he, hgAt_in b i hi (hdGet_id h1 he)⟩
    · right; left
      rw [h1] at hle
      simp only at hle
      have z := lenGet_bad (((bl b).drop i).drop n) (by rw [h2]; exact he)
      rw [h2] at z
      simp only at z
      subst z
      rw [List.drop_drop] at h2
      have e2 := lgAt_in b (i + n) (by omega) h2
      rw [show ((i + n : Nat) : Int) = (i : Int) + n by omega, show (i : Int) + (n : Int) + (m : Int) = (i : Int) + ((n + m : Nat) : Int) by omega] at e2
      exact ⟨c, t, k, (i : Int) + n, _, e, gAt_in b i hi h1, by omega, by omega, e2, he, hgAt_in b i hi (hdGet_len h1 (by rw [List.drop_drop]; exact h2) he)⟩
    · right; right
      rw [h1] at hle
      simp only at hle
      rw [List.drop_drop] at h2
      have e2 := lgAt_in b (i + n) (by omega) h2
      rw [show ((i + n : Nat) : Int) = (i : Int) + n by omega, show (i : Int) + (n : Int) + (m : Int) = (i : Int) + ((n + m : Nat) : Int) by omega] at e2
      exact ⟨c, t, k, (i : Int) + n, v, _, gAt_in b i hi h1, by omega, by omega, e2, hgAt_in b i hi (hdGet_ok h1 (by rw [List.drop_drop]; exact h2))⟩
theorem hb9_of {b : ByteArray} (h : b.size ≤ maxLen) : (b.size : Int) ≤ 9223372036854775807 := by unfold maxLen at h; omega
end Go.Proofs.Ytoklcnfpeipalaa
