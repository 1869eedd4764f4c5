/- Layer 7: what the laws need beside the contracts. -/
import Derived.Test.YtkokjeakpecndaaRefHead
namespace Go.Proofs.Ytkokjeakpecndaa
open Go.RowKit Go.PlainAid
set_option linter.unusedVariables false
theorem hpS_size {c t : Int} {k : Bool} {n : Int} (h : hdOk c t n = true) : (hpS c t k n).size = (hdPut c t k n).length := by rw [hpS_ok h, strOfNums_size]
theorem hpS_le (c t : Int) (k : Bool) (n : Int) : (hpS c t k n).size ≤ 14 := by
  by_cases h : hdOk c t n = true
  · rw [hpS_size h]; exact (hdPut_length h).2
  · rw [hpS_bad h]; decide
theorem bl_hpS {c t : Int} {k : Bool} {n : Int} (h : hdOk c t n = true) : bl (hpS c t k n) = hdPut c t k n := by rw [hpS_ok h, bl_str (hdPut_isB h)]
theorem back_head (m : ByteArray) {c t : Int} {k : Bool} {n : Int} (h : hdOk c t n = true) : hgAt (m ++ hpS c t k n ++ m) m.size = (c, t, k, n, (m.size : Int) + (hpS c t k n).size, 0) := by
  rw [hpS_size h]
  refine hgAt_in _ m.size (by rw [ByteArray.size_append, ByteArray.size_append]; omega) ?_
  rw [bl_append, bl_append, List.append_assoc, List.drop_left' (by rw [bl_length]), bl_hpS h]
  exact hdGet_put h _
theorem hgAt_zero (b : ByteArray) : hgAt b 0 = ((hdGet (bl b)).1, (hdGet (bl b)).2.1, (hdGet (bl b)).2.2.1, (hdGet (bl b)).2.2.2.1, ((hdGet (bl b)).2.2.2.2.1 : Int), (hdGet (bl b)).2.2.2.2.2) := by
  have := hgAt_in b 0 (by omega) (show hdGet ((bl b).drop 0) = ((hdGet (bl b)).1, (hdGet (bl b)).2.1, (hdGet (bl b)).2.2.1, (hdGet (bl b)).2.2.2.1, (hdGet (bl b)).2.2.2.2.1, (hdGet (bl b)).2.2.2.2.2) by rw [List.drop_zero])
  simpa using this
theorem one_head (b : ByteArray) (h : (hgAt b 0).2.2.2.2.2 = 0) : ∃ j : Nat, (hgAt b 0).2.2.2.2.1 = j ∧ 2 ≤ j ∧ j ≤ b.size ∧ hpE (hgAt b 0).1 (hgAt b 0).2.1 (hgAt b 0).2.2.2.1 = 0 ∧
    hpS (hgAt b 0).1 (hgAt b 0).2.1 (hgAt b 0).2.2.1 (hgAt b 0).2.2.2.1 = b.extract 0 j ∧ ∀ i, i < j → hgAt (b.extract 0 i) 0 = (0, 0, false, 0, (i : Int), 2) := by
  rw [hgAt_zero] at h ⊢
  obtain ⟨h1, h2, h3, h4⟩ := hdGet_one (bl b) (bl_isB b) h
  rw [bl_length] at h3
  refine ⟨_, rfl, h2, h3, hpE_ok.2 h1, ?_, ?_⟩
  · apply bl_inj
    rw [bl_hpS h1, h4, bl_extract _ _ _ h3, List.drop_zero, Nat.sub_zero]
  · intro i hi
    rw [hgAt_zero, bl_extract _ _ _ (by omega), List.drop_zero, Nat.sub_zero]
    have e : (bl b).take i = ((bl b).take (hdGet (bl b)).2.2.2.2.1).take i := by rw [List.take_take, Nat.min_eq_left (Nat.le_of_lt hi)]
    rw [e, ← h4, hdGet_cut h1 i (by rw [h4, List.length_take, bl_length]; omega)]
theorem bad_head (b : ByteArray) (h : ¬ (hgAt b 0).2.2.2.2.2 = 0) : (hgAt b 0).1 = 0 ∧ (hgAt b 0).2.1 = 0 ∧ (hgAt b 0).2.2.1 = false ∧ (hgAt b 0).2.2.2.1 = 0 ∧ 0 ≤ (hgAt b 0).2.2.2.2.1 ∧ (hgAt b 0).2.2.2.2.1 ≤ b.size := by
  rw [hgAt_zero] at h ⊢
  obtain ⟨h1, h2, h3, h4⟩ := hdGet_bad (bl b) h
  have := hdGet_le (bl b) (bl_isB b)
  rw [bl_length] at this
  exact ⟨h1, h2, h3, h4, by show (0 : Int) ≤ ((_ : Nat) : Int); omega, by show ((_ : Nat) : Int) ≤ _; omega⟩
theorem hgAt_bd (b : ByteArray) (at_ : Int) : 0 ≤ (hgAt b at_).2.2.2.1 ∧ (hgAt b at_).2.2.2.1 ≤ 2305843009213693951 := by
  unfold hgAt
  split
  · simp
  · exact (hdGet_bd _ ((bl_isB b).drop _)).2.2.2.2
/-- With another length the identifier stays. -/
theorem front_head {c t : Int} {k : Bool} {n : Int} (h : hdOk c t n = true) : ∃ z : Nat, (hpS c t k 0).size = z + 1 ∧ 1 ≤ z ∧ z + 1 ≤ (hpS c t k n).size ∧ (hpS c t k n).extract 0 z = (hpS c t k 0).extract 0 z := by
  obtain ⟨h1, h2⟩ := hdOk_iff.1 h
  have h0 : hdOk c t 0 = true := hdOk_iff.2 ⟨h1, by decide⟩
  have l1 := idPut_length (cons := k) h1
  have l2 := lenPut_le h2
  refine ⟨(idPut c t k).length, ?_, l1.1, ?_, ?_⟩
  · rw [hpS_size h0, hdPut, List.length_append]; rfl
  · rw [hpS_size h, hdPut, List.length_append]; omega
  · apply bl_inj
    rw [bl_extract _ _ _ (by rw [hpS_size h, hdPut, List.length_append]; omega), bl_extract _ _ _ (by rw [hpS_size h0, hdPut, List.length_append]; omega), bl_hpS h, bl_hpS h0, hdPut, hdPut, List.drop_zero, List.drop_zero, Nat.sub_zero, List.take_left, List.take_left]
/-! ### Pushed -/
theorem pushed_at (b : ByteArray) (i from_ : Nat) (hi : i < b.size) (hf : from_ ≤ i) :
    hgAt (b.extract 0 (i + 1)) (from_ : Int) = ((hdGet (((bl b).take i).drop from_ ++ [bt b i])).1, (hdGet (((bl b).take i).drop from_ ++ [bt b i])).2.1, (hdGet (((bl b).take i).drop from_ ++ [bt b i])).2.2.1, (hdGet (((bl b).take i).drop from_ ++ [bt b i])).2.2.2.1, (from_ : Int) + (hdGet (((bl b).take i).drop from_ ++ [bt b i])).2.2.2.2.1, (hdGet (((bl b).take i).drop from_ ++ [bt b i])).2.2.2.2.2) := by
  refine hgAt_in _ from_ (by rw [ByteArray.size_extract]; omega) ?_
  rw [bl_extract _ _ _ (by omega), List.drop_zero, Nat.sub_zero, List.take_add_one, bl_at b i hi, Option.toList_some, List.drop_append_of_le_length (by rw [List.length_take, bl_length]; omega)]
theorem came_more (b : ByteArray) (i from_ : Nat) (hi : i < b.size) (hf : from_ ≤ i) : ((bl b).take i).drop from_ ++ [bt b i] = ((bl b).take (i + 1)).drop from_ := by
  rw [List.take_add_one, bl_at b i hi, Option.toList_some, List.drop_append_of_le_length (by rw [List.length_take, bl_length]; omega)]
theorem came_none (b : ByteArray) (i : Nat) : ((bl b).take (i + 1)).drop (i + 1) = [] := List.drop_eq_nil_of_le (by rw [List.length_take]; omega)
theorem pushed_cases (b : ByteArray) (i from_ : Nat) (hi : i < b.size) (hf : from_ ≤ i) (s : HS) (ho : s.over = 0) (hc : s.came = ((bl b).take i).drop from_) :
    (∃ p, s.tell (bt b i) = (0, 0, false, 0, false, 0) ∧ s.next (bt b i) = ⟨((bl b).take (i + 1)).drop from_, 0⟩ ∧ hgAt (b.extract 0 (i + 1)) (from_ : Int) = (0, 0, false, 0, p, 2)) ∨
    (∃ p e l, e ≠ 0 ∧ e ≠ 2 ∧ s.tell (bt b i) = (0, 0, false, 0, false, e) ∧ s.next (bt b i) = ⟨l, e⟩ ∧ hgAt (b.extract 0 (i + 1)) (from_ : Int) = (0, 0, false, 0, p, e)) ∨
    (∃ c t k v p, s.tell (bt b i) = (c, t, k, v, true, 0) ∧ s.next (bt b i) = ⟨[], 0⟩ ∧ hgAt (b.extract 0 (i + 1)) (from_ : Int) = (c, t, k, v, p, 0)) := by
  have hg := pushed_at b i from_ hi hf
  have hm := came_more b i from_ hi hf
  have e1 : ¬ s.over ≠ 0 := by rw [ho]; simp
  simp only [HS.tell, HS.next, if_neg e1, hc, hm]
  rw [hm] at hg
  generalize ((bl b).take (i + 1)).drop from_ = l at *
  have hbad := hdGet_bad l
  obtain ⟨c, t, k, v, n, e, hG⟩ : ∃ c t k v n e, hdGet l = (c, t, k, v, n, e) := ⟨_, _, _, _, _, _, rfl⟩
  rw [hG] at hg hbad ⊢
  simp only at hg hbad ⊢
  by_cases h2 : e = 2
  · subst h2
    obtain ⟨rfl, rfl, rfl, rfl⟩ := hbad (by decide)
    left
    exact ⟨_, by simp, by simp, hg⟩
  · by_cases h0 : e = 0
    · subst h0
      right; right
      exact ⟨c, t, k, v, _, by simp, by simp, hg⟩
    · obtain ⟨rfl, rfl, rfl, rfl⟩ := hbad h0
      right; left
      exact ⟨_, e, l, h0, h2, by simp [h2, h0], by simp [h2, h0], hg⟩
theorem pushed_over (s : HS) (x : Int) (ho : s.over ≠ 0) : s.tell x = (0, 0, false, 0, false, s.over) ∧ s.next x = s := by
  unfold HS.tell HS.next
  rw [if_pos ho, if_pos ho]
  exact ⟨rfl, rfl⟩
end Go.Proofs.Ytkokjeakpecndaa
