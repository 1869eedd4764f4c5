/- Layer 9: what the laws need beside the contracts. -/
import Derived.Test.YtagigdefghnnhaaEvSpec
import Derived.Test.YtagigdefghnnhaaEvRun
import Derived.Deep.LoopGhost
namespace Go.Proofs.Ytagigdefghnnhaa
open Go.RowKit Go.PlainAid
set_option linter.unusedVariables false
theorem draws_below' {a : World} (w : World) (n : Nat) (h : a.heap.size ≤ w.heap.size) : Below a.heap.size w (w.drewN n) := ⟨rfl, rfl, rfl, Nat.le_refl _, fun _ _ => rfl⟩
set_option maxHeartbeats 1600000 in
theorem great_any (b : ByteArray) (h : b.size ≤ maxLen) (w : World) :
    Calls Try.prog 12 #[.string b] w fun e w' => e = .returned (.bool (decide ((300 : Int) < (b.size : Int)))) ∧ w' = w := by
  go_enter Try.func12, Try.ntmps12
  go_wp2
  go_returns
  exact ⟨rfl, rfl⟩
/-- How many events there are at most. -/
theorem evW_len (b : ByteArray) (d : Int) : (evW b d).1.length ≤ b.size := by
  unfold evW
  rw [whole_is (bl b) (bl_isB b) (evMost d)]
  have h := elem_len (bl b) (bl_isB b) (evMost d) 0 (-1) (Nat.zero_le _) (.inl rfl)
  obtain ⟨_, h2, h3⟩ := h
  rw [bl_length] at h2
  show (elemP (bl b) (evMost d) 0 (-1)).l.length ≤ b.size
  omega
theorem evW_ok {b : ByteArray} {dep : Int} {L : List Ev} {a : Nat} (h : evW b dep = (L, 0, a)) :
    a = b.size ∧ (∀ m : ByteArray, m.size ≠ 0 → evW (b ++ m) dep = (L, 6, b.size)) ∧ ∀ n : Nat, n < b.size → ∃ L', evW (b.extract 0 n) dep = (L', 2, n) := by
  unfold evW at h ⊢
  obtain ⟨h1, h2, h3⟩ := whole_ok h
  rw [bl_length] at h1 h2 h3
  refine ⟨h1, ?_, ?_⟩
  · intro m hm
    rw [bl_append]
    obtain ⟨x, r, hx⟩ : ∃ x r, bl m = x :: r := by
      cases hd : bl m with
      | nil => have := congrArg List.length hd; rw [bl_length] at this; exact absurd this hm
      | cons x r => exact ⟨x, r, rfl⟩
    rw [hx]; exact h2 x r
  · intro n hn
    obtain ⟨L', hL⟩ := h3 n hn
    refine ⟨L', ?_⟩
    rw [bl_extract _ _ _ (by omega), List.drop_zero, Nat.sub_zero]; exact hL
theorem text_list {m : ByteArray} (h : m.size ≠ 0) : ¬ m.toList = [] := by
  intro he
  rw [ByteArray.toList_eq] at he
  exact h (by show m.data.size = 0; rw [← Array.length_toList, he]; rfl)
theorem text_some {m : ByteArray} (h : m.size ≠ 0) : (m != ⟨#[]⟩) = true := by
  obtain ⟨d⟩ := m
  show (d != #[]) = true
  rw [bne_iff_ne]
  rintro rfl
  exact h rfl
end Go.Proofs.Ytagigdefghnnhaa
