/- A head that is cut off has thirteen bytes at most. It holds of numbers alone, under no condition on the program. -/
import Derived.Test.YtagigdefghnnhaaHead
namespace Go.Proofs.Ytagigdefghnnhaa
set_option linter.unusedVariables false
theorem getG_cut_big (t : Int) (h : 2097151 < t) (l : List Int) (hc : (getG false t l).2.2 = 2) : l = [] := by
  cases l with
  | nil => rfl
  | cons x r => rw [getG, if_pos (.inr h)] at hc; exact absurd hc (by simp)
theorem getG_cut_step {f : Bool} {t x : Int} {r : List Int} (hf : f = true → x ≠ 128) (h : (getG f t (x :: r)).2.2 = 2) : 128 ≤ x ∧ (getG false (t * 128 + x % 128) r).2.2 = 2 := by
  rw [getG] at h
  split at h
  · exact absurd h (by simp)
  · split at h
    · rename_i h1 h2; exact ⟨h2, h⟩
    · split at h <;> exact absurd h (by simp)
theorem getG_first {t x : Int} {r : List Int} (h : (getG true t (x :: r)).2.2 = 2) : x ≠ 128 := by
  intro hx; subst hx
  rw [getG, if_pos (.inl ⟨rfl, rfl⟩)] at h
  exact absurd h (by simp)
theorem getG_short (l : List Int) (hl : IsB l) (h : (getG true 0 l).2.2 = 2) : l.length ≤ 4 := by
  cases l with
  | nil => simp
  | cons a r =>
    have ha := getG_first h
    obtain ⟨a1, h⟩ := getG_cut_step (fun _ => ha) h
    have ab := hl.head
    cases r with
    | nil => simp
    | cons b r =>
      obtain ⟨b1, h⟩ := getG_cut_step (fun e => by cases e) h
      cases r with
      | nil => simp
      | cons c r =>
        obtain ⟨c1, h⟩ := getG_cut_step (fun e => by cases e) h
        cases r with
        | nil => simp
        | cons d r =>
          obtain ⟨d1, h⟩ := getG_cut_step (fun e => by cases e) h
          have := getG_cut_big _ (by omega) r h
          subst this; simp
theorem idGet_short (l : List Int) (hl : IsB l) (h : (idGet l).2.2.2.2 = 2) : l.length ≤ 5 := by
  cases l with
  | nil => simp
  | cons x r =>
    rw [idGet] at h
    split at h
    · split at h
      · exact absurd h (by simp)
      · have := getG_short r hl.tail h
        simp; omega
    · exact absurd h (by simp)
theorem lenGet_short (l : List Int) (h : (lenGet l).2.2 = 2) : l.length ≤ 8 := by
  cases l with
  | nil => simp
  | cons x r =>
    rw [lenGet_cons] at h
    revert h
    repeat' split
    all_goals simp
    all_goals omega
theorem hdGet_short (l : List Int) (hl : IsB l) (h : (hdGet l).2.2.2.2.2 = 2) : l.length ≤ 13 := by
  rcases hdGet_cases l with ⟨c, t, k, n, e, h1, he⟩ | ⟨c, t, k, n, v, m, e, h1, h2, he⟩ | ⟨c, t, k, n, v, m, h1, h2⟩
  · rw [hdGet_id h1 he] at h
    have := idGet_short l hl (by rw [h1]; exact h)
    omega
  · rw [hdGet_len h1 h2 he] at h
    have a := lenGet_short (l.drop n) (by rw [h2]; exact h)
    obtain ⟨b1, b2, b3, b4⟩ := idGet_one l hl (by rw [h1])
    rw [h1] at b1 b2 b3 b4
    have b5 := (idPut_length (cons := k) b1).2
    have b6 := congrArg List.length b4
    simp only [List.length_take, List.length_drop] at a b6 b3
    simp only at b3 b5 b6
    omega
  · rw [hdGet_ok h1 h2] at h; exact absurd h (by simp)
end Go.Proofs.Ytagigdefghnnhaa
