/- A window over a source, as numbers: what one filling reads, what all that comes is, and how the two go together. -/
import Derived.Test.YtlaeoacaihooiaaSrc
namespace Go.Proofs.Ytlaeoacaihooiaa
set_option linter.unusedVariables false
def wErr (o : Int) : Int := if o = 1 then 14 else if o = 2 then 12 else 0
/-- A filling: it reads till bytes come, or the source is over, or more reads gave none than are borne: how much was given then, how often it was read, the source's end, the window's. -/
def fillM (D : ByteArray) (S : List (Int × Int)) (m : Int) (z : Nat) : Nat → Nat → Nat → Nat → Nat × Nat × Int × Int
  | 0, _, g, c => (g, c, 0, 0)
  | f + 1, nn, g, c =>
    if sOver D S g c 0 m = 1 then (g + sTake D S g c 0 m, c + 1, 1, 14)
    else if sOver D S g c 0 m = 2 then (g + sTake D S g c 0 m, c + 1, 2, 12)
    else if 0 < sTake D S g c 0 m then (g + sTake D S g c 0 m, c + 1, 0, 0)
    else if z < nn + 1 then (g, c + 1, 0, 13)
    else fillM D S m z f (nn + 1) g (c + 1)
/-- All that comes: how much, how many reads, the error behind it. -/
def runM (D : ByteArray) (S : List (Int × Int)) (m : Int) (z : Nat) : Nat → Nat → Nat → Nat → Nat × Nat × Int
  | 0, _, g, c => (g, c, 0)
  | f + 1, nn, g, c =>
    if sOver D S g c 0 m = 1 then (g + sTake D S g c 0 m, c + 1, 14)
    else if sOver D S g c 0 m = 2 then (g + sTake D S g c 0 m, c + 1, 12)
    else if 0 < sTake D S g c 0 m then runM D S m z f 0 (g + sTake D S g c 0 m) (c + 1)
    else if z < nn + 1 then (g, c + 1, 13)
    else runM D S m z f (nn + 1) g (c + 1)
theorem runM_succ (D : ByteArray) (S : List (Int × Int)) (m : Int) (z f nn g c : Nat) : runM D S m z (f + 1) nn g c =
    if sOver D S g c 0 m = 1 then (g + sTake D S g c 0 m, c + 1, 14)
    else if sOver D S g c 0 m = 2 then (g + sTake D S g c 0 m, c + 1, 12)
    else if 0 < sTake D S g c 0 m then runM D S m z f 0 (g + sTake D S g c 0 m) (c + 1)
    else if z < nn + 1 then (g, c + 1, 13)
    else runM D S m z f (nn + 1) g (c + 1) := rfl
theorem fillM_succ (D : ByteArray) (S : List (Int × Int)) (m : Int) (z f nn g c : Nat) : fillM D S m z (f + 1) nn g c =
    if sOver D S g c 0 m = 1 then (g + sTake D S g c 0 m, c + 1, 1, 14)
    else if sOver D S g c 0 m = 2 then (g + sTake D S g c 0 m, c + 1, 2, 12)
    else if 0 < sTake D S g c 0 m then (g + sTake D S g c 0 m, c + 1, 0, 0)
    else if z < nn + 1 then (g, c + 1, 0, 13)
    else fillM D S m z f (nn + 1) g (c + 1) := rfl
section
variable {D : ByteArray} {S : List (Int × Int)} {m : Int} {z : Nat}
/-- Reads that don't end the source are no more than its steps and the bytes that came. -/
theorem calls_le (hm : 1 ≤ m) {g c : Nat} (hg : g ≤ D.size) (hc : c ≤ S.length + g) (h1 : sOver D S g c 0 m ≠ 1) (h2 : sOver D S g c 0 m ≠ 2) : c + 1 ≤ S.length + (g + sTake D S g c 0 m) := by
  by_cases hcs : c < S.length
  · omega
  · have hM : sMost D S g c = (D.size - g : Nat) := by unfold sMost; rw [dif_neg hcs]
    have hK : sKind D S g c = if g = D.size then 1 else 0 := by unfold sKind; rw [dif_neg hcs]
    have hT : sTake D S g c 0 m = (min (min m (D.size - g : Nat)) ((D.size - g : Nat) : Int)).toNat := by unfold sTake; rw [if_pos rfl, hM]
    by_cases hz : g = D.size
    · exfalso
      apply h1
      unfold sOver
      rw [if_pos rfl, hK, if_pos hz, if_neg (by decide), if_pos ⟨rfl, by rw [hT]; omega⟩]
    · rw [hT]; omega
theorem sTake_m (g c : Nat) : (sTake D S g c 0 m : Int) ≤ max m 0 := by
  have := sTake_n D S g c 0 m
  omega
/-- What a filling leaves. -/
structure Filled (D : ByteArray) (S : List (Int × Int)) (m : Int) (g c : Nat) (r : Nat × Nat × Int × Int) : Prop where
  up : g ≤ r.1
  top : r.1 ≤ D.size
  room : (r.1 : Int) - g ≤ max m 0
  more : c < r.2.1
  ends : r.2.2.2 = 0 ∧ r.2.2.1 = 0 ∧ g < r.1 ∧ r.2.1 ≤ S.length + r.1 ∨ r.2.2.2 = 12 ∧ r.2.2.1 = 2 ∨ r.2.2.2 = 13 ∧ r.2.2.1 = 0 ∧ r.1 = g ∨ r.2.2.2 = 14 ∧ r.2.2.1 = 1 ∧ r.1 = D.size
theorem sOver_one {g c : Nat} (h : sOver D S g c 0 m = 1) : g + sTake D S g c 0 m = D.size := by
  unfold sOver at h
  rw [if_pos rfl] at h
  split at h
  · cases h
  · split at h
    · next h' => exact h'.2
    · cases h
theorem fill_spec (hm : 1 ≤ m) : ∀ (f nn g c : Nat), g ≤ D.size → c ≤ S.length + g → S.length + D.size + 1 ≤ f + c → Filled D S m g c (fillM D S m z f nn g c)
  | 0, nn, g, c, hg, hc, hf => by omega
  | f + 1, nn, g, c, hg, hc, hf => by
    have hle := sTake_le D S g c 0 m hg
    have htm := sTake_m (D := D) (S := S) (m := m) g c
    rw [fillM_succ]
    split
    · next h => exact ⟨by simp, hle, by simp; omega, by simp, .inr (.inr (.inr ⟨rfl, rfl, sOver_one h⟩))⟩
    · next h1 =>
      split
      · exact ⟨by simp, hle, by simp; omega, by simp, .inr (.inl ⟨rfl, rfl⟩)⟩
      · next h2 =>
        have hcl := calls_le hm hg hc h1 h2
        split
        · next h3 => exact ⟨by simp, hle, by simp; omega, by simp, .inl ⟨rfl, rfl, by simp; omega, hcl⟩⟩
        · next h3 =>
          split
          · exact ⟨by simp, hg, by simp; omega, by simp, .inr (.inr (.inl ⟨rfl, rfl, rfl⟩))⟩
          · have := fill_spec hm f (nn + 1) g (c + 1) hg (by omega) (by omega)
            exact ⟨this.up, this.top, this.room, by have := this.more; omega, this.ends⟩
theorem run_more (hm : 1 ≤ m) : ∀ (f nn g c : Nat), g ≤ D.size → c ≤ S.length + g → S.length + D.size + 1 ≤ f + c → runM D S m z (f + 1) nn g c = runM D S m z f nn g c
  | 0, nn, g, c, hg, hc, hf => by omega
  | f + 1, nn, g, c, hg, hc, hf => by
    have hle := sTake_le D S g c 0 m hg
    rw [runM_succ D S m z (f + 1) nn g c, runM_succ D S m z f nn g c]
    split
    · rfl
    · next h1 =>
      split
      · rfl
      · next h2 =>
        have hcl := calls_le hm hg hc h1 h2
        split
        · exact run_more hm f 0 _ _ hle hcl (by omega)
        · split
          · rfl
          · exact run_more hm f _ _ _ hg (by omega) (by omega)
/-- The fuel that is always enough. -/
def fuel (D : ByteArray) (S : List (Int × Int)) (c : Nat) : Nat := S.length + D.size + 2 - c
theorem run_fuel (hm : 1 ≤ m) {g c nn : Nat} (hg : g ≤ D.size) (hc : c ≤ S.length + g) : ∀ f, S.length + D.size + 1 ≤ f + c → runM D S m z f nn g c = runM D S m z (fuel D S c) nn g c := by
  have key : ∀ k f, S.length + D.size + 1 ≤ f + c → runM D S m z (f + k) nn g c = runM D S m z f nn g c := by
    intro k
    induction k with
    | zero => intro f _; rfl
    | succ k ih =>
      intro f hf
      rw [show f + (k + 1) = f + k + 1 by omega, run_more hm _ _ _ _ hg hc (by omega), ih f hf]
  intro f hf
  have h1 := key (fuel D S c) f hf
  have h2 := key f (fuel D S c) (by unfold fuel; omega)
  rw [← h1, ← h2, Nat.add_comm]
theorem run_ge (hm : 1 ≤ m) : ∀ (f nn g c : Nat), g ≤ D.size → g ≤ (runM D S m z f nn g c).1 ∧ (runM D S m z f nn g c).1 ≤ D.size
  | 0, nn, g, c, hg => ⟨Nat.le_refl _, hg⟩
  | f + 1, nn, g, c, hg => by
    have hle := sTake_le D S g c 0 m hg
    rw [runM_succ]
    split
    · exact ⟨by simp, hle⟩
    · split
      · exact ⟨by simp, hle⟩
      · split
        · have := run_ge hm f 0 (g + sTake D S g c 0 m) (c + 1) hle
          exact ⟨by omega, this.2⟩
        · split
          · exact ⟨Nat.le_refl _, hg⟩
          · exact run_ge hm f (nn + 1) g (c + 1) hg
/-- All that comes is what the first filling gives, and all that comes then. -/
theorem run_fill (hm : 1 ≤ m) : ∀ (f nn g c : Nat), g ≤ D.size → c ≤ S.length + g → S.length + D.size + 1 ≤ f + c →
    runM D S m z f nn g c = if (fillM D S m z f nn g c).2.2.2 = 0 then runM D S m z (fuel D S (fillM D S m z f nn g c).2.1) 0 (fillM D S m z f nn g c).1 (fillM D S m z f nn g c).2.1
      else ((fillM D S m z f nn g c).1, (fillM D S m z f nn g c).2.1, (fillM D S m z f nn g c).2.2.2)
  | 0, nn, g, c, hg, hc, hf => by omega
  | f + 1, nn, g, c, hg, hc, hf => by
    have hle := sTake_le D S g c 0 m hg
    rw [runM_succ, fillM_succ]
    split
    · rfl
    · next h1 =>
      split
      · rfl
      · next h2 =>
        have hcl := calls_le hm hg hc h1 h2
        split
        · rw [if_pos rfl]
          exact run_fuel hm hle hcl _ (by omega)
        · split
          · rfl
          · exact run_fill hm f (nn + 1) g (c + 1) hg (by omega) (by omega)
end
end Go.Proofs.Ytlaeoacaihooiaa
