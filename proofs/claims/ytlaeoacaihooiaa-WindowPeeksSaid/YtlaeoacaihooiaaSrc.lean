/- A source that does what its steps say, as numbers: what a call takes, and what comes of it. -/
import Derived.WalkKit
import Derived.PlainAid
namespace Go.Proofs.Ytlaeoacaihooiaa
set_option linter.unusedVariables false
/-- How much of a text stands behind a place. -/
def left (D : ByteArray) (at_ : Nat) : Nat := D.size - at_
/-- The bound that the next call's step lays on it, and the step's kind. -/
def sMost (D : ByteArray) (S : List (Int × Int)) (at_ calls : Nat) : Int := if h : calls < S.length then S[calls].1 else (D.size - at_ : Nat)
def sKind (D : ByteArray) (S : List (Int × Int)) (at_ calls : Nat) : Int := if h : calls < S.length then S[calls].2 else if at_ = D.size then 1 else 0
/-- How many bytes a call takes. -/
def sTake (D : ByteArray) (S : List (Int × Int)) (at_ calls : Nat) (over n : Int) : Nat := if over = 0 then (min (min n (sMost D S at_ calls)) ((D.size - at_ : Nat) : Int)).toNat else 0
/-- What comes of it. -/
def sOver (D : ByteArray) (S : List (Int × Int)) (at_ calls : Nat) (over n : Int) : Int :=
  if over = 0 then if sKind D S at_ calls = 2 then 2 else if sKind D S at_ calls = 1 ∧ at_ + sTake D S at_ calls over n = D.size then 1 else 0 else over
theorem sTake_le (D : ByteArray) (S : List (Int × Int)) (at_ calls : Nat) (over n : Int) (h : at_ ≤ D.size) : at_ + sTake D S at_ calls over n ≤ D.size := by
  unfold sTake; split <;> omega
theorem sTake_n (D : ByteArray) (S : List (Int × Int)) (at_ calls : Nat) (over n : Int) : sTake D S at_ calls over n ≤ n.toNat := by
  unfold sTake; split <;> omega
theorem sOver_in (D : ByteArray) (S : List (Int × Int)) (at_ calls : Nat) (over n : Int) (h : over = 0 ∨ over = 1 ∨ over = 2) : sOver D S at_ calls over n = 0 ∨ sOver D S at_ calls over n = 1 ∨ sOver D S at_ calls over n = 2 := by
  unfold sOver; split
  · split
    · omega
    · split <;> omega
  · exact h
end Go.Proofs.Ytlaeoacaihooiaa
