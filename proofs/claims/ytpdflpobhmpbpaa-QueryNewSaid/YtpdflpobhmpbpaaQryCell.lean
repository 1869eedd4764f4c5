/- What the landed code of queries keeps of a serial number: twenty bytes and a count; and what two of them being alike says. Plain, of any bytes. -/
import Derived.Test.YtpdflpobhmpbpaaQry
import Derived.Test.YtpdflpobhmpbpaaByteSl
namespace Go.Proofs.Ytpdflpobhmpbpaa
open Go.RowKit Go.PlainAid
set_option linter.unusedVariables false
/-- The bytes that are kept of those that came, with zeros behind. -/
def seB (l : List Int) : List Int := l.take 20 ++ List.replicate (20 - l.length) 0
def seN (l : List Int) : Nat := min l.length 21
def seC (l : List Int) : List Value := u8s (seB l) ++ [.int .i64 (seN l : Int)]
theorem seB_length (l : List Int) : (seB l).length = 20 := by unfold seB; rw [List.length_append, List.length_take, List.length_replicate]; omega
theorem seN_le (l : List Int) : seN l ≤ 21 := by unfold seN; omega
theorem seC_length (l : List Int) : (seC l).length = 21 := by unfold seC; rw [List.length_append, u8s_length, seB_length]; rfl
theorem seB_push {l : List Int} (h : l.length < 20) (b : Int) : (seB l).set l.length b = seB (l ++ [b]) := by
  unfold seB
  rw [List.take_of_length_le (by omega), List.take_of_length_le (by simp; omega), List.set_append_right _ _ (Nat.le_refl _), Nat.sub_self]
  obtain ⟨m, hm⟩ : ∃ m, 20 - l.length = m + 1 := ⟨20 - l.length - 1, by omega⟩
  rw [hm, List.replicate_succ, List.set_cons_zero, List.append_assoc]
  congr 1
  rw [List.length_append, List.length_singleton, show 20 - (l.length + 1) = m by omega]
  rfl
theorem seB_over {l : List Int} (h : 20 ≤ l.length) (b : Int) : seB (l ++ [b]) = seB l := by
  unfold seB
  rw [List.take_append_of_le_length h, List.length_append, List.length_singleton, show 20 - (l.length + 1) = 0 by omega, show 20 - l.length = 0 by omega]
theorem seN_push (l : List Int) (b : Int) : seN (l ++ [b]) = min (seN l + 1) 21 := by
  unfold seN; rw [List.length_append, List.length_singleton]; omega
theorem seB_nil : seB [] = List.replicate 20 0 := rfl
/-- What is kept tells bytes of at most twenty apart. -/
theorem se_inj {l m : List Int} (hl : l.length ≤ 20) (h1 : seB l = seB m) (h2 : seN l = seN m) : l = m := by
  unfold seN at h2
  have h3 : l.length = m.length := by omega
  have h4 : (seB l).take l.length = (seB m).take l.length := by rw [h1]
  unfold seB at h4
  rwa [List.take_of_length_le hl, List.take_of_length_le (by omega : m.length ≤ 20), List.take_append_of_le_length (Nat.le_refl _), List.take_of_length_le (Nat.le_refl _), h3, List.take_append_of_le_length (Nat.le_refl _), List.take_of_length_le (Nat.le_refl _)] at h4
/-- What is kept of what came: ahead of any beginning it is nobody's. -/
def cB (q : QS) : List Int := if q.begun then seB q.came else List.replicate 20 0
def cN (q : QS) : Nat := if q.begun then seN q.came else 21
def cC (q : QS) : List Value := u8s (cB q) ++ [.int .i64 (cN q : Int)]
theorem cB_length (q : QS) : (cB q).length = 20 := by unfold cB; split; exact seB_length _; rw [List.length_replicate]
theorem cN_le (q : QS) : cN q ≤ 21 := by unfold cN; split; exact seN_le _; exact Nat.le_refl _
theorem cC_length (q : QS) : (cC q).length = 21 := by unfold cC; rw [List.length_append, u8s_length, cB_length]; rfl
theorem cC_begin (q : QS) : cC q.begin = u8s (List.replicate 20 0) ++ [.int .i64 0] := rfl
theorem cC_zero : cC QS.zero = u8s (List.replicate 20 0) ++ [.int .i64 21] := rfl
/-- A byte more. -/
theorem cB_push (q : QS) (b : Int) : cB (q.push b) = if cN q < 20 then (cB q).set (cN q) b else cB q := by
  unfold cB cN
  show (if q.begun then seB (q.came ++ [b]) else _) = _
  by_cases hq : q.begun = true
  · rw [if_pos hq, if_pos hq, if_pos hq]
    by_cases h : q.came.length < 20
    · have e : seN q.came = q.came.length := by unfold seN; omega
      rw [e, if_pos h, seB_push h]
    · have e : ¬ seN q.came < 20 := by unfold seN; omega
      rw [if_neg e, seB_over (by omega)]
  · rw [if_neg hq, if_neg hq, if_neg hq, if_neg (by omega)]
theorem cN_push (q : QS) (b : Int) : cN (q.push b) = min (cN q + 1) 21 := by
  unfold cN
  show (if q.begun then seN (q.came ++ [b]) else _) = _
  by_cases hq : q.begun = true
  · rw [if_pos hq, if_pos hq, seN_push]
  · rw [if_neg hq, if_neg hq]
    decide
/-- Are they alike? Just if it is that text that came. -/
theorem c_alike (q : QS) {x : ByteArray} (hx : x.size ≤ 20) : (seB (bl x) = cB q ∧ seN (bl x) = cN q) ↔ (q.begun = true ∧ bl x = q.came) := by
  have hl := bl_length x
  by_cases hq : q.begun = true
  · unfold cB cN
    rw [if_pos hq, if_pos hq]
    exact ⟨fun h => ⟨hq, se_inj (by omega) h.1 h.2⟩, fun h => by rw [h.2]; exact ⟨rfl, rfl⟩⟩
  · unfold cB cN
    rw [if_neg hq, if_neg hq]
    refine ⟨fun h => ?_, fun h => absurd h.1 hq⟩
    have := h.2
    unfold seN at this
    omega
theorem isB_zeros (n : Nat) : IsB (List.replicate n 0) := by
  intro x hx
  rw [(List.mem_replicate.1 hx).2]
  decide
theorem seB_isB {l : List Int} (h : IsB l) : IsB (seB l) := (h.take 20).append (isB_zeros _)
theorem cB_isB (q : QS) (h : IsB q.came) : IsB (cB q) := by
  unfold cB
  split
  · exact seB_isB h
  · exact isB_zeros _
end Go.Proofs.Ytpdflpobhmpbpaa
