/- Bounded capture, in plain words: what is kept, how much can be, whether it is on. They hold of any bytes. -/
import Derived.Test.YtemdeopghkcpbaaBytes
namespace Go.Proofs.Ytemdeopghkcpbaa
open Go.PlainAid
set_option linter.unusedVariables false
structure KM where
  most : Nat
  kept : List Int
  on : Bool
def KM.new (most : Int) : KM := ⟨(min (max most 0) 65536).toNat, [], false⟩
/-- A byte: what it is then, and the error. -/
def KM.push (c : KM) (b : Int) : KM := if c.on = false then c else if c.most ≤ c.kept.length then { c with on := false } else { c with kept := c.kept ++ [b] }
def KM.pushE (c : KM) : Int := if c.on = true ∧ c.most ≤ c.kept.length then 11 else 0
def KM.begin (c : KM) (l : List Int) : KM := if c.most < l.length then ⟨c.most, l.take c.most, false⟩ else ⟨c.most, l, true⟩
def KM.beginE (c : KM) (l : List Int) : Int := if c.most < l.length then 11 else 0
def KM.fin (c : KM) : KM := { c with on := false }
structure KM.Ok (c : KM) : Prop where
  most : c.most ≤ 65536
  isB : IsB c.kept
  len : c.kept.length ≤ c.most
theorem KM.new_ok (most : Int) : (KM.new most).Ok := ⟨by unfold KM.new; simp; omega, fun _ h => by simp [KM.new] at h, Nat.zero_le _⟩
theorem KM.push_off {c : KM} (b : Int) (h : c.on = false) : c.push b = c := by unfold KM.push; rw [if_pos h]
theorem KM.push_over {c : KM} (b : Int) (h : c.on = true) (h2 : c.most ≤ c.kept.length) : c.push b = { c with on := false } := by unfold KM.push; rw [if_neg (by rw [h]; exact Bool.noConfusion), if_pos h2]
theorem KM.push_on {c : KM} (b : Int) (h : c.on = true) (h2 : ¬ c.most ≤ c.kept.length) : c.push b = { c with kept := c.kept ++ [b] } := by unfold KM.push; rw [if_neg (by rw [h]; exact Bool.noConfusion), if_neg h2]
theorem KM.pushE_off {c : KM} (h : c.on = false) : c.pushE = 0 := by unfold KM.pushE; rw [if_neg (by rw [h]; exact fun h => Bool.noConfusion h.1)]
theorem KM.pushE_over {c : KM} (h : c.on = true) (h2 : c.most ≤ c.kept.length) : c.pushE = 11 := by unfold KM.pushE; rw [if_pos ⟨h, h2⟩]
theorem KM.pushE_on {c : KM} (h2 : ¬ c.most ≤ c.kept.length) : c.pushE = 0 := by unfold KM.pushE; rw [if_neg (fun h => h2 h.2)]
theorem KM.push_ok {c : KM} (h : c.Ok) {b : Int} (hb : 0 ≤ b ∧ b ≤ 255) : (c.push b).Ok := by
  cases ho : c.on with
  | false => rw [KM.push_off b ho]; exact h
  | true =>
    by_cases hl : c.most ≤ c.kept.length
    · rw [KM.push_over b ho hl]; exact ⟨h.most, h.isB, h.len⟩
    · rw [KM.push_on b ho hl]
      exact ⟨h.most, h.isB.append (IsB.cons hb.1 hb.2 (fun _ h => by simp at h)), by show (c.kept ++ [b]).length ≤ c.most; rw [List.length_append, List.length_singleton]; omega⟩
theorem KM.begin_ok {c : KM} (h : c.Ok) {l : List Int} (hl : IsB l) : (c.begin l).Ok := by
  unfold KM.begin
  by_cases q : c.most < l.length
  · rw [if_pos q]; exact ⟨h.most, fun x hx => hl x (List.mem_of_mem_take hx), by show (l.take c.most).length ≤ c.most; rw [List.length_take]; omega⟩
  · rw [if_neg q]; exact ⟨h.most, hl, by show l.length ≤ c.most; omega⟩
theorem KM.fin_ok {c : KM} (h : c.Ok) : c.fin.Ok := ⟨h.most, h.isB, h.len⟩
theorem KM.begin_most (c : KM) (l : List Int) : (c.begin l).most = c.most := by unfold KM.begin; split <;> rfl
theorem KM.push_most (c : KM) (b : Int) : (c.push b).most = c.most := by unfold KM.push; split; rfl; split <;> rfl
/-- Byte by byte behind a beginning: it is kept as in one go. -/
def KM.all (c : KM) (l : List Int) : KM := l.foldl KM.push c
theorem KM.all_snoc (c : KM) (l : List Int) (b : Int) : c.all (l ++ [b]) = (c.all l).push b := by unfold KM.all; rw [List.foldl_append]; rfl
theorem KM.begin_push (c : KM) (l : List Int) (b : Int) : (c.begin l).push b = c.begin (l ++ [b]) := by
  unfold KM.begin
  by_cases q : c.most < l.length
  · rw [if_pos q, if_pos (by rw [List.length_append]; omega), KM.push_off b rfl, List.take_append_of_le_length (by omega)]
  · rw [if_neg q]
    by_cases q2 : c.most ≤ l.length
    · rw [KM.push_over b rfl q2, if_pos (by rw [List.length_append, List.length_singleton]; omega)]
      show KM.mk c.most l false = _
      rw [List.take_append_of_le_length (by omega), List.take_of_length_le (by omega)]
    · rw [KM.push_on b rfl q2, if_neg (by rw [List.length_append, List.length_singleton]; omega)]
theorem KM.begin_all (c : KM) (l : List Int) : ∀ (n : Nat) (r : List Int), r.length = n → (c.begin l).all r = c.begin (l ++ r) := by
  intro n
  induction n with
  | zero =>
    intro r hr
    obtain rfl : r = [] := List.length_eq_zero_iff.1 hr
    rw [List.append_nil]; rfl
  | succ n ih =>
    intro r hr
    obtain ⟨k, x, rfl⟩ : ∃ k x, r = k ++ [x] := ⟨r.dropLast, r.getLast (by intro e; rw [e] at hr; simp at hr), (List.dropLast_concat_getLast _).symm⟩
    rw [KM.all_snoc, ih k (by simpa using hr), KM.begin_push, List.append_assoc]
/-- How often an error is told, byte by byte. -/
theorem KM.pushE_begin (c : KM) (l : List Int) : (c.begin l).pushE = if l.length = c.most then 11 else 0 := by
  unfold KM.begin
  by_cases q : c.most < l.length
  · rw [if_pos q, KM.pushE_off rfl, if_neg (by omega)]
  · rw [if_neg q]
    by_cases q2 : c.most ≤ l.length
    · rw [KM.pushE_over rfl q2, if_pos (by omega)]
    · rw [KM.pushE_on q2, if_neg (by omega)]
end Go.Proofs.Ytemdeopghkcpbaa
