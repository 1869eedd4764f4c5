/- Queries for serial numbers, in plain words: which texts are serial numbers, what is answered to each text, what came since the last beginning. They hold of any texts. -/
import Derived.Test.YtpdflpobhmpbpaaBytes
import Derived.Test.YtpdflpobhmpbpaaNumb
namespace Go.Proofs.Ytpdflpobhmpbpaa
open Go.PlainAid
set_option linter.unusedVariables false
abbrev QAns := Bool × ByteArray
/-- Is it a serial number? -/
def serR (s : ByteArray) : Bool := decide (0 < s.size ∧ s.size ≤ 20 ∧ nmWrong 2 s.size s = -1)
def serAll (l : List ByteArray) : Bool := l.all serR && decide (l.length ≤ 64)
structure QS where
  ans : ByteArray → QAns
  came : List Int
  begun : Bool
def QS.zero : QS := ⟨fun _ => (false, ⟨#[]⟩), [], false⟩
def QS.begin (q : QS) : QS := ⟨q.ans, [], true⟩
def QS.push (q : QS) (b : Int) : QS := ⟨q.ans, q.came ++ [b], q.begun⟩
def QS.all (q : QS) (l : List Int) : QS := ⟨q.ans, q.came ++ l, q.begun⟩
/-- Is this text answered by a date now? -/
def QS.hits (q : QS) (x : ByteArray) : Bool := q.begun && !(q.ans x).1 && decide (bl x = q.came)
def QS.date (q : QS) (d : ByteArray) : QS := ⟨fun x => if q.hits x then (true, d) else q.ans x, q.came, q.begun⟩
/-- What is answered to a list of texts. -/
def QS.found (q : QS) (l : List ByteArray) : List QAns := l.map q.ans
theorem QS.found_len (q : QS) (l : List ByteArray) : (q.found l).length = l.length := by simp [QS.found]
theorem QS.found_at (q : QS) {l : List ByteArray} {i : Nat} (h : i < l.length) : (q.found l)[i]'(by rw [QS.found_len]; exact h) = q.ans l[i] := by simp [QS.found]
theorem QS.found_push (q : QS) (b : Int) (l : List ByteArray) : (q.push b).found l = q.found l := rfl
theorem QS.found_begin (q : QS) (l : List ByteArray) : q.begin.found l = q.found l := rfl
theorem QS.zero_found (l : List ByteArray) : QS.zero.found l = List.replicate l.length (false, ⟨#[]⟩) := by
  induction l with
  | nil => rfl
  | cons x r ih => show _ :: QS.zero.found r = _; rw [ih]; rfl
theorem QS.found_append (q : QS) (l m : List ByteArray) : q.found (l ++ m) = q.found l ++ q.found m := by simp [QS.found]
theorem QS.all_nil (q : QS) : q.all [] = q := by unfold QS.all; rw [List.append_nil]
theorem QS.all_push (q : QS) (l : List Int) (b : Int) : (q.all l).push b = q.all (l ++ [b]) := by unfold QS.all QS.push; rw [List.append_assoc]
structure QS.Ok (q : QS) : Prop where
  isB : IsB q.came
  small : q.came.length ≤ 1000000000
theorem QS.zero_ok : QS.zero.Ok := ⟨IsB.nil, Nat.zero_le _⟩
theorem QS.begin_ok (q : QS) : q.begin.Ok := ⟨IsB.nil, Nat.zero_le _⟩
theorem QS.push_ok {q : QS} (h : q.Ok) {b : Int} (hb : 0 ≤ b ∧ b ≤ 255) (hl : q.came.length < 1000000000) : (q.push b).Ok := ⟨h.isB.append (IsB.cons hb.1 hb.2 IsB.nil), by show (q.came ++ [b]).length ≤ _; rw [List.length_append, List.length_singleton]; omega⟩
theorem QS.date_ok {q : QS} (h : q.Ok) (d : ByteArray) : (q.date d).Ok := ⟨h.isB, h.small⟩
theorem serAll_len {l : List ByteArray} (h : serAll l = true) : l.length ≤ 64 := by
  unfold serAll at h
  rw [Bool.and_eq_true, decide_eq_true_eq] at h
  exact h.2
theorem serAll_mem {l : List ByteArray} (h : serAll l = true) : ∀ x ∈ l, serR x = true := by
  unfold serAll at h
  rw [Bool.and_eq_true, List.all_eq_true] at h
  exact h.1
theorem serR_len {s : ByteArray} (h : serR s = true) : 0 < s.size ∧ s.size ≤ 20 := by
  unfold serR at h
  rw [decide_eq_true_eq] at h
  exact ⟨h.1, h.2.1⟩
theorem serAll_append {l m : List ByteArray} (h : serAll l = true) (k : serAll m = true) (hl : l.length + m.length ≤ 64) : serAll (l ++ m) = true := by
  unfold serAll
  rw [Bool.and_eq_true, List.all_eq_true, decide_eq_true_eq, List.length_append]
  refine ⟨fun x hx => ?_, hl⟩
  rcases List.mem_append.1 hx with q | q
  · exact serAll_mem h x q
  · exact serAll_mem k x q
theorem serAll_one {s : ByteArray} (h : serR s = true) : serAll [s] = true := by unfold serAll; simp [h]
/-! ### The first date stays -/
/-- Behind a date of a serial number, and behind another one: the first is told. -/
theorem QS.first_at (s d : ByteArray) (x : ByteArray) : ((((QS.zero.begin).all (bl s)).date d).ans x) = if x = s then (true, d) else (false, ⟨#[]⟩) := by
  show (if (QS.hits ⟨_, _, true⟩ x) then (true, d) else (false, ⟨#[]⟩)) = _
  unfold QS.hits
  by_cases h : x = s
  · subst h; simp [QS.zero, QS.begin]
  · have : ¬ bl x = bl s := fun e => h (bl_inj e)
    rw [if_neg h]; simp [QS.zero, QS.begin, this]
theorem QS.first' (q : QS) (s d : ByteArray) (h : ∀ x, q.ans x = (false, ⟨#[]⟩)) (x : ByteArray) : (((q.begin).all (bl s)).date d).ans x = if x = s then (true, d) else (false, ⟨#[]⟩) := by
  show (if (QS.hits ⟨q.ans, [] ++ bl s, true⟩ x) then (true, d) else q.ans x) = _
  unfold QS.hits
  rw [h x]
  by_cases e : x = s
  · subst e; simp
  · have : ¬ bl x = bl s := fun e' => e (bl_inj e')
    rw [if_neg e]; simp [this]
theorem QS.again (q : QS) (s d : ByteArray) (h : (q.ans s).1 = true) (x : ByteArray) : (((q.begin).all (bl s)).date d).ans x = q.ans x := by
  show (if (QS.hits ⟨q.ans, [] ++ bl s, true⟩ x) then (true, d) else q.ans x) = _
  unfold QS.hits
  by_cases e : x = s
  · subst e; rw [h]; simp
  · have : ¬ bl x = bl s := fun e' => e (bl_inj e')
    simp [this]
/-- What came is no text that is asked for: nothing is answered. -/
theorem QS.date_none {q : QS} {x : ByteArray} (h : bl x ≠ q.came) (d : ByteArray) : (q.date d).ans x = q.ans x := by
  show (if q.hits x then _ else _) = _
  unfold QS.hits
  rw [decide_eq_false h, Bool.and_false]
  rfl
end Go.Proofs.Ytpdflpobhmpbpaa
