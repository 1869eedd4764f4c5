/- Slices that came in of calls: each a kind and a text: their cells as a list. Of any program. -/
import Derived.Test.YtfkfkoebplpooaaCame
namespace Go.Proofs.Ytfkfkoebplpooaa
open Go.RowKit Go.ChangeShapes Go.WideShapes Go.Deep
set_option linter.unusedVariables false
/-- Calls' cells: each one's kind and its text. -/
def kts (l : List (Int × ByteArray)) : List Value := l.flatMap fun s => [.int .i64 s.1, .string s.2]
theorem kts_get {l : List (Int × ByteArray)} {i : Nat} (h : i < l.length) : (kts l)[2 * i]? = Option.some (.int .i64 l[i].1) ∧ (kts l)[2 * i + 1]? = Option.some (.string l[i].2) := by
  induction l generalizing i with
  | nil => simp at h
  | cons s r ih =>
    cases i with
    | zero => exact ⟨rfl, rfl⟩
    | succ i =>
      have := ih (i := i) (by simpa using h)
      refine ⟨?_, ?_⟩
      · rw [show 2 * (i + 1) = 2 * i + 1 + 1 by omega]; exact this.1
      · rw [show 2 * (i + 1) + 1 = 2 * i + 1 + 1 + 1 by omega]; exact this.2
theorem kts_length (l : List (Int × ByteArray)) : (kts l).length = 2 * l.length := by
  induction l with
  | nil => rfl
  | cons s r ih => show (kts r).length + 1 + 1 = _; rw [ih, List.length_cons]; omega
theorem add_field18 (a : Addr) (i : Nat) : a.add (2 * i + 1) = ⟨(a.add (i * 2)).block, (a.add (i * 2)).off + 1, none⟩ := by
  unfold Addr.add
  rw [if_neg (by omega)]
  by_cases h : i * 2 = 0
  · rw [if_pos h, show 2 * i + 1 = 1 by omega]
  · rw [if_neg h, show a.off + (2 * i + 1) = a.off + i * 2 + 1 by omega]
section
variable {H : Type} {enc : TypeId × Value → H} {P : Program} {w : World} {base : Nat} {spare : Nat → Bool} {held : Bool}
theorem came_kt {t e : TypeId} {f0 f1 : Field} {a : Option Addr} {len cap : Nat} {d : DataW H} {p : List MemPlace} (ht : P.underlying t = some (.slice e)) (he : P.underlying e = some (.struct #[f0, f1]))
    (ce : P.cellsOf e = 2) (o0 : f0.offset = 0) (o1 : f1.offset = 1) (c0 : P.cellsOf f0.type = 1) (c1 : P.cellsOf f1.type = 1) (k0 : P.underlying f0.type = some (.int .i64)) (k1 : P.underlying f1.type = some .string)
    (h : DataW.Trod enc P w base spare held t (.slice a len cap) d p) : ∃ l : List (Int × ByteArray), l.length = len ∧ len ≤ cap ∧ cap ≤ maxLen ∧ Came w a (kts l) ∧ ∀ s ∈ l, InI s.1 ∧ s.2.size ≤ maxLen := by
  obtain ⟨fuel, hf⟩ := h
  rcases open_slice_pairs ht he ce o0 o1 c0 c1 hf with ⟨hcs, _⟩ | ⟨x, l, c, m, n, V0, V1, D0, D1, P0, P1, hcs, _, hl, hm, hmm, _, hx⟩
  · simp [Value.cells] at hcs
    obtain ⟨rfl, rfl, rfl⟩ := hcs
    exact ⟨[], rfl, Nat.le_refl _, Nat.zero_le _, Came.nil _ _, by simp⟩
  · simp [Value.cells] at hcs
    obtain ⟨rfl, rfl, rfl⟩ := hcs
    have hlz : len ≤ m := by rw [hmm]; split <;> omega
    have each : ∀ i, i < len → ∃ q : Int × ByteArray, w.cell? (x.add (i * 2)) = some (.int .i64 q.1) ∧ w.cell? (x.add (i * 2 + 1)) = some (.string q.2) ∧ InI q.1 ∧ q.2.size ≤ maxLen := by
      intro i hi
      obtain ⟨h1, h2, h3, h4⟩ := hx i (by omega)
      obtain ⟨n0, e0, _, w0⟩ := DataW.trod_int k0 h3
      obtain ⟨n1, e1, _, w1⟩ := DataW.trod_string k1 h4
      simp at e0 e1
      exact ⟨(n0, n1), by rw [h1, e0], by rw [h2, e1], inK_of w0, w1⟩
    obtain ⟨q, hq⟩ := choose_lt each
    refine ⟨(List.range len).map q, by simp, hl, hm, fun j u hj => ⟨x, rfl, ?_⟩, fun s hs => ?_⟩
    · have hj' := (List.getElem?_eq_some_iff.1 hj).1
      rw [kts_length] at hj'
      simp at hj'
      have hi : j / 2 < len := by omega
      have hg := kts_get (l := (List.range len).map q) (i := j / 2) (by simpa using hi)
      obtain ⟨h1, h2, _⟩ := hq (j / 2) hi
      simp only [List.getElem_map, List.getElem_range] at hg
      rcases Nat.mod_two_eq_zero_or_one j with hm2 | hm2
      · have e : j = 2 * (j / 2) := by omega
        rw [e, hg.1] at hj
        rw [show j = j / 2 * 2 by omega, h1]; exact hj
      · have e : j = 2 * (j / 2) + 1 := by omega
        rw [e, hg.2] at hj
        rw [show j = j / 2 * 2 + 1 by omega, h2]; exact hj
    · obtain ⟨i, hi, rfl⟩ := List.mem_map.1 hs
      exact (hq i (List.mem_range.1 hi)).2.2
end
end Go.Proofs.Ytfkfkoebplpooaa
