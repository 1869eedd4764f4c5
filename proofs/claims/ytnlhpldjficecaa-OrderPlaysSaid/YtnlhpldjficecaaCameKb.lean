/- Slices that came in of calls: each a kind and a byte: their cells as a list. Of any program. -/
import Derived.Test.YtnlhpldjficecaaCame
namespace Go.Proofs.Ytnlhpldjficecaa
open Go.RowKit Go.ChangeShapes Go.WideShapes Go.Deep
set_option linter.unusedVariables false
/-- Calls' cells: each one's kind and its byte. -/
def kbs (l : List (Int × Int)) : List Value := l.flatMap fun s => [.int .i64 s.1, .int .u8 s.2]
theorem kbs_get {l : List (Int × Int)} {i : Nat} (h : i < l.length) : (kbs l)[2 * i]? = Option.some (.int .i64 l[i].1) ∧ (kbs l)[2 * i + 1]? = Option.some (.int .u8 l[i].2) := by
  induction l generalizing i with
  | nil => simp at h
  | cons s r ih =>
    cases i with
    | zero => exact ⟨rfl, rfl⟩
    | succ i =>
      have := ih (i := i) (by simpa using h)
      refine ⟨?_, ?_⟩
      · rw [show 2 * (i + 1) = 2 * i + 1 + 1 by omega]; exact this.1
      · rw [show 2 * (i + 1) + 1 = 2 * i + 1 + 1 + 1 by omega]; exact this.2
theorem kbs_length (l : List (Int × Int)) : (kbs l).length = 2 * l.length := by
  induction l with
  | nil => rfl
  | cons s r ih => show (kbs r).length + 1 + 1 = _; rw [ih, List.length_cons]; omega
theorem add_field16 (a : Addr) (i : Nat) : a.add (2 * i + 1) = ⟨(a.add (i * 2)).block, (a.add (i * 2)).off + 1, none⟩ := by
  unfold Addr.add
  rw [if_neg (by omega)]
  by_cases h : i * 2 = 0
  · rw [if_pos h, show 2 * i + 1 = 1 by omega]
  · rw [if_neg h, show a.off + (2 * i + 1) = a.off + i * 2 + 1 by omega]
section
variable {H : Type} {enc : TypeId × Value → H} {P : Program} {w : World} {base : Nat} {spare : Nat → Bool} {held : Bool}
theorem came_kb {t e : TypeId} {f0 f1 : Field} {a : Option Addr} {len cap : Nat} {d : DataW H} {p : List MemPlace} (ht : P.underlying t = some (.slice e)) (he : P.underlying e = some (.struct #[f0, f1]))
    (ce : P.cellsOf e = 2) (o0 : f0.offset = 0) (o1 : f1.offset = 1) (c0 : P.cellsOf f0.type = 1) (c1 : P.cellsOf f1.type = 1) (k0 : P.underlying f0.type = some (.int .i64)) (k1 : P.underlying f1.type = some (.int .u8))
    (h : DataW.Trod enc P w base spare held t (.slice a len cap) d p) : ∃ l : List (Int × Int), l.length = len ∧ len ≤ cap ∧ cap ≤ maxLen ∧ Came w a (kbs l) ∧ ∀ s ∈ l, InI s.1 ∧ (0 ≤ s.2 ∧ s.2 ≤ 255) := by
  obtain ⟨fuel, hf⟩ := h
  rcases open_slice_pairs ht he ce o0 o1 c0 c1 hf with ⟨hcs, _⟩ | ⟨x, l, c, m, n, V0, V1, D0, D1, P0, P1, hcs, _, hl, hm, hmm, _, hx⟩
  · simp [Value.cells] at hcs
    obtain ⟨rfl, rfl, rfl⟩ := hcs
    exact ⟨[], rfl, Nat.le_refl _, Nat.zero_le _, Came.nil _ _, by simp⟩
  · simp [Value.cells] at hcs
    obtain ⟨rfl, rfl, rfl⟩ := hcs
    have hlz : len ≤ m := by rw [hmm]; split <;> omega
    have each : ∀ i, i < len → ∃ q : Int × Int, w.cell? (x.add (i * 2)) = some (.int .i64 q.1) ∧ w.cell? (x.add (i * 2 + 1)) = some (.int .u8 q.2) ∧ InI q.1 ∧ (0 ≤ q.2 ∧ q.2 ≤ 255) := by
      intro i hi
      obtain ⟨h1, h2, h3, h4⟩ := hx i (by omega)
      obtain ⟨n0, e0, _, w0⟩ := DataW.trod_int k0 h3
      obtain ⟨n1, e1, _, w1⟩ := DataW.trod_int k1 h4
      simp at e0 e1
      exact ⟨(n0, n1), by rw [h1, e0], by rw [h2, e1], inK_of w0, inK_of w1⟩
    obtain ⟨q, hq⟩ := choose_lt each
    refine ⟨(List.range len).map q, by simp, hl, hm, fun j u hj => ⟨x, rfl, ?_⟩, fun s hs => ?_⟩
    · have hj' := (List.getElem?_eq_some_iff.1 hj).1
      rw [kbs_length] at hj'
      simp at hj'
      have hi : j / 2 < len := by omega
      have hg := kbs_get (l := (List.range len).map q) (i := j / 2) (by simpa using hi)
      obtain ⟨h1, h2, _⟩ := hq (j / 2) hi
      simp only [List.getElem_map, List.getElem_range] at hg
      rcases Nat.mod_two_eq_zero_or_one j with hm2 | hm2
      · have e : j = 2 * (j / 2) := by omega
        rw [e, hg.1] at hj
        rw [show j = j / 2 * 2 by omega, h1]; exact hj
      · have e : j = 2 * (j / 2) + 1 := by omega
        rw [e, hg.2] at hj
        rw [show j = j / 2 * 2 + 1 by omega, h2]; exact hj
    · obtain ⟨i, hi, rfl⟩ := List.mem_map.1 hs
      exact (hq i (List.mem_range.1 hi)).2.2
end
end Go.Proofs.Ytnlhpldjficecaa
