/- Slices that came in: their elements' cells as a list. Of any program. -/
import Derived.Deep.Strs
import Derived.Deep.SlicePairs
import Derived.ChangeSlices
import Derived.WalkKit
import Derived.Below
import Derived.Lib.Hide
namespace Go.Proofs.Ytfkfkoebplpooaa
open Go.RowKit Go.ChangeShapes Go.WideShapes Go.Deep
set_option linter.unusedVariables false
/-- A slice at 'oa' whose elements' cells, one behind the other, are l. -/
def Came (w : World) (oa : Option Addr) (l : List Value) : Prop :=
  ∀ j u, l[j]? = some u → ∃ a, oa = some a ∧ w.cell? (a.add j) = some u
theorem Came.nil (w : World) (oa : Option Addr) : Came w oa [] := by intro j u h; simp at h
theorem Came.lt {w : World} {oa : Option Addr} {l : List Value} (h : Came w oa l) {j : Nat} {u : Value} (hj : l[j]? = some u) : ∃ a, oa = some a ∧ w.cell? (a.add j) = some u ∧ a.block < w.heap.size := by
  obtain ⟨a, rfl, hc⟩ := h j u hj
  refine ⟨a, rfl, hc, ?_⟩
  have e : (a.add j).block = a.block := by unfold Addr.add; split <;> rfl
  rw [← e]
  rcases Nat.lt_or_ge (a.add j).block w.heap.size with h1 | h1
  · exact h1
  · exfalso
    unfold World.cell? at hc
    rw [Array.getElem?_eq_none h1] at hc
    simp at hc
theorem Came.below {w w' : World} {oa : Option Addr} {l : List Value} (h : Came w oa l) (hb : Below w.heap.size w w') : Came w' oa l := by
  intro j u hj
  obtain ⟨a, h1, h2, h3⟩ := h.lt hj
  refine ⟨a, h1, ?_⟩
  have e : (a.add j).block = a.block := by unfold Addr.add; split <;> rfl
  rw [hb.cell (by rw [e]; exact h3)]; exact h2
/-- One cell of it, the place as the walk has it. -/
theorem Came.first {w : World} {oa : Option Addr} {l : List Value} (h : Came w oa l) (hl : 0 < l.length) : ∃ a, oa = some a ∧ a.block < w.heap.size ∧ ∀ j u, l[j]? = some u → w.cell? (a.add j) = some u := by
  obtain ⟨a, h1, h2, h3⟩ := h.lt (j := 0) (List.getElem?_eq_getElem hl)
  refine ⟨a, h1, h3, fun j u hj => ?_⟩
  obtain ⟨b, h4, h5⟩ := h j u hj
  rw [h1] at h4; cases h4; exact h5
def ivs (k : IntKind) (l : List Int) : List Value := l.map fun x : Int => Value.int k x
def svs (l : List ByteArray) : List Value := l.map Value.string
/-- Steps' cells: each step's count and its kind. -/
def pvs (l : List (Int × Int)) : List Value := l.flatMap fun s => [.int .i64 s.1, .int .i64 s.2]
def InI (x : Int) : Prop := -9223372036854775808 ≤ x ∧ x ≤ 9223372036854775807
def inK : IntKind → Int → Prop
  | .u8, x => 0 ≤ x ∧ x ≤ 255
  | .u32, x => 0 ≤ x ∧ x ≤ 4294967295
  | .u64, x => 0 ≤ x ∧ x ≤ 18446744073709551615
  | .i64, x => InI x
  | _, _ => True
theorem inK_of {k : IntKind} {x : Int} (h : (Lit.int k x).wf = true) : inK k x := by
  simp only [Lit.wf, Bool.and_eq_true, decide_eq_true_eq] at h
  cases k <;> first | trivial | (simp [IntKind.min, IntKind.max, IntKind.signed, IntKind.bits] at h; simp only [inK, InI]; omega)
section
variable {H : Type} {enc : TypeId × Value → H} {P : Program} {w : World} {base : Nat} {spare : Nat → Bool} {held : Bool}
theorem came_ints {t e : TypeId} {k : IntKind} {a : Option Addr} {len cap : Nat} {d : DataW H} {p : List MemPlace} (ht : P.underlying t = some (.slice e)) (he : P.underlying e = some (.int k)) (hc : P.cellsOf e = 1)
    (h : DataW.Trod enc P w base spare held t (.slice a len cap) d p) : ∃ l : List Int, l.length = len ∧ len ≤ cap ∧ cap ≤ maxLen ∧ Came w a (ivs k l) ∧ ∀ x ∈ l, inK k x := by
  obtain ⟨fuel, hf⟩ := h
  rcases open_ints ht he hc hf with ⟨hcs, _⟩ | ⟨x, l, c, zs, hcs, _, hl, hm, hz, _, hcell, hwz⟩
  · simp [Value.cells] at hcs
    obtain ⟨rfl, rfl, rfl⟩ := hcs
    exact ⟨[], rfl, Nat.le_refl _, Nat.zero_le _, Came.nil _ _, by simp⟩
  · simp [Value.cells] at hcs
    obtain ⟨rfl, rfl, rfl⟩ := hcs
    have hlz : len ≤ zs.length := by rw [hz]; split <;> omega
    refine ⟨zs.take len, by simp [hlz], hl, hm, fun j u hj => ⟨x, rfl, ?_⟩, fun y hy => inK_of (hwz y (List.mem_of_mem_take hy))⟩
    have hj' := (List.getElem?_eq_some_iff.1 hj).1
    simp [ivs] at hj'
    have hjl : j < zs.length := by omega
    rw [hcell j hjl]
    simp [ivs, List.getElem?_take_of_lt (show j < len by omega), hjl] at hj
    rw [← hj]; simp [hjl]
theorem came_strs {t e : TypeId} {a : Option Addr} {len cap : Nat} {d : DataW H} {p : List MemPlace} (ht : P.underlying t = some (.slice e)) (he : P.underlying e = some .string) (hc : P.cellsOf e = 1)
    (h : DataW.Trod enc P w base spare held t (.slice a len cap) d p) : ∃ l : List ByteArray, l.length = len ∧ len ≤ cap ∧ cap ≤ maxLen ∧ Came w a (svs l) ∧ ∀ x ∈ l, x.size ≤ maxLen := by
  obtain ⟨fuel, hf⟩ := h
  rcases open_strs ht he hc hf with ⟨hcs, _⟩ | ⟨x, l, c, m, S, hcs, _, hl, hm, hmm, _, hcell⟩
  · simp [Value.cells] at hcs
    obtain ⟨rfl, rfl, rfl⟩ := hcs
    exact ⟨[], rfl, Nat.le_refl _, Nat.zero_le _, Came.nil _ _, by simp⟩
  · simp [Value.cells] at hcs
    obtain ⟨rfl, rfl, rfl⟩ := hcs
    have hlz : len ≤ m := by rw [hmm]; split <;> omega
    refine ⟨(List.range len).map S, by simp, hl, hm, fun j u hj => ⟨x, rfl, ?_⟩, fun y hy => ?_⟩
    · have hj' := (List.getElem?_eq_some_iff.1 hj).1
      simp [svs] at hj'
      simp [svs, hj'] at hj
      rw [(hcell j (by omega)).1, hj]
    · obtain ⟨i, hi, rfl⟩ := List.mem_map.1 hy
      exact (hcell i (by have := List.mem_range.1 hi; omega)).2
theorem pvs_get {l : List (Int × Int)} {i : Nat} (h : i < l.length) : (pvs l)[2 * i]? = Option.some (.int .i64 l[i].1) ∧ (pvs l)[2 * i + 1]? = Option.some (.int .i64 l[i].2) := by
  induction l generalizing i with
  | nil => simp at h
  | cons s r ih =>
    cases i with
    | zero => exact ⟨rfl, rfl⟩
    | succ i =>
      have := ih (i := i) (by simpa using h)
      refine ⟨?_, ?_⟩
      · rw [show 2 * (i + 1) = 2 * i + 1 + 1 by omega]; exact this.1
      · rw [show 2 * (i + 1) + 1 = 2 * i + 1 + 1 + 1 by omega]; exact this.2
theorem pvs_length (l : List (Int × Int)) : (pvs l).length = 2 * l.length := by
  induction l with
  | nil => rfl
  | cons s r ih => show (pvs r).length + 1 + 1 = _; rw [ih, List.length_cons]; omega
theorem came_pairs {t e : TypeId} {f0 f1 : Field} {a : Option Addr} {len cap : Nat} {d : DataW H} {p : List MemPlace} (ht : P.underlying t = some (.slice e)) (he : P.underlying e = some (.struct #[f0, f1]))
    (ce : P.cellsOf e = 2) (o0 : f0.offset = 0) (o1 : f1.offset = 1) (c0 : P.cellsOf f0.type = 1) (c1 : P.cellsOf f1.type = 1) (k0 : P.underlying f0.type = some (.int .i64)) (k1 : P.underlying f1.type = some (.int .i64))
    (h : DataW.Trod enc P w base spare held t (.slice a len cap) d p) : ∃ l : List (Int × Int), l.length = len ∧ len ≤ cap ∧ cap ≤ maxLen ∧ Came w a (pvs l) ∧ ∀ s ∈ l, InI s.1 ∧ InI s.2 := by
  obtain ⟨fuel, hf⟩ := h
  rcases open_slice_pairs ht he ce o0 o1 c0 c1 hf with ⟨hcs, _⟩ | ⟨x, l, c, m, n, V0, V1, D0, D1, P0, P1, hcs, _, hl, hm, hmm, _, hx⟩
  · simp [Value.cells] at hcs
    obtain ⟨rfl, rfl, rfl⟩ := hcs
    exact ⟨[], rfl, Nat.le_refl _, Nat.zero_le _, Came.nil _ _, by simp⟩
  · simp [Value.cells] at hcs
    obtain ⟨rfl, rfl, rfl⟩ := hcs
    have hlz : len ≤ m := by rw [hmm]; split <;> omega
    have each : ∀ i, i < len → ∃ q : Int × Int, w.cell? (x.add (i * 2)) = some (.int .i64 q.1) ∧ w.cell? (x.add (i * 2 + 1)) = some (.int .i64 q.2) ∧ InI q.1 ∧ InI q.2 := by
      intro i hi
      obtain ⟨h1, h2, h3, h4⟩ := hx i (by omega)
      obtain ⟨n0, e0, _, w0⟩ := DataW.trod_int k0 h3
      obtain ⟨n1, e1, _, w1⟩ := DataW.trod_int k1 h4
      simp at e0 e1
      exact ⟨(n0, n1), by rw [h1, e0], by rw [h2, e1], inK_of w0, inK_of w1⟩
    obtain ⟨q, hq⟩ := choose_lt each
    refine ⟨(List.range len).map q, by simp, hl, hm, fun j u hj => ⟨x, rfl, ?_⟩, fun s hs => ?_⟩
    · have hj' := (List.getElem?_eq_some_iff.1 hj).1
      rw [pvs_length] at hj'
      simp at hj'
      have hi : j / 2 < len := by omega
      have hg := pvs_get (l := (List.range len).map q) (i := j / 2) (by simpa using hi)
      obtain ⟨h1, h2, _⟩ := hq (j / 2) hi
      simp only [List.getElem_map, List.getElem_range] at hg
      rcases Nat.mod_two_eq_zero_or_one j with hm2 | hm2
      · have e : j = 2 * (j / 2) := by omega
        rw [e, hg.1] at hj
        rw [show j = j / 2 * 2 by omega, h1]; exact hj
      · have e : j = 2 * (j / 2) + 1 := by omega
        rw [e, hg.2] at hj
        rw [show j = j / 2 * 2 + 1 by omega, h2]; exact hj
    · obtain ⟨i, hi, rfl⟩ := List.mem_map.1 hs
      exact (hq i (List.mem_range.1 hi)).2.2
end
end Go.Proofs.Ytfkfkoebplpooaa
