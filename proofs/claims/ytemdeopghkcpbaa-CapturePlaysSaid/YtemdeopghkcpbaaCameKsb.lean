/- Slices that came in of calls: each a kind, a text and a byte: their cells as a list. Of any program. -/
import Derived.Test.YtemdeopghkcpbaaCame
namespace Go.Proofs.Ytemdeopghkcpbaa
open Go.RowKit Go.ChangeShapes Go.WideShapes Go.Deep
set_option linter.unusedVariables false
/-- Calls' cells: each one's kind, its text and its byte. -/
def ksb (l : List (Int × ByteArray × Int)) : List Value := l.flatMap fun s => [.int .i64 s.1, .string s.2.1, .int .u8 s.2.2]
theorem ksb_get {l : List (Int × ByteArray × Int)} {i : Nat} (h : i < l.length) : (ksb l)[3 * i]? = Option.some (.int .i64 l[i].1) ∧ (ksb l)[3 * i + 1]? = Option.some (.string l[i].2.1) ∧ (ksb l)[3 * i + 2]? = Option.some (.int .u8 l[i].2.2) := by
  induction l generalizing i with
  | nil => simp at h
  | cons s r ih =>
    cases i with
    | zero => exact ⟨rfl, rfl, rfl⟩
    | succ i =>
      have := ih (i := i) (by simpa using h)
      refine ⟨?_, ?_, ?_⟩
      · rw [show 3 * (i + 1) = 3 * i + 1 + 1 + 1 by omega]; exact this.1
      · rw [show 3 * (i + 1) + 1 = 3 * i + 1 + 1 + 1 + 1 by omega]; exact this.2.1
      · rw [show 3 * (i + 1) + 2 = 3 * i + 2 + 1 + 1 + 1 by omega]; exact this.2.2
theorem ksb_length (l : List (Int × ByteArray × Int)) : (ksb l).length = 3 * l.length := by
  induction l with
  | nil => rfl
  | cons s r ih => show (ksb r).length + 1 + 1 + 1 = _; rw [ih, List.length_cons]; omega
theorem add_of3 (a : Addr) (i j : Nat) : a.add (3 * i + (j + 1)) = ⟨(a.add (i * 3)).block, (a.add (i * 3)).off + (j + 1), none⟩ := by
  unfold Addr.add
  rw [if_neg (by omega)]
  by_cases h : i * 3 = 0
  · rw [if_pos h, show 3 * i + (j + 1) = j + 1 by omega]
  · rw [if_neg h, show a.off + (3 * i + (j + 1)) = a.off + i * 3 + (j + 1) by omega]
section
variable {H : Type} {enc : TypeId × Value → H} {P : Program} {w : World} {base : Nat} {spare : Nat → Bool} {held : Bool}
theorem came_ksb {t e : TypeId} {f0 f1 f2 : Field} {a : Option Addr} {len cap : Nat} {d : DataW H} {p : List MemPlace} (ht : P.underlying t = some (.slice e)) (he : P.underlying e = some (.struct #[f0, f1, f2]))
    (ce : P.cellsOf e = 3) (o0 : f0.offset = 0) (o1 : f1.offset = 1) (o2 : f2.offset = 2) (c0 : P.cellsOf f0.type = 1) (c1 : P.cellsOf f1.type = 1) (c2 : P.cellsOf f2.type = 1) (k0 : P.underlying f0.type = some (.int .i64)) (k1 : P.underlying f1.type = some .string) (k2 : P.underlying f2.type = some (.int .u8))
    (h : DataW.Trod enc P w base spare held t (.slice a len cap) d p) : ∃ l : List (Int × ByteArray × Int), l.length = len ∧ len ≤ cap ∧ cap ≤ maxLen ∧ Came w a (ksb l) ∧ ∀ s ∈ l, InI s.1 ∧ s.2.1.size ≤ maxLen ∧ (0 ≤ s.2.2 ∧ s.2.2 ≤ 255) := by
  obtain ⟨fuel, hf⟩ := h
  rcases open_slice ht hf with ⟨hcs, _⟩ | ⟨x, ln, cp, m, n, D, Pl, hcs, hb, hl, hm, hmm, _, hx⟩
  · simp [Value.cells] at hcs
    obtain ⟨rfl, rfl, rfl⟩ := hcs
    exact ⟨[], rfl, Nat.le_refl _, Nat.zero_le _, Came.nil _ _, by simp⟩
  · simp [Value.cells] at hcs
    obtain ⟨rfl, rfl, rfl⟩ := hcs
    have hlz : len ≤ m := by rw [hmm]; split <;> omega
    have each : ∀ i, i < len → ∃ q : Int × ByteArray × Int, w.cell? (x.add (i * 3)) = some (.int .i64 q.1) ∧ w.cell? (x.add (i * 3 + 1)) = some (.string q.2.1) ∧ w.cell? (x.add (i * 3 + 2)) = some (.int .u8 q.2.2) ∧ InI q.1 ∧ q.2.1.size ≤ maxLen ∧ (0 ≤ q.2.2 ∧ q.2.2 ≤ 255) := by
      intro i hi
      obtain ⟨cs', h1, h2⟩ := hx i (by omega)
      rw [ce] at h1
      obtain ⟨_, hlen, hcell⟩ := World.cells?_some h1
      obtain ⟨xs, k, hk, hxy, _, hxl, hf2⟩ := DataW.trod_struct he h2
      match xs, hxl, cs', hlen with
      | [y0, y1, y2], _, [v0, v1, v2], _ =>
        have g0 := hf2 0 f0 rfl
        have g1 := hf2 1 f1 rfl
        have g2 := hf2 2 f2 rfl
        simp [o0, o1, o2, c0, c1, c2] at g0 g1 g2
        have e0 := hcell 0 (by omega)
        have e1 := hcell 1 (by omega)
        have e2 := hcell 2 (by omega)
        rw [add_add] at e0 e1 e2
        obtain ⟨n0, r0, _, w0⟩ := DataW.trod_int k0 g0
        obtain ⟨s1, r1, _, t1⟩ := DataW.trod_string k1 g1
        obtain ⟨n2, r2, _, w2⟩ := DataW.trod_int k2 g2
        simp at r0 r1 r2
        exact ⟨(n0, s1, n2), by simpa [r0] using e0, by simpa [r1] using e1, by simpa [r2] using e2, inK_of w0, t1, inK_of w2⟩
    obtain ⟨q, hq⟩ := choose_lt each
    refine ⟨(List.range len).map q, by simp, hl, hm, fun j u hj => ⟨x, rfl, ?_⟩, fun s hs => ?_⟩
    · have hj' := (List.getElem?_eq_some_iff.1 hj).1
      rw [ksb_length] at hj'
      simp at hj'
      have hi : j / 3 < len := by omega
      have hg := ksb_get (l := (List.range len).map q) (i := j / 3) (by simpa using hi)
      obtain ⟨h1, h2, h3, _⟩ := hq (j / 3) hi
      simp only [List.getElem_map, List.getElem_range] at hg
      have hm3 : j % 3 = 0 ∨ j % 3 = 1 ∨ j % 3 = 2 := by omega
      rcases hm3 with hm2 | hm2 | hm2
      · have e : j = 3 * (j / 3) := by omega
        rw [e, hg.1] at hj
        rw [show j = j / 3 * 3 by omega, h1]; exact hj
      · have e : j = 3 * (j / 3) + 1 := by omega
        rw [e, hg.2.1] at hj
        rw [show j = j / 3 * 3 + 1 by omega, h2]; exact hj
      · have e : j = 3 * (j / 3) + 2 := by omega
        rw [e, hg.2.2] at hj
        rw [show j = j / 3 * 3 + 2 by omega, h3]; exact hj
    · obtain ⟨i, hi, rfl⟩ := List.mem_map.1 hs
      exact (hq i (List.mem_range.1 hi)).2.2.2
end
end Go.Proofs.Ytemdeopghkcpbaa
