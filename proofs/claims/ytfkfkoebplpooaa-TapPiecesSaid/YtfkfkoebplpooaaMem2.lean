/- Words for memory, for arrays and structs in one block: many cells read or stored at once. They hold of any program. -/
import Derived.Test.YtfkfkoebplpooaaMem
import Derived.Deep.MidRow
import Derived.PlainAid
import Derived.Lib.SlBuf
namespace Go.Proofs.Ytfkfkoebplpooaa
open Go.RowKit Go.PlainAid
set_option linter.unusedVariables false
section
variable {w w' : World} {g : Nat} {t : TypeId} {l : List Value}
theorem take_set {α : Type} {l : List α} {o : Nat} (v : α) (h : o < l.length) : (l.set o v).take (o + 1) = l.take o ++ [v] := by
  apply List.ext_getElem
  · simp; omega
  · intro i h1 h2
    simp only [List.getElem_take, List.getElem_set, List.getElem_append, List.length_take]
    by_cases e : o = i
    · subst e
      rw [dif_neg (by omega)]; simp
    · rw [if_neg e, dif_pos (by simp at h1; omega)]
/-- Many cells are stored, from o on. -/
theorem Row.setMany : ∀ (vs : List Value) (o : Nat) {w : World} {l : List Value}, Row w g t l → o + vs.length ≤ l.length → Row (w.setCells g o vs) g t (l.take o ++ vs ++ l.drop (o + vs.length))
  | [], o, w, l, h, ho => by simpa [World.setCells] using h
  | v :: r, o, w, l, h, ho => by
    have hlen : o + (r.length + 1) ≤ l.length := by simpa using ho
    have h1 := Row.setMany r (o + 1) (h.set o v) (by rw [List.length_set]; omega)
    rw [take_set v (by omega), List.drop_set_of_lt (by omega)] at h1
    rw [World.setCells, List.length_cons, show o + (r.length + 1) = o + 1 + r.length by omega]
    simpa using h1
theorem Row.setAll (h : Row w g t l) {vs : List Value} (hl : vs.length = l.length) : Row (w.setCells g 0 vs) g t vs := by
  have := h.setMany vs 0 (by omega)
  rwa [List.take_zero, List.nil_append, List.drop_eq_nil_of_le (by omega), List.append_nil] at this
theorem heap_setCells_far : ∀ (vs : List Value) (o g' : Nat) (w : World) {k : Nat}, k ≠ g' → (w.setCells g' o vs).heap[k]? = w.heap[k]?
  | [], _, _, _, _, _ => rfl
  | v :: r, o, g', w, k, h => by
    rw [World.setCells, heap_setCells_far r (o + 1) g' _ h]
    exact Below.heap_setCell w _ v k h
theorem Row.farMany (h : Row w g t l) {g' : Nat} (hg : g ≠ g') (o : Nat) (vs : List Value) : Row (w.setCells g' o vs) g t l := (heap_setCells_far vs o g' w hg).trans h
theorem below_setCells {B : Nat} {a : World} : ∀ (vs : List Value) (o : Nat) {w : World}, Below B a w → B ≤ g → Below B a (w.setCells g o vs)
  | [], _, _, h, _ => h
  | v :: r, o, w, h, hg => below_setCells r (o + 1) (h.setCell (p := ⟨g, o, none⟩) hg v) hg
theorem setCells_size : ∀ (vs : List Value) (o : Nat) (w : World), (w.setCells g o vs).heap.size = w.heap.size
  | [], _, _ => rfl
  | v :: r, o, w => by rw [World.setCells, setCells_size r]; simp
theorem Row.range (h : Row w g t l) (o n : Nat) : w.rangeAt g o ((l.drop o).take n) := fun j v hj => by
  have hj' := (List.getElem?_eq_some_iff.1 hj).1
  rw [h.cell]
  rw [List.getElem?_take_of_lt (by simp at hj'; omega), List.getElem?_drop] at hj
  exact hj
theorem Row.there (h : Row w g t l) {o n : Nat} (hn : o + n ≤ l.length) : w.there g o n := fun j hj => by
  rw [h.cell, List.getElem?_eq_getElem (by omega)]
  exact ⟨rfl, h.frozen _⟩
theorem Row.whole (h : Row w g t l) : w.rangeAt g 0 l := by
  have := h.range 0 l.length
  rwa [List.drop_zero, List.take_length] at this
end
section
variable {P : Program}
/-- A result that lies in memory: what is loaded there. -/
theorem results_cell {fn : Func} {p : Tmp} {ty : TypeId} (h : fn.results = #[.cell p ty]) (tmps : Array Value) {ad : Addr} (hp : tmps.getD p undef = .pointer (some ad)) {v : Value} {w : World}
    (hl : (loadVar ty ad).run P w = .ok v w) : (results fn tmps).run P w = .ok v w := by
  rw [Array.getD_eq_getD_getElem?] at hp
  simp only [results, h]
  simp [hp, asAddr, hl]
theorem results_cell2 {fn : Func} {p q : Tmp} {ty tz : TypeId} (h : fn.results = #[.cell p ty, .cell q tz]) (tmps : Array Value) {ad bd : Addr} (hp : tmps.getD p undef = .pointer (some ad)) (hq : tmps.getD q undef = .pointer (some bd)) {v u : Value} {w : World}
    (hl : (loadVar ty ad).run P w = .ok v w) (hm : (loadVar tz bd).run P w = .ok u w) : (results fn tmps).run P w = .ok (.tuple #[v, u]) w := by
  rw [Array.getD_eq_getD_getElem?] at hp hq
  simp only [results, h]
  simp [hp, hq, asAddr, hl, hm]
/-- A text's first bytes, as cells. -/
def bcs (t : ByteArray) (n : Nat) : List Value := (List.range n).map fun j => Value.int .u8 (bt t j)
theorem bcs_length (t : ByteArray) (n : Nat) : (bcs t n).length = n := by simp [bcs]
theorem bcs_take (t : ByteArray) {n : Nat} (h : n ≤ t.size) : List.take n (List.map (fun b : UInt8 => Value.int IntKind.u8 (b.toNat : Int)) t.data.toList) = bcs t n := by
  apply List.ext_getElem
  · simp [bcs]; exact Nat.min_eq_left h
  · intro j h1 h2
    have hj : j < t.size := by simp [bcs] at h2; omega
    have := get_bt t j hj
    simp only [List.getElem_take, List.getElem_map, bcs, List.getElem_range]
    rw [← this]; rfl
theorem bcs_one (t : ByteArray) (n : Nat) : ∀ u ∈ bcs t n, u.oneCell' = true := by
  intro u hu; obtain ⟨x, _, rfl⟩ := List.mem_map.1 hu; rfl
/-- copy of a text into a slice: as many bytes as fit. -/
theorem run_copy_str (w : World) (dT sT ty elem : TypeId) (b o dLen dCap n : Nat) (t : ByteArray) (hn : min t.size dLen = n)
    (hu : P.underlying dT = some (.slice elem)) (hs : (P.info? elem).map (·.size) = some 1) (ht : w.there b o n) :
    (Builtin.copy_ #[dT, sT] ty #[.slice (some ⟨b, o, none⟩) dLen dCap, .string t]).run P w = .ok (goInt n) (w.setCells b o (bcs t n)) := by
  have hst := run_storeCells_cells (P := P) b o (bcs t n) 0 w (by rw [bcs_length]; simpa using fun j hj => (ht j hj).1) (by rw [bcs_length]; simpa using fun j hj => (ht j hj).2) (bcs_one t n)
  have hmin : Nat.min t.size dLen = n := hn
  cases hq : P.info? elem with
  | none => simp [hq] at hs
  | some i =>
    simp only [Nat.add_zero] at hst
    simp [Builtin.copy_, run_underlying hu, Builtin.lenOf, Builtin.firstCells, sizeOf, typeInfo, hq, hmin]
    rw [bcs_take t (by omega), hst]
    simp [Result.andThen]
end
/-- A result that lies in memory, and one that doesn't. -/
theorem results_cell_one {P : Program} {fn : Func} {p q : Tmp} {ty : TypeId} (h : fn.results = #[.cell p ty, .tmp q]) (tmps : Array Value) {ad : Addr} (hp : tmps.getD p undef = .pointer (some ad)) {v u : Value} {w : World}
    (hq : tmps.getD q undef = u) (hl : (loadVar ty ad).run P w = .ok v w) : (results fn tmps).run P w = .ok (.tuple #[v, u]) w := by
  rw [Array.getD_eq_getD_getElem?] at hp hq
  simp only [results, h]
  simp [hp, hq, asAddr, hl]
theorem row_new2 (w : World) (o : Obj) (t : TypeId) (l : List Value) : Row ((w.alloc o).alloc (.cells l.toArray t)) (w.heap.size + 1) t l := by
  have := Row.new (w.alloc o) t l
  simpa using this
end Go.Proofs.Ytfkfkoebplpooaa
