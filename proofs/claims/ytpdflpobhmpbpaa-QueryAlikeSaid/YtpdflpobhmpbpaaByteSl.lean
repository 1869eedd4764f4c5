/- Slices of bytes of a call's own: one byte appended, and the text that they make. Of any slice from a block's head on. -/
import Derived.Test.YtpdflpobhmpbpaaMem
import Derived.Test.YtpdflpobhmpbpaaGrown
import Derived.Test.YtpdflpobhmpbpaaBytes
import Derived.Test.YtpdflpobhmpbpaaChecked
import Derived.WalkKit
import Derived.WalkSpells
import Derived.Lib.Hide
namespace Go.Proofs.Ytpdflpobhmpbpaa
open Go.RowKit Go.PlainAid
set_option linter.unusedVariables false
theorem rets1 {a c : Value} (h : a = c) : Ending.returned a = .returned c := by rw [h]
theorem rets2 {a b c d : Value} (h : a = c) (h' : b = d) : Ending.returned (.tuple #[a, b]) = .returned (.tuple #[c, d]) := by rw [h, h']
theorem rets3 {a b c d e f : Value} (h : a = d) (h' : b = e) (h'' : c = f) : Ending.returned (.tuple #[a, b, c]) = .returned (.tuple #[d, e, f]) := by rw [h, h', h'']
def u8s (l : List Int) : List Value := l.map (Value.int .u8)
theorem u8s_length (l : List Int) : (u8s l).length = l.length := by simp [u8s]
theorem u8s_append (l m : List Int) : u8s (l ++ m) = u8s l ++ u8s m := by simp [u8s]
theorem u8s_at {l : List Int} {i : Nat} (h : i < l.length) : (u8s l)[i]? = some (.int .u8 l[i]) := by simp [u8s, h]
theorem u8s_one (l : List Int) : ∀ u ∈ u8s l, u.oneCell' = true := by
  intro u hu
  obtain ⟨x, _, rfl⟩ := List.mem_map.1 hu
  rfl
theorem infoU8 : (Try.prog.info? 5).map (fun i => (i.zero, i.size, i.bytes)) = some (some (.int .u8 0), 1, 1) := by kernel_rfl
theorem addr0 (g j : Nat) : (⟨g, 0, none⟩ : Addr).add j = ⟨g, j, none⟩ := by unfold Addr.add; split <;> simp_all
/-- A block of bytes that was just laid. -/
theorem sl_new_bytes (w : World) (l : List Int) (hl : l.length ≤ maxLen) : Sl (w.alloc (.cells (u8s l).toArray 5)) 5 (.slice (some ⟨w.heap.size, 0, none⟩) l.length l.length) (u8s l) w.heap.size := by
  have := Sl.new w 5 (u8s l) (by rw [u8s_length]; exact hl)
  rwa [u8s_length] at this
theorem u8s_get (l : List Int) (j : Nat) (h : j < (u8s l).length) : (u8s l)[j] = .int .u8 (l[j]'(by rw [u8s_length] at h; exact h)) := by simp [u8s]
/-- A slice's cells, the place as the walk has it. -/
theorem Sl.cells_u8 {w : World} {v : Value} {l : List Int} {g : Nat} (h : Sl w 5 v (u8s l) g) : ∀ j (hj : j < l.length), w.cell? ⟨g, j, none⟩ = some (.int .u8 l[j]) := by
  intro j hj
  rw [h.cell (i := j) (by rw [u8s_length]; exact hj), u8s_get]
end Go.Proofs.Ytpdflpobhmpbpaa
