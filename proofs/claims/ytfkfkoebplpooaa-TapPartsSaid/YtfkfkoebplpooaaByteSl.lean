/- Slices of bytes of a call's own: one byte appended, and the text that they make. Of any slice from a block's head on. -/
import Derived.Test.YtfkfkoebplpooaaMem
import Derived.Test.YtfkfkoebplpooaaGrown
import Derived.Test.YtfkfkoebplpooaaBytes
import Derived.Test.YtfkfkoebplpooaaChecked
import Derived.WalkKit
import Derived.WalkSpells
import Derived.Lib.Hide
namespace Go.Proofs.Ytfkfkoebplpooaa
open Go.RowKit Go.PlainAid
set_option linter.unusedVariables false
theorem rets1 {a c : Value} (h : a = c) : Ending.returned a = .returned c := by rw [h]
theorem rets2 {a b c d : Value} (h : a = c) (h' : b = d) : Ending.returned (.tuple #[a, b]) = .returned (.tuple #[c, d]) := by rw [h, h']
theorem rets3 {a b c d e f : Value} (h : a = d) (h' : b = e) (h'' : c = f) : Ending.returned (.tuple #[a, b, c]) = .returned (.tuple #[d, e, f]) := by rw [h, h', h'']
def u8s (l : List Int) : List Value := l.map (Value.int .u8)
theorem u8s_length (l : List Int) : (u8s l).length = l.length := by simp [u8s]
theorem u8s_append (l m : List Int) : u8s (l ++ m) = u8s l ++ u8s m := by simp [u8s]
theorem u8s_at {l : List Int} {i : Nat} (h : i < l.length) : (u8s l)[i]? = some (.int .u8 l[i]) := by simp [u8s, h]
theorem u8s_one (l : List Int) : ∀ u ∈ u8s l, u.oneCell' = true := by
  intro u hu
  obtain ⟨x, _, rfl⟩ := List.mem_map.1 hu
  rfl
theorem infoU8 : (Try.prog.info? 5).map (fun i => (i.zero, i.size, i.bytes)) = some (some (.int .u8 0), 1, 1) := by kernel_rfl
theorem addr0 (g j : Nat) : (⟨g, 0, none⟩ : Addr).add j = ⟨g, j, none⟩ := by unfold Addr.add; split <;> simp_all
/-- A block of bytes that was just laid. -/
theorem sl_new_bytes (w : World) (l : List Int) (hl : l.length ≤ maxLen) : Sl (w.alloc (.cells (u8s l).toArray 5)) 5 (.slice (some ⟨w.heap.size, 0, none⟩) l.length l.length) (u8s l) w.heap.size := by
  have := Sl.new w 5 (u8s l) (by rw [u8s_length]; exact hl)
  rwa [u8s_length] at this
/-- The text that bytes make. -/
theorem conv_bytes {w : World} {v : Value} {l : List Int} {g : Nat} (h : Sl w 5 v (u8s l) g) : (convert 41 9 v).run Try.prog w = .ok (.string (strOfNums l)) w := by
  obtain ⟨c, rfl, _, _⟩ := h.open (n := l.length) (u8s_length l)
  exact run_convert_bytes_arg (P := Try.prog) w 41 5 Try.underlying41 Try.underlying5 g 0 l.length c l rfl (fun i hi => by
    have := h.cell (i := i) (by rw [u8s_length]; exact hi)
    rw [Nat.zero_add, this]
    simp [u8s, List.getD, hi]) 9 Try.underlying9
/-- The same of bytes whose list is another's words. -/
theorem conv_bytes_at (w : World) (g c : Nat) (l : List Int) (h : Sl w 5 (.slice (some ⟨g, 0, none⟩) l.length c) (u8s l) g) : (convert 41 9 (.slice (some ⟨g, 0, none⟩) l.length c)).run Try.prog w = .ok (.string (strOfNums l)) w := conv_bytes h
theorem conv_one (w : World) (x : Int) : (convert 41 9 (.slice (some ⟨w.heap.size, 0, none⟩) 1 1)).run Try.prog (w.alloc (.cells #[.int .u8 x] 5)) = .ok (.string (strOfNums [x])) (w.alloc (.cells #[.int .u8 x] 5)) :=
  conv_bytes (sl_new_bytes w [x] (by simp [maxLen]))
theorem conv_at (x : Int) (W : World) (g : Nat) (h : W.cell? ⟨g, 0, none⟩ = some (.int .u8 x)) : (convert 41 9 (.slice (some ⟨g, 0, none⟩) 1 1)).run Try.prog W = .ok (.string (strOfNums [x])) W :=
  run_convert_bytes_arg (P := Try.prog) W 41 5 Try.underlying41 Try.underlying5 g 0 1 1 [x] rfl (fun i hi => by
    match i, hi with
    | 0, _ => simpa using h) 9 Try.underlying9
/-- One byte more. -/
theorem wpList_append_byte {w : World} {ops : Array Oper} {rest : List Oper} {o : Oper} {a : Act} {Q : Exit → Act → World → Prop} (hgd : o.guard = none) (s x : Operand)
    (ho : o.op = .call { callee := .builtin .append, args := #[s, x], argTypes := #[41, 41] })
    {v : Value} {l : List Int} {g : Nat} (hv : a.eval s = v) (hs : Sl w 5 v (u8s l) g)
    (gx c : Nat) (b : Int) (hx : a.eval x = .slice (some ⟨gx, 0, none⟩) 1 c) (hc : w.cell? ⟨gx, 0, none⟩ = some (.int .u8 b)) (h63 : l.length ≤ 1000000000000)
    (h : ∀ v' w' g', Sl w' 5 v' (u8s (l ++ [b])) g' → (g' = g ∨ g' = w.heap.size) → w.grownBy w' (some g) → wpList Try.prog ops Q rest (a.put o.dst v') w') : wpList Try.prog ops Q (o :: rest) a w := by
  obtain ⟨i0, hi, hz0, hz1, hz2⟩ := info_parts infoU8
  refine wpList_append_sl hgd s x 41 ho 5 i0 (.int .u8 0) 1 Try.underlying41 hi hz0 hz1 hz2 rfl hv hs ⟨gx, 0, none⟩ 1 c [.int .u8 b] hx rfl ?_ ?_ ?_ ?_ ?_
  · intro j u hj
    match j, hj with
    | 0, hj => simp at hj; subst hj; rw [addr0]; exact hc
  · intro u hu; simp at hu; subst hu; rfl
  · rw [u8s_length]; unfold maxLen; omega
  · rw [u8s_length]; omega
  · intro v' w' g' h1 h2 h3
    refine h v' w' g' ?_ h2 h3
    rwa [u8s_append]
theorem u8s_get (l : List Int) (j : Nat) (h : j < (u8s l).length) : (u8s l)[j] = .int .u8 (l[j]'(by rw [u8s_length] at h; exact h)) := by simp [u8s]
/-- Bytes of another slice, behind a slice's own. -/
theorem wpList_append_bytes {w : World} {ops : Array Oper} {rest : List Oper} {o : Oper} {a : Act} {Q : Exit → Act → World → Prop} (hgd : o.guard = none) (s x : Operand)
    (ho : o.op = .call { callee := .builtin .append, args := #[s, x], argTypes := #[41, 41] })
    {v : Value} {l : List Int} {g : Nat} (hv : a.eval s = v) (hs : Sl w 5 v (u8s l) g)
    (gx m c : Nat) (l2 : List Int) (hx : a.eval x = .slice (some ⟨gx, 0, none⟩) m c) (hm : l2.length = m) (hc : ∀ j (h : j < l2.length), w.cell? ⟨gx, j, none⟩ = some (.int .u8 l2[j])) (h63 : l.length + l2.length ≤ 1000000000000)
    (h : ∀ v' w' g', Sl w' 5 v' (u8s (l ++ l2)) g' → (g' = g ∨ g' = w.heap.size) → w.grownBy w' (some g) → wpList Try.prog ops Q rest (a.put o.dst v') w') : wpList Try.prog ops Q (o :: rest) a w := by
  obtain ⟨i0, hi, hz0, hz1, hz2⟩ := info_parts infoU8
  refine wpList_append_sl hgd s x 41 ho 5 i0 (.int .u8 0) 1 Try.underlying41 hi hz0 hz1 hz2 rfl hv hs ⟨gx, 0, none⟩ m c (u8s l2) hx (by rw [u8s_length]; exact hm) ?_ (u8s_one _) ?_ ?_ ?_
  · intro j u hj
    have hj' := (List.getElem?_eq_some_iff.1 hj).1
    rw [u8s_length] at hj'
    rw [addr0, hc j hj']
    simp [u8s, hj'] at hj
    rw [hj]
  · rw [u8s_length]; unfold maxLen; omega
  · rw [u8s_length]; omega
  · intro v' w' g' h1 h2 h3
    refine h v' w' g' ?_ h2 h3
    rwa [u8s_append]
/-- A slice's cells, the place as the walk has it. -/
theorem Sl.cells_u8 {w : World} {v : Value} {l : List Int} {g : Nat} (h : Sl w 5 v (u8s l) g) : ∀ j (hj : j < l.length), w.cell? ⟨g, j, none⟩ = some (.int .u8 l[j]) := by
  intro j hj
  rw [h.cell (i := j) (by rw [u8s_length]; exact hj), u8s_get]
end Go.Proofs.Ytfkfkoebplpooaa
