/- Slices of texts: of a call's own (Sl) and as they came (Came): appended to, cut off, and read. Of any slice from a block's head on. -/
import Derived.Test.YtiiimhamfibdbaaGreatO1
namespace Go.Proofs.YtiiimhamfibdbaaGreat
open Go.RowKit
set_option linter.unusedVariables false
theorem svs_length (l : List ByteArray) : (svs l).length = l.length := by simp [svs]
theorem svs_append (l m : List ByteArray) : svs (l ++ m) = svs l ++ svs m := by simp [svs]
theorem svs_one (l : List ByteArray) : ∀ u ∈ svs l, u.oneCell' = true := by
 intro u hu
 obtain ⟨x, _, rfl⟩ := List.mem_map.1 hu
 rfl
theorem svs_get {l : List ByteArray} {j : Nat} (h : j < l.length) : (svs l)[j]? = some (.string l[j]) := by simp [svs, h]
theorem infoStr : (Tryz.prog.info? 9).map (fun i => (i.zero, i.size, i.bytes)) = some (some (.string ⟨#[]⟩), 1, 16) := by kernel_rfl
theorem sl_new_strs (w : World) (l : List ByteArray) (hl : l.length ≤ maxLen) : Sl (w.alloc (.cells (svs l).toArray 9)) 9 (.slice (some ⟨w.heap.size, 0, none⟩) l.length l.length) (svs l) w.heap.size := by
 have := Sl.new w 9 (svs l) (by rw [svs_length]; exact hl)
 rwa [svs_length] at this
theorem Sl.front {w : World} {t : TypeId} {l : List Value} {g n c k : Nat} (h : Sl w t (.slice (some ⟨g, 0, none⟩) n c) l g) (hk : k ≤ l.length) : Sl w t (.slice (some ⟨g, 0, none⟩) k c) (l.take k) g := by
 obtain ⟨sp, hv, hm, hr⟩ := h
 injection hv with _ h1 h2
 refine ⟨l.drop k ++ sp, ?_, ?_, ?_⟩
 ·have e1 : (l.take k).length = k := by rw [List.length_take]; omega
  rw [e1, List.length_append, List.length_drop, h2]
  congr 1
  omega
 ·rw [List.length_take, List.length_append, List.length_drop]; omega
 ·rw [← List.append_assoc, List.take_append_drop]; exact hr
theorem run_append_strs (w : World) (ty : TypeId) {v : Value} {l : List ByteArray} {g : Nat} (hs : Sl w 9 v (svs l) g)
  (ox : Option Addr) (m c : Nat) (l2 : List ByteArray) (hm : l2.length = m) (hc : Came w ox (svs l2)) (h63 : l.length + l2.length ≤ 1000000000000) :
  ∃ v' w' g', (Builtin.append_ #[133, 133] ty #[v, .slice ox m c]).run Tryz.prog w = .ok v' w' ∧ Sl w' 9 v' (svs (l ++ l2)) g' ∧ (g' = g ∨ g' = w.heap.size) ∧ w.grownBy w' (some g) := by
 obtain ⟨i0, hi, hz0, hz1, hz2⟩ := info_parts infoStr
 by_cases h0 : ox = none
 ·subst h0
  have hl2 : l2 = [] := by
   cases l2 with
   |nil => rfl
   |cons x r =>
    obtain ⟨a, h, _⟩ := hc 0 _ rfl
    cases h
  subst hl2
  have hm0 : m = 0 := hm.symm
  subst hm0
  obtain ⟨cb, rfl, hcb, _⟩ := hs.open rfl
  exact ⟨_, w, g, run_append_empty w _ _ _ i0 _ _ _ _ Tryz.underlying133 hi hcb, by rw [List.append_nil]; exact hs, .inl rfl, grown_refl _ _⟩
 ·obtain ⟨ad, rfl⟩ := Option.ne_none_iff_exists'.1 h0
  obtain ⟨v', w', g', hrun, h2, h3, h4⟩ := run_append_sl (P := Tryz.prog) w 133 ty 9 i0 (.string ⟨#[]⟩) 16 Tryz.underlying133 hi hz0 hz1 hz2 rfl hs ad m c (svs l2) (by rw [svs_length]; exact hm) (fun j u hj => by
   obtain ⟨a, h, h'⟩ := hc j u hj
   cases h; exact h') (svs_one _) (by rw [svs_length]; unfold maxLen; omega) (by rw [svs_length]; omega)
  exact ⟨v', w', g', hrun, by rw [svs_append]; exact h2, h3, h4⟩
theorem wpList_append_strs {w : World} {ops : Array Oper} {rest : List Oper} {o : Oper} {a : Act} {Q : Exit → Act → World → Prop} (hgd : o.guard = none) (s x : Operand)
  (ho : o.op = .call { callee := .builtin .append, args := #[s, x], argTypes := #[133, 133] })
  {v : Value} {l : List ByteArray} {g : Nat} (hv : a.eval s = v) (hs : Sl w 9 v (svs l) g)
  (ox : Option Addr) (m c : Nat) (l2 : List ByteArray) (hx : a.eval x = .slice ox m c) (hm : l2.length = m) (hc : Came w ox (svs l2)) (h63 : l.length + l2.length ≤ 1000000000000)
  (h : ∀ v' w' g', Sl w' 9 v' (svs (l ++ l2)) g' → (g' = g ∨ g' = w.heap.size) → w.grownBy w' (some g) → wpList Tryz.prog ops Q rest (a.put o.dst v') w') : wpList Tryz.prog ops Q (o :: rest) a w := by
 refine wpList_plain hgd fun K hK => ?_
 obtain ⟨v', w', g', hr, h2, h3, h4⟩ := run_append_strs w o.type hs ox m c l2 hm hc h63
 unfold Oper.wp execOp
 simp only [ho, resolve, invoke, builtin, Sem.run_bind, Sem.run_pure, Result.andThen_ok, List.map_toArray, List.map_cons, List.map_nil, hv, hx, hr]
 exact hK _ _ (h v' w' g' h2 h3 h4)
theorem step_append_strs {ops : Array Oper} {o : Oper} {a : Act} {w : World} {K : Act → World → Prop} {Q : Exit → Act → World → Prop} {E : Prop} (hg : o.guard = none) (s x : Operand)
  (hop : o.op = .call { callee := .builtin .append, args := #[s, x], argTypes := #[133, 133] })
  {v : Value} {l : List ByteArray} {g : Nat} (hv : a.eval s = v) (hs : Sl w 9 v (svs l) g)
  (ox : Option Addr) (m c : Nat) (l2 : List ByteArray) (hx : a.eval x = .slice ox m c) (hm : l2.length = m) (hc : Came w ox (svs l2)) (h63 : l.length + l2.length ≤ 1000000000000)
  (hK : ∀ v' w' g', Sl w' 9 v' (svs (l ++ l2)) g' → (g' = g ∨ g' = w.heap.size) → w.grownBy w' (some g) → K (a.put o.dst v') w') :
  if Region.wanted o (yielded ops a.tmps) = true then Oper.wp Tryz.prog o a w K Q else E := by
 have hw : Region.wanted o (yielded ops a.tmps) = true := by simp [Region.wanted, hg]
 rw [if_pos hw]
 obtain ⟨v', w', g', hrun, h2, h3, h4⟩ := run_append_strs w o.type hs ox m c l2 hm hc h63
 unfold Oper.wp
 simp only [execOp, hop, resolve, invoke, builtin, Sem.run_bind, Sem.run_pure, Result.andThen_ok, List.map_toArray, List.map_cons, List.map_nil, hv, hx, hrun]
 exact hK v' w' g' h2 h3 h4
end Go.Proofs.YtiiimhamfibdbaaGreat
