/- Words for memory: a slice of the call's own blocks that holds a list; what is laid, stored, appended keeps of it. They hold of any program. -/
import Derived.WalkKit
import Derived.Below
import Derived.Lib.Hide
import Derived.Deep.QuietTactic
namespace Go.Proofs.Ytfkfkoebplpooaa
open Go.RowKit
/-- Block g holds the cells l, none of them frozen. -/
def Row (w : World) (g : Nat) (t : TypeId) (l : List Value) : Prop := w.heap[g]? = some (.cells l.toArray t (0, 0))
section
variable {w w' : World} {g : Nat} {t : TypeId} {l : List Value}
theorem Row.lt (h : Row w g t l) : g < w.heap.size := by
  unfold Row at h
  rcases Nat.lt_or_ge g w.heap.size with h1 | h1
  · exact h1
  · rw [Array.getElem?_eq_none h1] at h; cases h
theorem Row.cell (h : Row w g t l) (i : Nat) : w.cell? ⟨g, i, none⟩ = l[i]? := by
  rw [cell_of_row w g i l.toArray t (0, 0) h]; simp
theorem Row.frozen (h : Row w g t l) (i : Nat) : w.frozen? ⟨g, i, none⟩ = false := by
  unfold Row at h
  simp [World.frozen?, h]
theorem Row.new (w : World) (t : TypeId) (l : List Value) : Row (w.alloc (.cells l.toArray t)) w.heap.size t l := heap_alloc_new w _
theorem Row.alloc (h : Row w g t l) (o : Obj) : Row (w.alloc o) g t l := (Below.heap_alloc w o g h.lt).trans h
theorem Row.set (h : Row w g t l) (i : Nat) (u : Value) : Row (w.setCell ⟨g, i, none⟩ u) g t (l.set i u) := by
  unfold Row
  rw [heap_setCell_same w g i l.toArray t u h]; simp
theorem Row.far (h : Row w g t l) {p : Addr} (hp : g ≠ p.block) (u : Value) : Row (w.setCell p u) g t l := (Below.heap_setCell w p u g hp).trans h
theorem Row.below {B : Nat} (h : Row w g t l) (hb : Below B w w') (hg : g < B) : Row w' g t l := (hb.block g hg).trans h
theorem Row.grown {row : Option Nat} (h : Row w g t l) (hb : w.grownBy w' row) (hg : some g ≠ row) : Row w' g t l := (hb.block g h.lt hg).trans h

/-- v is a slice from block g's head on that holds l (behind it there may be room). -/
def Sl (w : World) (t : TypeId) (v : Value) (l : List Value) (g : Nat) : Prop :=
  ∃ sp : List Value, v = .slice (some ⟨g, 0, none⟩) l.length (l.length + sp.length) ∧ l.length + sp.length ≤ maxLen ∧ Row w g t (l ++ sp)
theorem Sl.lt {v : Value} (h : Sl w t v l g) : g < w.heap.size := by
  obtain ⟨sp, _, _, h⟩ := h; exact h.lt
theorem Sl.open {v : Value} {n : Nat} (h : Sl w t v l g) (hn : l.length = n) : ∃ c, v = .slice (some ⟨g, 0, none⟩) n c ∧ n ≤ c ∧ c ≤ maxLen := by
  obtain ⟨sp, h, hm, _⟩ := h; subst hn; exact ⟨_, h, by omega, hm⟩
theorem Sl.cell {v : Value} (h : Sl w t v l g) {i : Nat} (hi : i < l.length) : w.cell? ⟨g, i, none⟩ = some l[i] := by
  obtain ⟨sp, _, _, h⟩ := h
  rw [h.cell, List.getElem?_append_left hi, List.getElem?_eq_getElem hi]
theorem Sl.below {v : Value} {B : Nat} (h : Sl w t v l g) (hb : Below B w w') (hg : g < B) : Sl w' t v l g := by
  obtain ⟨sp, h1, h2, h⟩ := h; exact ⟨sp, h1, h2, h.below hb hg⟩
theorem Sl.keep {v : Value} (h : Sl w t v l g) (hb : Below w.heap.size w w') : Sl w' t v l g := h.below hb h.lt
theorem Sl.alloc {v : Value} (h : Sl w t v l g) (o : Obj) : Sl (w.alloc o) t v l g := by
  obtain ⟨sp, h1, h2, h⟩ := h; exact ⟨sp, h1, h2, h.alloc o⟩
theorem Sl.far {v : Value} (h : Sl w t v l g) {p : Addr} (hp : g ≠ p.block) (u : Value) : Sl (w.setCell p u) t v l g := by
  obtain ⟨sp, h1, h2, h⟩ := h; exact ⟨sp, h1, h2, h.far hp u⟩
theorem Sl.drew {v : Value} (h : Sl w t v l g) : Sl w.drew t v l g := h
theorem Sl.drewN {v : Value} (h : Sl w t v l g) (k : Nat) : Sl (w.drewN k) t v l g := h
theorem Sl.grown {v : Value} {row : Option Nat} (h : Sl w t v l g) (hb : w.grownBy w' row) (hg : some g ≠ row) : Sl w' t v l g := by
  obtain ⟨sp, h1, h2, h⟩ := h; exact ⟨sp, h1, h2, h.grown hb hg⟩
theorem Sl.new (w : World) (t : TypeId) (l : List Value) (hl : l.length ≤ maxLen) : Sl (w.alloc (.cells l.toArray t)) t (.slice (some ⟨w.heap.size, 0, none⟩) l.length l.length) l w.heap.size :=
  ⟨[], by simp, by simpa using hl, by simpa using Row.new w t l⟩
theorem Sl.set {v : Value} (h : Sl w t v l g) {i : Nat} (hi : i < l.length) (u : Value) : Sl (w.setCell ⟨g, i, none⟩ u) t v (l.set i u) g := by
  obtain ⟨sp, h1, h2, h⟩ := h
  refine ⟨sp, by rw [h1, List.length_set], by rw [List.length_set]; exact h2, ?_⟩
  have := h.set i u
  rwa [List.set_append_left _ _ hi] at this
/-- So a row of the call's own is one, and one is a row of the call's own. -/
theorem Sl.own {v : Value} (h : Sl w t v l g) {base : Nat} (hb : base ≤ g) : w.ownsRow base t 1 v l.length l := by
  obtain ⟨sp, h1, h2, h⟩ := h
  refine ⟨by simp, .inr ⟨g, _, _, h1, hb, h, by omega, h2, by simp, by simp⟩⟩
theorem Sl.of_own {v : Value} {base n : Nat} (h : w.ownsRow base t 1 v n l) (hv : v ≠ .slice none 0 0) : ∃ g, Sl w t v l g ∧ base ≤ g := by
  obtain ⟨hl, ⟨hv', _⟩ | ⟨g, cap, cur, hv', hb, hg, hn, hc, hs, ht⟩⟩ := h
  · exact absurd hv' hv
  · have hln : l.length = n := by simpa using hl
    have hs' : cur.toList.length = cap := by simpa using hs
    have hcur : l ++ cur.toList.drop n = cur.toList := by rw [← ht]; simp [List.take_append_drop]
    have hlen : l.length + (cur.toList.drop n).length = cap := by rw [List.length_drop]; omega
    refine ⟨g, ⟨cur.toList.drop n, ?_, by omega, ?_⟩, hb⟩
    · rw [hv', hlen, hln]
    · unfold Row; rw [hcur]; simpa using hg
end
section
variable {P : Program}
/-- append onto a slice of the call's own, which is not nil: it stands where it stood, or at the heap's end. -/
theorem run_append_sl (w : World) (t ty e : TypeId) (i : TypeInfo) (z : Value) (bytes : Nat) (ht : P.underlying t = some (.slice e)) (hi : P.info? e = some i) (hz : i.zero = some z)
    (hsize : i.size = 1) (hby : i.bytes = bytes) (hzs : z.cells.size = 1) {v : Value} {l : List Value} {g : Nat} (hs : Sl w e v l g)
    (a : Addr) (m c : Nat) (news : List Value) (hl : news.length = m) (hnews : ∀ j u, news[j]? = some u → w.cell? (a.add j) = some u) (h1 : ∀ u ∈ news, u.oneCell' = true)
    (h63 : l.length + m ≤ maxLen) (hbytes : (l.length + m) * bytes ≤ 140737488355328) :
    ∃ v' w' g', (Builtin.append_ #[t, t] ty #[v, .slice (some a) m c]).run P w = .ok v' w' ∧ Sl w' e v' (l ++ news) g' ∧ (g' = g ∨ g' = w.heap.size) ∧ w.grownBy w' (some g) := by
  subst hby
  obtain ⟨sp, hv, hm, hr⟩ := id hs
  have hll : (l ++ news).length = l.length + m := by rw [List.length_append, hl]
  by_cases hroom : l.length + m ≤ l.length + sp.length
  · have h := run_append_room (P := P) w t ty e i ht hi g l.length (l.length + sp.length) (l ++ sp).toArray hr a m c news (by rw [hsize, hl]; omega) hnews h1 hroom (by rw [hsize, hl]; simp; omega)
    rw [hv]
    refine ⟨_, _, g, h, ⟨sp.drop m, ?_, ?_, ?_⟩, .inl rfl, ?_⟩
    · rw [hll, List.length_drop, show l.length + m + (sp.length - m) = l.length + sp.length by omega]
    · rw [hll, List.length_drop]; omega
    · unfold Row
      rw [setRow_heap w g _ _ e (0, 0) hr]
      congr 3
      rw [hsize, Nat.mul_one, List.take_left, hl, List.drop_append, List.drop_eq_nil_of_le (by omega), List.nil_append]
      congr 3
      omega
    · exact ⟨rfl, rfl, rfl, by simp, fun k _ hk => setRow_other w g k _ (fun e => hk (by rw [e]))⟩
  · have h := run_append_grow (P := P) w t ty e i z ht hi hz ⟨g, 0, none⟩ l.length (l.length + sp.length) l (by rw [hsize]; omega)
      (fun j u hj => by
        have hj' := (List.getElem?_eq_some_iff.1 hj).1
        rw [show (⟨g, 0, none⟩ : Addr).add j = ⟨g, j, none⟩ by unfold Addr.add; split <;> simp_all, hr.cell, List.getElem?_append_left hj']; exact hj)
      a m c news (by rw [hsize, hl]; omega) hnews (by omega) (by simp only [maxLen] at h63; omega) (growslice_fits (by omega) hbytes)
    rw [hv]
    have hzl : (Builtin.zeroCells z.cells (grownCap w (l.length + m) (l.length + sp.length) e - (l.length + m))).toList.length = grownCap w (l.length + m) (l.length + sp.length) e - (l.length + m) := by
      rw [Array.length_toList, size_zeroCells, hzs, Nat.mul_one]
    refine ⟨_, _, w.heap.size, h, ⟨(Builtin.zeroCells z.cells (grownCap w (l.length + m) (l.length + sp.length) e - (l.length + m))).toList, ?_, ?_, ?_⟩, .inr rfl, ?_⟩
    · rw [hll, hzl]
      have := grownCap_ge w (l.length + m) (l.length + sp.length) e
      congr 1
      omega
    · rw [hll, hzl]
      have := grownCap_le_maxLen w (l.length + m) (l.length + sp.length) e h63
      have := grownCap_ge w (l.length + m) (l.length + sp.length) e
      omega
    · unfold Row
      have hn := heap_alloc_new w.drew (.cells (l.toArray ++ news.toArray ++ Builtin.zeroCells z.cells (grownCap w (l.length + m) (l.length + sp.length) e - (l.length + m))) e)
      refine Eq.trans hn ?_
      simp
    · exact ⟨rfl, rfl, rfl, by simp, fun k hk _ => Below.heap_alloc w.drew _ k hk⟩
theorem wpList_append_sl {w : World} {ops : Array Oper} {rest : List Oper} {o : Oper} {a : Act} {Q : Exit → Act → World → Prop} (hgd : o.guard = none) (s x : Operand) (t : TypeId)
    (ho : o.op = .call { callee := .builtin .append, args := #[s, x], argTypes := #[t, t] })
    (e : TypeId) (i : TypeInfo) (z : Value) (bytes : Nat) (ht : P.underlying t = some (.slice e)) (hi : P.info? e = some i) (hz : i.zero = some z)
    (hsize : i.size = 1) (hby : i.bytes = bytes) (hzs : z.cells.size = 1)
    {v : Value} {l : List Value} {g : Nat} (hv : a.eval s = v) (hs : Sl w e v l g)
    (ad : Addr) (m c : Nat) (news : List Value) (hx : a.eval x = .slice (some ad) m c) (hl : news.length = m) (hnews : ∀ j u, news[j]? = some u → w.cell? (ad.add j) = some u) (h1 : ∀ u ∈ news, u.oneCell' = true)
    (h63 : l.length + m ≤ maxLen) (hbytes : (l.length + m) * bytes ≤ 140737488355328)
    (h : ∀ v' w' g', Sl w' e v' (l ++ news) g' → (g' = g ∨ g' = w.heap.size) → w.grownBy w' (some g) → wpList P ops Q rest (a.put o.dst v') w') : wpList P ops Q (o :: rest) a w := by
  refine wpList_plain hgd fun K hK => ?_
  obtain ⟨v', w', g', hr, h2, h3, h4⟩ := run_append_sl (P := P) w t o.type e i z bytes ht hi hz hsize hby hzs hs ad m c news hl hnews h1 h63 hbytes
  unfold Oper.wp execOp
  simp only [ho, resolve, invoke, builtin, Sem.run_bind, Sem.run_pure, Result.andThen_ok, List.map_toArray, List.map_cons, List.map_nil, hv, hx, hr]
  exact hK _ _ (h v' w' g' h2 h3 h4)
end
end Go.Proofs.Ytfkfkoebplpooaa
