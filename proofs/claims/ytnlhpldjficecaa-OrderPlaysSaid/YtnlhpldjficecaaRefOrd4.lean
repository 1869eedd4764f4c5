/- The reference's sorter in memory: New, Push, End. Of at most 1000000 elements. -/
import Derived.Test.YtnlhpldjficecaaOrdSpec
import Derived.Test.YtnlhpldjficecaaRefOrd3
namespace Go.Proofs.Ytnlhpldjficecaa
open Go.RowKit Go.PlainAid
set_option linter.unusedVariables false
/-- All elements that came, in a slice of block g; the sorter's block k. -/
structure RAll (m : OM) (all : List ByteArray) : Prop where
  len : all.length = m.n + 1
  last : ∃ x, all[m.n]? = some x ∧ bl x = m.last
  none : m.n = 0 → m.prev = []
  prev : ∀ n', m.n = n' + 1 → ∃ x, all[n']? = some x ∧ bl x = m.prev
def RefSo : OrdPred := fun w k F m => ∃ (all : List ByteArray) (g : Nat) (v : Value), Row w k 50 [.int .i64 m.most, v, .int .i64 m.e] ∧ Sl w 9 v (svs all) g ∧ k ≠ g ∧ (∀ i, F i ↔ i = k ∨ i = g) ∧ RAll m all
theorem refSo_lt {w : World} {k : Nat} {F : Nat → Prop} {m : OM} (h : RefSo w k F m) : ∀ i, F i → i < w.heap.size := by
  obtain ⟨all, g, v, h1, h2, _, h4, _⟩ := h
  intro i hi
  rcases (h4 i).1 hi with rfl | rfl
  · exact h1.lt
  · exact h2.lt
theorem Sl.chg {F : Nat → Prop} {w w' : World} {t : TypeId} {v : Value} {l : List Value} {g : Nat} (h : Sl w t v l g) (hc : Chg F w w') (hg : ¬ F g) : Sl w' t v l g := by
  obtain ⟨sp, h1, h2, h3⟩ := h
  exact ⟨sp, h1, h2, h3.chg hc hg⟩
theorem refSo_aside {w w' : World} {k : Nat} {F F' : Nat → Prop} {m : OM} (h : RefSo w k F m) (hc : Chg F' w w') (hF : ∀ i, F i → ¬ F' i) : RefSo w' k F m := by
  obtain ⟨all, g, v, h1, h2, h3, h4, h5⟩ := h
  exact ⟨all, g, v, h1.chg hc (hF k ((h4 k).2 (.inl rfl))), h2.chg hc (hF g ((h4 g).2 (.inr rfl))), h3, h4, h5⟩
theorem most_of {most : Int} : ((OM.new most).most : Int) = if most < 0 then 0 else if 65536 < most then 65536 else most := by
  unfold OM.new
  show (((min (max most 0) 65536).toNat : Nat) : Int) = _
  repeat' split
  all_goals omega
set_option maxHeartbeats 4000000 in
theorem refSo_new (w : World) (most : Int) (hm : InI most) : Calls Try.prog 12 #[.int .i64 most] w fun e w' => ∃ k F, e = .returned (.pointer (some ⟨k, 0, none⟩)) ∧ (∀ i, F i → w.heap.size ≤ i) ∧ RefSo w' k F (OM.new most) ∧ Below w.heap.size w w' := by
  have hM := most_of (most := most)
  have hfin : ∀ v : Int, v = ((OM.new most).most : Int) → ∃ k F, Ending.returned (.pointer (some ⟨w.heap.size + 1, 0, none⟩)) = .returned (.pointer (some ⟨k, 0, none⟩)) ∧ (∀ i, F i → w.heap.size ≤ i) ∧
      RefSo ((w.alloc (.cells #[.string ⟨#[]⟩] 9)).alloc (.cells #[.int .i64 v, .slice (some ⟨w.heap.size, 0, none⟩) 1 1, .int .i64 0] 50)) k F (OM.new most) ∧
      Below w.heap.size w ((w.alloc (.cells #[.string ⟨#[]⟩] 9)).alloc (.cells #[.int .i64 v, .slice (some ⟨w.heap.size, 0, none⟩) 1 1, .int .i64 0] 50)) := by
    intro v hv
    subst hv
    refine ⟨w.heap.size + 1, fun i => i = w.heap.size + 1 ∨ i = w.heap.size, rfl, fun i hi => by omega, ?_, ((Below.refl _ _).alloc (Nat.le_refl _) _).alloc (by simp) _⟩
    refine ⟨[⟨#[]⟩], w.heap.size, _, row_new2 w _ _ [.int .i64 (OM.new most).most, .slice (some ⟨w.heap.size, 0, none⟩) 1 1, .int .i64 0], ?_, by omega, fun i => Iff.rfl, rfl, ⟨⟨#[]⟩, rfl, rfl⟩, fun _ => rfl, fun n' h => by cases h⟩
    exact (sl_new_strs w [⟨#[]⟩] (by show 1 ≤ maxLen; unfold maxLen; omega)).alloc _
  have HF := Lib.hid hfin
  clear hfin
  generalize ((OM.new most).most : Int) = M at *
  go_enter Try.func12, Try.ntmps12
  by_cases h1 : most < 0
  · rw [if_pos h1] at hM
    go_wp2
    go_returns
    first | exact HF.out _ hM.symm | (obtain ⟨k, F, q1, q2, q3, q4⟩ := HF.out _ hM.symm; exact ⟨k, q1, F, q2, q3, q4⟩)
  · rw [if_neg h1] at hM
    by_cases h2 : 65536 < most
    · rw [if_pos h2] at hM
      go_wp2
      go_returns
      first | exact HF.out _ hM.symm | (obtain ⟨k, F, q1, q2, q3, q4⟩ := HF.out _ hM.symm; exact ⟨k, q1, F, q2, q3, q4⟩)
    · rw [if_neg h2] at hM
      go_wp2
      go_returns
      first | exact HF.out _ hM.symm | (obtain ⟨k, F, q1, q2, q3, q4⟩ := HF.out _ hM.symm; exact ⟨k, q1, F, q2, q3, q4⟩)
theorem sl_open_at {w : World} {v : Value} {all : List ByteArray} {g n : Nat} (h : Sl w 9 v (svs all) g) (hn : all.length = n) : ∃ c, v = .slice (some ⟨g, 0, none⟩) n c ∧ n ≤ c ∧ c ≤ maxLen := h.open (by rw [svs_length]; exact hn)
theorem sl_str {w : World} {v : Value} {all : List ByteArray} {g i : Nat} {x : ByteArray} (h : Sl w 9 v (svs all) g) (hx : all[i]? = some x) : w.cell? ⟨g, i, none⟩ = some (.string x) := by
  obtain ⟨hi, rfl⟩ := List.getElem?_eq_some_iff.1 hx
  rw [h.cell (by rw [svs_length]; exact hi)]
  simp [svs]
theorem heapn1 {A : Array Obj} {n : Nat} (h : A.size = n) (x : Obj) : (A.push x)[n]? = some x := by subst h; simp
theorem heapn2 {A : Array Obj} {n : Nat} (h : A.size = n) (x y : Obj) : ((A.push x).push y)[n]? = some x := by
  subst h
  rw [Array.getElem?_push, if_neg (by simp), Array.getElem?_push, if_pos rfl]
theorem heapn3 {A : Array Obj} {n : Nat} (h : A.size = n) (x y : Obj) : ((A.push x).push y)[n + 1]? = some y := by
  subst h
  rw [Array.getElem?_push, if_pos (by simp)]
theorem row_of {X : World} {g : Nat} {t : TypeId} {l : List Value} {c : Array Value} (h : X.heap[g]? = some (.cells c t)) (hl : c = l.toArray) : Row X g t l := by subst hl; exact h
/-- The first append: a slice's elements onto a slice of none that the call has just made. -/
theorem so_first {ops : Array Oper} {o : Oper} {a : Act} {X W : World} {K : Act → World → Prop} {Q : Exit → Act → World → Prop} {E : Prop} (hg : o.guard = none) (s x : Operand)
    (hop : o.op = .call { callee := .builtin .append, args := #[s, x], argTypes := #[38, 38] })
    (g5 g m c : Nat) (l : List ByteArray) (hv : a.eval s = .slice (some ⟨g5, 0, none⟩) 0 0) (hx : a.eval x = .slice (some ⟨g, 0, none⟩) m c)
    (h5 : Row X g5 9 []) (hW : W.heap.size ≤ g5) (hm : l.length = m) (hC : Came W (some ⟨g, 0, none⟩) (svs l)) (hB : Below W.heap.size W X) (hl : l.length ≤ 100000000)
    (hK : ∀ v' X1 g', Sl X1 9 v' (svs l) g' → W.heap.size ≤ g' → Below W.heap.size W X1 → (∀ g9 t L, g9 ≠ g5 → Row X g9 t L → Row X1 g9 t L) → K (a.put o.dst v') X1) :
    if Region.wanted o (yielded ops a.tmps) = true then Oper.wp Try.prog o a X K Q else E := by
  refine step_append_strs hg s x hop (l := []) (g := g5) hv ⟨[], rfl, Nat.zero_le _, h5⟩ (some ⟨g, 0, none⟩) m c l hx hm (hC.below hB) (by simp; omega) ?_
  intro v' X1 g' h1 h2 h3
  refine hK v' X1 g' h1 ?_ (hB.grown h3 hB.size (by intro k hk; cases hk; exact hW)) ?_
  · rcases h2 with rfl | rfl
    · exact hW
    · exact hB.size
  · intro g9 t L h9 hr
    exact hr.grown h3 (by intro q; injection q with q; exact h9 q)
/-- The second one: one element more. -/
theorem so_second {ops : Array Oper} {o : Oper} {a : Act} {X W : World} {K : Act → World → Prop} {Q : Exit → Act → World → Prop} {E : Prop} (hg : o.guard = none) (s x : Operand)
    (hop : o.op = .call { callee := .builtin .append, args := #[s, x], argTypes := #[38, 38] })
    (g' g9 : Nat) (v : Value) (l : List ByteArray) (y : ByteArray) (hv : a.eval s = v) (hx : a.eval x = .slice (some ⟨g9, 0, none⟩) 1 1)
    (hS : Sl X 9 v (svs l) g') (hgW : W.heap.size ≤ g') (hR : Row X g9 9 [.string y]) (hB : Below W.heap.size W X) (hl : l.length ≤ 100000000)
    (hK : ∀ v' X1 g2, Sl X1 9 v' (svs (l ++ [y])) g2 → W.heap.size ≤ g2 → Below W.heap.size W X1 → K (a.put o.dst v') X1) :
    if Region.wanted o (yielded ops a.tmps) = true then Oper.wp Try.prog o a X K Q else E := by
  refine step_append_strs hg s x hop (l := l) (g := g') hv hS (some ⟨g9, 0, none⟩) 1 1 [y] hx rfl (Came.sl (v := .slice (some ⟨g9, 0, none⟩) 1 1) ⟨[], rfl, (by show 1 + 0 ≤ maxLen; unfold maxLen; omega), hR⟩) (by simp; omega) ?_
  intro v' X1 g2 h1 h2 h3
  refine hK v' X1 g2 h1 ?_ (hB.grown h3 hB.size (by intro k hk; cases hk; exact hgW))
  rcases h2 with rfl | rfl
  · exact hgW
  · exact hB.size
/-- The sorter's new slice, stored. -/
theorem so_put {w W X : World} {k g g2 : Nat} {F : Nat → Prop} {v0 v : Value} {L : List ByteArray} {m : OM} (hF : ∀ i, F i ↔ i = k ∨ i = g) (hB1 : Below w.heap.size w W) (hR : Row W k 50 [.int .i64 m.most, v0, .int .i64 m.e]) (hB2 : Below W.heap.size W X)
    (hS : Sl X 9 v (svs L) g2) (hg2 : W.heap.size ≤ g2) (hA : RAll m L) :
    (∀ i, (i = k ∨ i = g2) → F i ∨ w.heap.size ≤ i) ∧ RefSo (X.setCell ⟨k, 1, none⟩ v) k (fun i => i = k ∨ i = g2) m ∧ Chg F w (X.setCell ⟨k, 1, none⟩ v) := by
  have hk := hR.lt
  have hw := hB1.size
  refine ⟨?_, ⟨L, g2, v, (hR.below hB2 hk).set 1 v, hS.far (by show g2 ≠ k; omega) v, by omega, fun i => Iff.rfl, hA⟩, ⟨hB2.os.trans hB1.os, hB2.tape.trans hB1.tape, hB2.output.trans hB1.output, by simpa using Nat.le_trans hw hB2.size, fun i hi hn => ?_⟩⟩
  · rintro i (rfl | rfl)
    · exact .inl ((hF i).2 (.inl rfl))
    · exact .inr (by omega)
  · rw [Below.heap_setCell X _ v i (by show i ≠ k; intro e; exact hn ((hF i).2 (.inl e))), hB2.block i (by omega), hB1.block i hi]
/-- All elements, the last one with a byte more; one more element. -/
theorem rall_push {m : OM} {all : List ByteArray} (h : RAll m all) {y : ByteArray} {b : Int} (hy : bl y = m.last ++ [b]) : RAll { m with last := m.last ++ [b] } (all.take m.n ++ [y]) := by
  have hl : (all.take m.n).length = m.n := by rw [List.length_take, h.len]; omega
  refine ⟨by rw [List.length_append, hl]; rfl, ⟨y, ?_, hy⟩, h.none, fun n' hn => ?_⟩
  · show (all.take m.n ++ [y])[m.n]? = some y
    rw [List.getElem?_append_right (by omega), hl, Nat.sub_self]; rfl
  · replace hn : m.n = n' + 1 := hn
    obtain ⟨x, h1, h2⟩ := h.prev n' hn
    exact ⟨x, by rw [List.getElem?_append_left (by omega), List.getElem?_take_of_lt (by omega), h1], h2⟩
theorem rall_fin {m : OM} {all : List ByteArray} (h : RAll m all) : RAll { m with prev := m.last, last := [], n := m.n + 1 } (all ++ [⟨#[]⟩]) := by
  refine ⟨by rw [List.length_append, h.len]; rfl, ⟨⟨#[]⟩, ?_, rfl⟩, fun h => Nat.noConfusion h, fun n' hn => ?_⟩
  · show (all ++ [⟨#[]⟩])[m.n + 1]? = _
    rw [List.getElem?_append_right (by rw [h.len]; omega), h.len, Nat.sub_self]; rfl
  · replace hn : m.n + 1 = n' + 1 := hn
    obtain rfl : m.n = n' := by omega
    obtain ⟨x, h1, h2⟩ := h.last
    exact ⟨x, by rw [List.getElem?_append_left (by rw [h.len]; omega), h1], h2⟩
set_option maxRecDepth 100000 in
set_option maxHeartbeats 8000000 in
theorem refSo_push {w : World} {k : Nat} {F : Nat → Prop} {m : OM} (b : Int) (hA : RefSo w k F m) (hOk : m.Ok) (hn : m.n ≤ 1000000) (hb : 0 ≤ b ∧ b ≤ 255) :
    Calls Try.prog 14 #[.pointer (some ⟨k, 0, none⟩), .int .u8 b] w fun r w' => ∃ F', r = .returned (.int .i64 (m.push b).e) ∧ (∀ i, F' i → F i ∨ w.heap.size ≤ i) ∧ RefSo w' k F' (m.push b) ∧ Chg F w w' := by
  obtain ⟨all, g, v, hR, hS, hkg, hF, hAll⟩ := hA
  obtain ⟨most, prev, last, n, e⟩ := m
  have HF := Lib.hid hF
  clear hF
  obtain ⟨c, rfl, hc1, hc2⟩ := sl_open_at hS hAll.len
  have q0 : w.cell? ⟨k, 0, none⟩ = some (.int .i64 most) := hR.cell 0
  have q1 : w.cell? ⟨k, 1, none⟩ = some (.slice (some ⟨g, 0, none⟩) (n + 1) c) := hR.cell 1
  have q2 : w.cell? ⟨k, 2, none⟩ = some (.int .i64 e) := hR.cell 2
  have f2 := hR.frozen 2
  by_cases he : e = 0
  · subst he
    obtain ⟨x, hx, hxl⟩ := hAll.last
    have hxc : w.cell? ⟨g, n, none⟩ = some (.string x) := sl_str hS hx
    replace hxl : bl x = last := hxl
    have hxs : x.size = last.length := by rw [← bl_length, hxl]
    have hll : last.length ≤ most := hOk.len
    have hmm : most ≤ 65536 := hOk.most
    have hxm : x.size ≤ 65536 := by omega
    have hnn : (((n : Int) + 1) - 1) = (n : Int) := by omega
    have hnc : n < n + 1 := by omega
    have hconv := fun W g h => conv_at b W g h
    go_enter Try.func14, Try.ntmps14
    go_wp2_with fail
    have hov : ¬ 9223372036854775807 < x.size + (strOfNums [b]).size := by rw [strOfNums_size]; show ¬ 9223372036854775807 < x.size + 1; omega
    have HR := Lib.hid hR
    have HS := Lib.hid hS
    have HA := Lib.hid hAll
    have HX := Lib.hid hx
    have HXL := Lib.hid hxl
    have HBb := Lib.hid hb
    clear hR hS hAll hOk hx hxl hb
    replace hn : n ≤ 1000000 := hn
    have hA1 : (w.alloc (.cells #[.int .u8 b] 5)).cell? ⟨k, 1, none⟩ = some (.slice (some ⟨g, 0, none⟩) (n + 1) c) := (HR.out.alloc _).cell 1
    have hA2 : (w.alloc (.cells #[.int .u8 b] 5)).cell? ⟨g, n, none⟩ = some (.string x) := sl_str (HS.out.alloc _) HX.out
    have hA3 : (w.alloc (.cells #[.int .u8 b] 5)).cell? ⟨w.heap.size, 0, none⟩ = some (.int .u8 b) := by simp
    have hA4 := hconv _ _ hA3
    go_region
    have HR1 : Hid (Row (w.alloc (.cells #[.int .u8 b] 5)).drew k 50 [.int .i64 most, .slice (some ⟨g, 0, none⟩) (n + 1) c, .int .i64 0]) := Lib.hid (HR.out.alloc _)
    have HS1 : Hid (Sl (w.alloc (.cells #[.int .u8 b] 5)).drew 9 (.slice (some ⟨g, 0, none⟩) (n + 1) c) (svs all) g) := Lib.hid (HS.out.alloc _)
    have HB1 : Hid (Below w.heap.size w (w.alloc (.cells #[.int .u8 b] 5)).drew) := Lib.hid ((Below.refl _ _).alloc (Nat.le_refl _) _).drew
    clear hA1 hA2 hA3 hA4 hconv q0 q1 q2 f2 hxc HR HS
    generalize (w.alloc (.cells #[.int .u8 b] 5)).drew = W at *
    have p0 : W.cell? ⟨k, 0, none⟩ = some (.int .i64 most) := HR1.out.cell 0
    have p1 : W.cell? ⟨k, 1, none⟩ = some (.slice (some ⟨g, 0, none⟩) (n + 1) c) := HR1.out.cell 1
    have p2 : W.cell? ⟨k, 2, none⟩ = some (.int .i64 0) := HR1.out.cell 2
    have f2 := HR1.out.frozen 2
    have f1 := HR1.out.frozen 1
    have hys : (x ++ strOfNums [b]).size = last.length + 1 := by rw [ByteArray.size_append, strOfNums_size, hxs]; rfl
    have HY : Hid (bl (x ++ strOfNums [b]) = last ++ [b]) := Lib.hid (by rw [bl_append, HXL.out, bl_str (isB_one HBb.out)])
    have hkW := HR1.out.lt
    have hgW := HS1.out.lt
    generalize x ++ strOfNums [b] = y at *
    by_cases hov2 : most < last.length + 1
    · have HP : Hid ((OM.mk most prev last n 0).push b = ⟨most, prev, last, n, 11⟩) := Lib.hid (OM.push_over b rfl hov2)
      have hlt : (most : Int) < (y.size : Int) := by omega
      go_wp2
      go_returns
      rw [HP.out]
      refine ⟨F, rfl, fun i hi => .inl hi, ⟨all, g, _, HR1.out.set 2 _, HS1.out.far (by show g ≠ k; omega) _, hkg, HF.out, ⟨HA.out.len, HA.out.last, HA.out.none, HA.out.prev⟩⟩, ?_⟩
      refine ⟨HB1.out.os, HB1.out.tape, HB1.out.output, by simpa using HB1.out.size, fun i hi hn => ?_⟩
      rw [Below.heap_setCell W _ _ i (by show i ≠ k; intro e; exact hn ((HF.out i).2 (.inl e)))]
      exact HB1.out.block i hi
    · have HP : Hid ((OM.mk most prev last n 0).push b = ⟨most, prev, last ++ [b], n, 0⟩) := Lib.hid (OM.push_on b rfl hov2)
      have hlt : ¬ (most : Int) < (y.size : Int) := by omega
      have hCm : Hid (Came W (some ⟨g, 0, none⟩) (svs (all.take n))) := Lib.hid (by
        have h1 := HS1.out.front (k := n) (by rw [svs_length, HA.out.len]; show n ≤ n + 1; omega)
        have h2 : (svs all).take n = svs (all.take n) := by simp [svs]
        rw [h2] at h1
        exact Came.sl h1)
      have hnl : (all.take n).length = n := by rw [List.length_take, HA.out.len]; show min n (n + 1) = n; omega
      have hnl8 : (all.take n).length ≤ 100000000 := by omega
      clear p2 f2 f1
      have a1 : (W.alloc (.cells #[] 9)).cell? ⟨k, 1, none⟩ = some (.slice (some ⟨g, 0, none⟩) (n + 1) c) := (HR1.out.alloc _).cell 1
      have a2 : (W.alloc (.cells #[.string y] 9)).cell? ⟨k, 1, none⟩ = some (.slice (some ⟨g, 0, none⟩) (n + 1) c) := (HR1.out.alloc _).cell 1
      have a3 : ((W.alloc (.cells #[] 9)).alloc (.cells #[.string y] 9)).cell? ⟨k, 1, none⟩ = some (.slice (some ⟨g, 0, none⟩) (n + 1) c) := ((HR1.out.alloc _).alloc _).cell 1
      have a4 : ((W.alloc (.cells #[.string y] 9)).alloc (.cells #[] 9)).cell? ⟨k, 1, none⟩ = some (.slice (some ⟨g, 0, none⟩) (n + 1) c) := ((HR1.out.alloc _).alloc _).cell 1
      have hnl := Lib.hid hnl
      have hnl8 := Lib.hid hnl8
      have hcn : n ≤ c := by omega
      have hcni : (n : Int) ≤ (c : Int) := by omega
      have hwr : IntKind.i64.wrap (n : Int) = (n : Int) := by rw [IntKind.wrap_i64]; omega
      go_wp2_with fail
      clear p0
      go_region_law (first
        | (refine so_first rfl (.tmp 46) (.tmp 57) rfl W.heap.size g n c (all.take n) rfl rfl (row_of (heapn1 (A := W.heap) rfl (.cells #[] 9)) rfl) (Nat.le_refl _) hnl.out hCm.out (by first | exact ((Below.refl _ _).alloc (Nat.le_refl _) _).drew | exact (Below.refl _ _).alloc (Nat.le_refl _) _) hnl8.out ?_
           intro v1 X1 g1 ho1 hg1 hB1 hg9
           have HR9 : Row (X1.alloc (.cells #[.string y] 9)) X1.heap.size 9 [.string y] := Row.new X1 _ [.string y])
        | (refine so_first rfl (.tmp 46) (.tmp 57) rfl W.heap.size g n c (all.take n) rfl rfl (row_of (heapn2 (A := W.heap) rfl (.cells #[] 9) (.cells #[.string y] 9)) rfl) (Nat.le_refl _) hnl.out hCm.out (by first | exact (((Below.refl _ _).alloc (Nat.le_refl _) _).alloc (by simp) _).drew | exact ((Below.refl _ _).alloc (Nat.le_refl _) _).alloc (by simp) _) hnl8.out ?_
           intro v1 X1 g1 ho1 hg1 hB1 hg9
           have r9 := hg9 (W.heap.size + 1) _ _ (by omega) (row_of (heapn3 (A := W.heap) rfl (.cells #[] 9) (.cells #[.string y] 9)) (l := [.string y]) rfl))
        | (refine so_first rfl (.tmp 46) (.tmp 57) rfl (W.heap.size + 1) g n c (all.take n) rfl rfl (row_of (heapn3 (A := W.heap) rfl (.cells #[.string y] 9) (.cells #[] 9)) rfl) (by omega) hnl.out hCm.out (by first | exact (((Below.refl _ _).alloc (Nat.le_refl _) _).alloc (by simp) _).drew | exact ((Below.refl _ _).alloc (Nat.le_refl _) _).alloc (by simp) _) hnl8.out ?_
           intro v1 X1 g1 ho1 hg1 hB1 hg9
           have r9 := hg9 W.heap.size _ _ (by omega) (row_of (heapn2 (A := W.heap) rfl (.cells #[.string y] 9) (.cells #[] 9)) (l := [.string y]) rfl))
        | (refine so_second rfl (.tmp 58) (.tmp 60) rfl g1 X1.heap.size v1 (all.take n) y rfl rfl (by first | exact (ho1.alloc _).drew | exact ho1.alloc _) hg1 (by first | exact HR9) (by first | exact hB1.alloc hB1.size _ | exact (hB1.alloc hB1.size _).drew) hnl8.out ?_
           intro v2 X2 g2 ho2 hg2 hB2
           obtain ⟨c9, rfl, hc9, hc9m⟩ := sl_open_at ho2 (n := n + 1) (by rw [List.length_append, hnl.out]; rfl)
           have hR2 := HR1.out.below hB2 hkW
           have c2 := hR2.cell 1
           have z2 := hR2.frozen 1)
        | (refine so_second rfl (.tmp 58) (.tmp 60) rfl g1 (W.heap.size + 1) v1 (all.take n) y rfl rfl (by first | exact ho1.drew | exact ho1) hg1 (by first | exact r9) (by first | exact hB1 | exact hB1.drew) hnl8.out ?_
           intro v2 X2 g2 ho2 hg2 hB2
           obtain ⟨c9, rfl, hc9, hc9m⟩ := sl_open_at ho2 (n := n + 1) (by rw [List.length_append, hnl.out]; rfl)
           have hR2 := HR1.out.below hB2 hkW
           have c2 := hR2.cell 1
           have z2 := hR2.frozen 1)
        | (refine so_second rfl (.tmp 58) (.tmp 60) rfl g1 W.heap.size v1 (all.take n) y rfl rfl (by first | exact ho1.drew | exact ho1) hg1 (by first | exact r9) (by first | exact hB1 | exact hB1.drew) hnl8.out ?_
           intro v2 X2 g2 ho2 hg2 hB2
           obtain ⟨c9, rfl, hc9, hc9m⟩ := sl_open_at ho2 (n := n + 1) (by rw [List.length_append, hnl.out]; rfl)
           have hR2 := HR1.out.below hB2 hkW
           have c2 := hR2.cell 1
           have z2 := hR2.frozen 1))
      all_goals
        have hD := so_put (m := ⟨most, prev, last ++ [b], n, 0⟩) HF.out HB1.out HR1.out hB2 ho2 hg2 (rall_push HA.out HY.out)
        have HD := Lib.hid hD
        clear hD hR2 c2 z2 ho2 hB2 ho1 hB1 hg9 p1 a1 a2 a3 a4 hCm hnl hnl8
        go_wp2
        go_returns
        rw [HP.out]
        first
          | exact ⟨rfl, _, HD.out.1, HD.out.2.1, HD.out.2.2⟩
          | exact ⟨_, rfl, HD.out.1, HD.out.2.1, HD.out.2.2⟩
          | exact ⟨rfl, _, HD.out.1, HD.out.2.1, ⟨HD.out.2.2.os, HD.out.2.2.tape, HD.out.2.2.output, HD.out.2.2.size, HD.out.2.2.block⟩⟩
  · have hp : (OM.mk most prev last n e).push b = ⟨most, prev, last, n, e⟩ := OM.push_err b he
    rw [hp]
    have hne : (e != 0) = true := by simpa using he
    go_enter Try.func14, Try.ntmps14
    go_wp2
    go_returns
    exact ⟨rfl, F, fun i hi => .inl hi, ⟨all, g, _, hR, hS, hkg, HF.out, hAll⟩, ⟨rfl, rfl, rfl, Nat.le_refl _, fun i _ _ => rfl⟩⟩
end Go.Proofs.Ytnlhpldjficecaa
