/- Events in memory: a list of them in a slice of a call's own, and the reference's 'and': one event more. -/
import Derived.Test.YtagigdefghnnhaaEvent
import Derived.Test.YtagigdefghnnhaaOwn
import Derived.Test.YtagigdefghnnhaaChecked
import Derived.WalkKit
import Derived.WalkSpells
import Derived.Handy
import Derived.Lib.Hide
import Derived.Deep.RegionLaw
namespace Go.Proofs.Ytagigdefghnnhaa
open Go.RowKit
set_option linter.unusedVariables false
def evV (e : Ev) : Value := .agg #[.int .i64 e.k, .int .i64 e.at_, .int .i64 e.c, .int .i64 e.t, .bool e.f, .int .i64 e.n, .int .u8 e.b]
def evC (e : Ev) : List Value := [.int .i64 e.k, .int .i64 e.at_, .int .i64 e.c, .int .i64 e.t, .bool e.f, .int .i64 e.n, .int .u8 e.b]
def evCs (l : List Ev) : List Value := l.flatMap evC
theorem evCs_append (l m : List Ev) : evCs (l ++ m) = evCs l ++ evCs m := by simp [evCs]
theorem evCs_length (l : List Ev) : (evCs l).length = l.length * 7 := by
  induction l with
  | nil => rfl
  | cons e r ih => show (evC e ++ evCs r).length = _; rw [List.length_append, ih]; simp [evC]; omega
theorem evCs_one (l : List Ev) : ∀ u ∈ evCs l, u.oneCell' = true := by
  intro u hu
  obtain ⟨e, _, h⟩ := List.mem_flatMap.1 hu
  simp [evC] at h
  rcases h with rfl | rfl | rfl | rfl | rfl | rfl | rfl <;> rfl
theorem infoEv : (Try.prog.info? 42).map (fun i => (i.zero, i.size, i.bytes)) = some (some (.agg #[.int .i64 0, .int .i64 0, .int .i64 0, .int .i64 0, .bool false, .int .i64 0, .int .u8 0]), 7, 56) := by kernel_rfl
/-- A slice that a call has made (or nil) that holds these events. -/
def Evs (w : World) (base : Nat) (v : Value) (l : List Ev) : Prop := w.ownsRow base 42 7 v l.length (evCs l)
theorem Evs.below {w w' : World} {base : Nat} {v : Value} {l : List Ev} (h : Evs w base v l) (hb : Below w.heap.size w w') : Evs w' base v l := own_below h hb
theorem Evs.nil (w : World) (base : Nat) : Evs w base (.slice none 0 0) [] := World.ownsRow_nil _ _ _ _
theorem Evs.mono {w : World} {base base' : Nat} {v : Value} {l : List Ev} (h : Evs w base v l) (hb : base' ≤ base) : Evs w base' v l := by
  obtain ⟨hl, h1 | ⟨g, cap, cur, hv, hg, hh⟩⟩ := h
  · exact ⟨hl, .inl h1⟩
  · exact ⟨hl, .inr ⟨g, cap, cur, hv, Nat.le_trans hb hg, hh⟩⟩
theorem Evs.shape {w : World} {base : Nat} {v : Value} {l : List Ev} (h : Evs w base v l) : (v = .slice none 0 0 ∧ l = []) ∨ ∃ g c, v = .slice (some ⟨g, 0, none⟩) l.length c ∧ l.length ≤ c ∧ c ≤ maxLen ∧ base ≤ g ∧ g < w.heap.size := by
  rcases own_shape h with ⟨h1, h2⟩ | h1
  · exact .inl ⟨h1, List.eq_nil_of_length_eq_zero h2⟩
  · exact .inr h1
theorem Evs.cells {w : World} {base g c : Nat} {l : List Ev} (h : Evs w base (.slice (some ⟨g, 0, none⟩) l.length c) l) : ∀ j u, (evCs l)[j]? = some u → w.cell? ((⟨g, 0, none⟩ : Addr).add j) = some u := World.ownsRow.cells h rfl
/-- append, as one step of a region that draws. -/
theorem step_append_evs {ops : Array Oper} {o : Oper} {a : Act} {w : World} {K : Act → World → Prop} {Q : Exit → Act → World → Prop} {E : Prop} (hg : o.guard = none) (s x : Operand)
    (hop : o.op = .call { callee := .builtin .append, args := #[s, x], argTypes := #[24, 24] })
    (base : Nat) {v : Value} {l : List Ev} (hv : a.eval s = v) (hs : Evs w base v l) (hb : base ≤ w.heap.size)
    (ad : Addr) (m c : Nat) (l2 : List Ev) (hx : a.eval x = .slice (some ad) m c) (hm : l2.length = m) (hc : ∀ j u, (evCs l2)[j]? = some u → w.cell? (ad.add j) = some u) (h63 : l.length + l2.length ≤ 1000000000)
    (hK : ∀ v' w', Evs w' base v' (l ++ l2) → w.grownBy w' v.ownBlock → (v' = .slice none 0 0 ↔ v = .slice none 0 0 ∧ m = 0) → K (a.put o.dst v') w') :
    if Region.wanted o (yielded ops a.tmps) = true then Oper.wp Try.prog o a w K Q else E := by
  have hw : Region.wanted o (yielded ops a.tmps) = true := by simp [Region.wanted, hg]
  rw [if_pos hw]
  obtain ⟨i0, hi, hz0, hz1, hz2⟩ := info_parts infoEv
  refine wp_append_own (P := Try.prog) (w := w) s x 24 hop base 42 i0 _ 7 56 Try.underlying24 hi hz0 hz1 hz2 rfl (by decide) v l.length (evCs l) hv hs ad m c (evCs l2) hx (by rw [evCs_length, hm]) hc (evCs_one _) (by unfold maxLen; omega) (by omega) hb ?_
  intro v' w' h1 h2 h3
  refine hK v' w' ?_ h2 h3
  unfold Evs
  rw [List.length_append, hm, evCs_append]
  exact h1
theorem Evs.made {w : World} {base g : Nat} (h : Row w g 42 []) (hb : base ≤ g) : Evs w base (.slice (some ⟨g, 0, none⟩) 0 0) [] := by
  refine ⟨rfl, .inr ⟨g, 0, #[], rfl, hb, ?_, Nat.le_refl _, Nat.zero_le _, rfl, rfl⟩⟩
  exact h
theorem row_cells {w : World} {g : Nat} {t : TypeId} {l : List Value} (h : Row w g t l) : ∀ j u, l[j]? = some u → w.cell? ((⟨g, 0, none⟩ : Addr).add j) = some u := by
  intro j u hj
  rw [show (⟨g, 0, none⟩ : Addr).add j = ⟨g, j, none⟩ by unfold Addr.add; split <;> simp_all, h.cell]; exact hj
theorem ev_row {w : World} {g : Nat} {e : Ev} (h : Row w g 42 (evC e)) : ∀ j u, (evCs [e])[j]? = some u → w.cell? ((⟨g, 0, none⟩ : Addr).add j) = some u := by
  intro j u hj
  refine row_cells h j u ?_
  simpa [evCs] using hj
theorem ev_facts {w : World} {g : Nat} {k p c t : Int} {f : Bool} {n b : Int} (h : Row w g 42 (evC ⟨k, p, c, t, f, n, b⟩)) :
    w.cell? ⟨g, 0, none⟩ = some (.int .i64 k) ∧ w.cell? ⟨g, 1, none⟩ = some (.int .i64 p) ∧ w.cell? ⟨g, 2, none⟩ = some (.int .i64 c) ∧ w.cell? ⟨g, 3, none⟩ = some (.int .i64 t) ∧ w.cell? ⟨g, 4, none⟩ = some (.bool f) ∧ w.cell? ⟨g, 5, none⟩ = some (.int .i64 n) ∧ w.cell? ⟨g, 6, none⟩ = some (.int .u8 b) :=
  ⟨h.cell 0, h.cell 1, h.cell 2, h.cell 3, h.cell 4, h.cell 5, h.cell 6⟩
abbrev evO (e : Ev) : Obj := .cells #[.int .i64 e.k, .int .i64 e.at_, .int .i64 e.c, .int .i64 e.t, .bool e.f, .int .i64 e.n, .int .u8 e.b] 42
theorem row_of_heap {X : World} {g : Nat} {t : TypeId} {l : List Value} {c : Array Value} (h : X.heap[g]? = some (.cells c t)) (hl : c = l.toArray) : Row X g t l := by subst hl; exact h
theorem heap_push2 {A : Array Obj} (x y : Obj) : ((A.push x).push y)[A.size]? = some x ∧ ((A.push x).push y)[A.size + 1]? = some y := by
  refine ⟨?_, ?_⟩
  · rw [Array.getElem?_push, if_neg (by simp), Array.getElem?_push, if_pos rfl]
  · rw [Array.getElem?_push, if_pos (by simp)]
theorem heap_push1 {A : Array Obj} (x : Obj) : (A.push x)[A.size]? = some x := by simp
theorem heap_at1 {A : Array Obj} {n : Nat} (h : A.size = n) (x : Obj) : (A.push x)[n]? = some x := by subst h; exact heap_push1 x
theorem heap_at2 {A : Array Obj} {n : Nat} (h : A.size = n) (x y : Obj) : ((A.push x).push y)[n]? = some x := by subst h; exact (heap_push2 x y).1
theorem heap_at3 {A : Array Obj} {n : Nat} (h : A.size = n) (x y : Obj) : ((A.push x).push y)[n + 1]? = some y := by subst h; exact (heap_push2 x y).2
theorem heap_low {A : Array Obj} {i : Nat} (h : i < A.size) (x y : Obj) : (A.push x)[i]? = A[i]? ∧ ((A.push x).push y)[i]? = A[i]? := by
  constructor
  · rw [Array.getElem?_push, if_neg (by omega)]
  · rw [Array.getElem?_push, if_neg (by simp; omega), Array.getElem?_push, if_neg (by omega)]
/-- A nil list onto a slice of none. -/
theorem and_none {ops : Array Oper} {o : Oper} {a : Act} {X : World} {K : Act → World → Prop} {Q : Exit → Act → World → Prop} {E : Prop} (hg : o.guard = none) (s x : Operand)
    (hop : o.op = .call { callee := .builtin .append, args := #[s, x], argTypes := #[24, 24] })
    (g5 : Nat) (hv : a.eval s = .slice (some ⟨g5, 0, none⟩) 0 0) (hx : a.eval x = .slice none 0 0)
    (hK : K (a.put o.dst (.slice (some ⟨g5, 0, none⟩) 0 0)) X) :
    if Region.wanted o (yielded ops a.tmps) = true then Oper.wp Try.prog o a X K Q else E := by
  have hw : Region.wanted o (yielded ops a.tmps) = true := by simp [Region.wanted, hg]
  rw [if_pos hw]
  obtain ⟨i0, hi, _, _, _⟩ := info_parts infoEv
  have hrun : (Builtin.append_ #[24, 24] o.type #[.slice (some ⟨g5, 0, none⟩) 0 0, .slice none 0 0]).run Try.prog X = .ok (.slice (some ⟨g5, 0, none⟩) 0 0) X := by
    simp [Builtin.append_, run_underlying Try.underlying24, sizeOf, typeInfo, hi, Builtin.lenOf, Builtin.firstCells, storeCells]
  unfold Oper.wp
  simp [execOp, hop, resolve, invoke, builtin, hv, hx, hrun, Result.andThen]
  exact hK
/-- The first append of 'and': onto a slice of none that the call has just made. -/
theorem and_first {ops : Array Oper} {o : Oper} {a : Act} {X W : World} {K : Act → World → Prop} {Q : Exit → Act → World → Prop} {E : Prop} (hg : o.guard = none) (s x : Operand)
    (hop : o.op = .call { callee := .builtin .append, args := #[s, x], argTypes := #[24, 24] })
    (base g5 kb g c : Nat) (l : List Ev) (e : Ev) (hv : a.eval s = .slice (some ⟨g5, 0, none⟩) 0 0) (hx : a.eval x = .slice (some ⟨g, 0, none⟩) l.length c)
    (h5 : Row X g5 42 []) (hR : Row X kb 42 (evC e)) (h5k : kb ≠ g5) (hW : W.heap.size ≤ g5) (hE : Evs W base (.slice (some ⟨g, 0, none⟩) l.length c) l) (hB : Below W.heap.size W X) (hl : l.length ≤ 100000000)
    (hK : ∀ v' X1, Evs X1 W.heap.size v' l → Row X1 kb 42 (evC e) → Below W.heap.size W X1 → (∀ g9, g9 ≠ g5 → Row X g9 42 (evC e) → Row X1 g9 42 (evC e)) → K (a.put o.dst v') X1) :
    if Region.wanted o (yielded ops a.tmps) = true then Oper.wp Try.prog o a X K Q else E := by
  refine step_append_evs hg s x hop W.heap.size (l := []) hv (Evs.made h5 hW) hB.size ⟨g, 0, none⟩ l.length c l hx rfl (hE.below hB).cells (by simp; omega) ?_
  intro v' X1 h1 h2 _
  have h2 : X.grownBy X1 (some g5) := h2
  refine hK v' X1 h1 (hR.grown h2 (by intro q; injection q with q; exact h5k q)) (hB.grown h2 hB.size (by intro k hk; cases hk; exact hW)) ?_
  intro g9 h9 hr
  exact hr.grown h2 (by intro q; injection q with q; exact h9 q)
/-- The second one: the event behind the list. -/
theorem and_second {ops : Array Oper} {o : Oper} {a : Act} {X w : World} {K : Act → World → Prop} {Q : Exit → Act → World → Prop} {E : Prop} (hg : o.guard = none) (s x : Operand)
    (hop : o.op = .call { callee := .builtin .append, args := #[s, x], argTypes := #[24, 24] })
    (base kb g9 : Nat) (v : Value) (l : List Ev) (e : Ev) (hv : a.eval s = v) (hx : a.eval x = .slice (some ⟨g9, 0, none⟩) 1 1)
    (hE : Evs X kb v l) (hR : Row X g9 42 (evC e)) (hB : Below w.heap.size w X) (hk : w.heap.size ≤ kb) (hkX : kb ≤ X.heap.size) (hb : base ≤ w.heap.size) (hl : l.length ≤ 100000000)
    (hK : ∀ v' X1, Evs X1 base v' (l ++ [e]) → Below w.heap.size w X1 → K (a.put o.dst v') X1) :
    if Region.wanted o (yielded ops a.tmps) = true then Oper.wp Try.prog o a X K Q else E := by
  refine step_append_evs hg s x hop kb (l := l) hv hE hkX ⟨g9, 0, none⟩ 1 1 [e] hx rfl (ev_row hR) (by simp; omega) ?_
  intro v' X1 h1 h2 _
  refine hK v' X1 (h1.mono (Nat.le_trans hb hk)) ?_
  exact hB.grown h2 hB.size (fun k q => Nat.le_trans hk (hE.lt k q).1)
set_option maxHeartbeats 1600000 in
theorem refAnd_any {w : World} {base : Nat} {v : Value} {l : List Ev} (h : Evs w base v l) (hb : base ≤ w.heap.size) (hl : l.length ≤ 100000000) (e : Ev) :
    Calls Try.prog 31 #[v, evV e] w fun r w' => ∃ v', r = .returned v' ∧ Evs w' base v' (l ++ [e]) ∧ Below w.heap.size w w' := by
  rcases h.shape with ⟨rfl, rfl⟩ | ⟨g, c, rfl, hlc, hcm, hbg, hgw⟩
  · unfold evV
    clear h
    go_enter Try.func31, Try.ntmps31
    go_wp2_with fail
    have HB : Hid (Below w.heap.size w (w.alloc (evO e))) := Lib.hid ((Below.refl _ _).alloc (Nat.le_refl _) _)
    have HR : Hid (Row (w.alloc (evO e)) w.heap.size 42 (evC e)) := Lib.hid (Row.new w 42 (evC e))
    have hws : (w.alloc (evO e)).heap.size = w.heap.size + 1 := by simp
    obtain ⟨k, p, c0, t, f, n, b⟩ := e
    generalize w.alloc (evO ⟨k, p, c0, t, f, n, b⟩) = W at *
    obtain ⟨k0, k1, k2, k3, k4, k5, k6⟩ := ev_facts HR.out
    have hwW : w.heap.size ≤ W.heap.size := by omega
    have HBW := Lib.hid (fun (X : World) (h : Below W.heap.size W X) => HB.out.trans (h.mono hwW))
    go_region_law (first
      | (refine and_none rfl (.tmp 5) (.tmp 6) rfl (w.heap.size + 1) rfl rfl ?_)
      | (refine and_none rfl (.tmp 5) (.tmp 6) rfl (w.heap.size + 2) rfl rfl ?_)
      | (refine and_second rfl (.tmp 7) (.tmp 9) rfl base W.heap.size (w.heap.size + 2) (.slice (some ⟨w.heap.size + 1, 0, none⟩) 0 0) [] ⟨k, p, c0, t, f, n, b⟩ rfl rfl (Evs.made (row_of_heap (heap_at2 hws (.cells #[] 42) (evO ⟨k, p, c0, t, f, n, b⟩)) rfl) (by omega)) (row_of_heap (heap_at3 hws (.cells #[] 42) (evO ⟨k, p, c0, t, f, n, b⟩)) rfl) (HBW.out _ (by first | exact (((Below.refl _ _).alloc (Nat.le_refl _) _).alloc (by simp) _).drew | exact ((Below.refl _ _).alloc (Nat.le_refl _) _).alloc (by simp) _)) hwW (by simp; omega) hb (by simp) ?_; intro v2 X2 ho2 hB2)
      | (refine and_second rfl (.tmp 7) (.tmp 9) rfl base W.heap.size (w.heap.size + 1) (.slice (some ⟨w.heap.size + 2, 0, none⟩) 0 0) [] ⟨k, p, c0, t, f, n, b⟩ rfl rfl (Evs.made (row_of_heap (heap_at3 hws (evO ⟨k, p, c0, t, f, n, b⟩) (.cells #[] 42)) rfl) (by omega)) (row_of_heap (heap_at2 hws (evO ⟨k, p, c0, t, f, n, b⟩) (.cells #[] 42)) rfl) (HBW.out _ (by first | exact (((Below.refl _ _).alloc (Nat.le_refl _) _).alloc (by simp) _).drew | exact ((Below.refl _ _).alloc (Nat.le_refl _) _).alloc (by simp) _)) hwW (by simp; omega) hb (by simp) ?_; intro v2 X2 ho2 hB2))
    all_goals
      go_wp2
      go_returns
      exact ⟨_, rfl, ho2, hB2⟩
  · unfold evV
    have HE := Lib.hid h
    clear h
    go_enter Try.func31, Try.ntmps31
    go_wp2_with fail
    have HB : Hid (Below w.heap.size w (w.alloc (evO e))) := Lib.hid ((Below.refl _ _).alloc (Nat.le_refl _) _)
    have HR : Hid (Row (w.alloc (evO e)) w.heap.size 42 (evC e)) := Lib.hid (Row.new w 42 (evC e))
    have hws : (w.alloc (evO e)).heap.size = w.heap.size + 1 := by simp
    have HE1 := Lib.hid (HE.out.below HB.out)
    obtain ⟨k, p, c0, t, f, n, b⟩ := e
    generalize w.alloc (evO ⟨k, p, c0, t, f, n, b⟩) = W at *
    obtain ⟨k0, k1, k2, k3, k4, k5, k6⟩ := ev_facts HR.out
    have hbW : base ≤ W.heap.size := by omega
    have hwW : w.heap.size ≤ W.heap.size := by omega
    have HBW := Lib.hid (fun (X : World) (h : Below W.heap.size W X) => HB.out.trans (h.mono hwW))
    go_region_law (first
      | (refine and_first rfl (.tmp 5) (.tmp 6) rfl base (w.heap.size + 1) w.heap.size g c l ⟨k, p, c0, t, f, n, b⟩ rfl rfl (row_of_heap (heap_at1 hws (.cells #[] 42)) rfl) ((heap_low (A := W.heap) (by omega) (.cells #[] 42) (evO ⟨k, p, c0, t, f, n, b⟩)).1.trans HR.out) (by omega) (by omega) HE1.out (by first | exact ((Below.refl _ _).alloc (Nat.le_refl _) _).drew | exact (Below.refl _ _).alloc (Nat.le_refl _) _) hl ?_; intro v1 X1 ho1 hr1 hB1 hg9; obtain ⟨q0, q1, q2, q3, q4, q5, q6⟩ := ev_facts hr1)
      | (refine and_first rfl (.tmp 5) (.tmp 6) rfl base (w.heap.size + 1) w.heap.size g c l ⟨k, p, c0, t, f, n, b⟩ rfl rfl (row_of_heap (heap_at2 hws (.cells #[] 42) (evO ⟨k, p, c0, t, f, n, b⟩)) rfl) ((heap_low (A := W.heap) (by omega) (.cells #[] 42) (evO ⟨k, p, c0, t, f, n, b⟩)).2.trans HR.out) (by omega) (by omega) HE1.out (by first | exact (((Below.refl _ _).alloc (Nat.le_refl _) _).alloc (by simp) _).drew | exact ((Below.refl _ _).alloc (Nat.le_refl _) _).alloc (by simp) _) hl ?_; intro v1 X1 ho1 hr1 hB1 hg9; have r9 := hg9 (w.heap.size + 2) (by omega) (row_of_heap (heap_at3 hws (.cells #[] 42) (evO ⟨k, p, c0, t, f, n, b⟩)) rfl))
      | (refine and_first rfl (.tmp 5) (.tmp 6) rfl base (w.heap.size + 2) w.heap.size g c l ⟨k, p, c0, t, f, n, b⟩ rfl rfl (row_of_heap (heap_at3 hws (evO ⟨k, p, c0, t, f, n, b⟩) (.cells #[] 42)) rfl) ((heap_low (A := W.heap) (by omega) (evO ⟨k, p, c0, t, f, n, b⟩) (.cells #[] 42)).2.trans HR.out) (by omega) (by omega) HE1.out (by first | exact (((Below.refl _ _).alloc (Nat.le_refl _) _).alloc (by simp) _).drew | exact ((Below.refl _ _).alloc (Nat.le_refl _) _).alloc (by simp) _) hl ?_; intro v1 X1 ho1 hr1 hB1 hg9; have r9 := hg9 (w.heap.size + 1) (by omega) (row_of_heap (heap_at2 hws (evO ⟨k, p, c0, t, f, n, b⟩) (.cells #[] 42)) rfl))
      | (refine and_second rfl (.tmp 7) (.tmp 9) rfl base W.heap.size X1.heap.size v1 l ⟨k, p, c0, t, f, n, b⟩ rfl rfl (ho1.below (by first | exact (Below.refl _ _).alloc (Nat.le_refl _) _ | exact ((Below.refl _ _).alloc (Nat.le_refl _) _).drew)) (Row.new X1 _ (evC ⟨k, p, c0, t, f, n, b⟩)) (HBW.out _ (by first | exact hB1.alloc hB1.size _ | exact (hB1.alloc hB1.size _).drew)) hwW (Nat.le_trans hB1.size (by simp)) hb hl ?_; intro v2 X2 ho2 hB2)
      | (refine and_second rfl (.tmp 7) (.tmp 9) rfl base W.heap.size (w.heap.size + 1) v1 l ⟨k, p, c0, t, f, n, b⟩ rfl rfl ho1 r9 (HBW.out _ hB1) hwW hB1.size hb hl ?_; intro v2 X2 ho2 hB2)
      | (refine and_second rfl (.tmp 7) (.tmp 9) rfl base W.heap.size (w.heap.size + 2) v1 l ⟨k, p, c0, t, f, n, b⟩ rfl rfl ho1 r9 (HBW.out _ hB1) hwW hB1.size hb hl ?_; intro v2 X2 ho2 hB2))
    all_goals
      go_wp2
      go_returns
      exact ⟨_, rfl, ho2, hB2⟩
end Go.Proofs.Ytagigdefghnnhaa
