/- The reference's stack: its memory, and what its calls give. -/
import Derived.Test.YtlfmcgkkfbhifaaStack
import Derived.Test.YtlfmcgkkfbhifaaIntSl
import Derived.Test.YtlfmcgkkfbhifaaMem2
import Derived.Test.YtlfmcgkkfbhifaaChg
import Derived.Handy
import Derived.Deep.QuietTactic
import Derived.BigQuiet
namespace Go.Proofs.Ytlfmcgkkfbhifaa
open Go.RowKit Go.PlainAid
set_option linter.unusedVariables false
/-- A nil slice, or one of the call's own, that holds l. -/
def IntsV (w : World) (v : Value) (l : List Int) (b g : Nat) : Prop := (l = [] ∧ v = .slice none 0 0 ∧ b = g) ∨ (Sl w 3 v (i64s l) b ∧ b ≠ g)
/-- Block g holds the reference's stack s, its list in block b. -/
def StkAt (w : World) (g b : Nat) (s : SS) : Prop := ∃ v, Row w g 38 [.int .i64 (s.most : Int), v] ∧ IntsV w v s.st.reverse b g
theorem IntsV.lt {w : World} {v : Value} {l : List Int} {b g : Nat} (h : IntsV w v l b g) (hg : g < w.heap.size) : b < w.heap.size := by
  rcases h with ⟨_, _, rfl⟩ | ⟨h, _⟩
  · exact hg
  · exact h.lt
theorem IntsV.below {w w' : World} {v : Value} {l : List Int} {b g : Nat} (h : IntsV w v l b g) (hb : Below w.heap.size w w') : IntsV w' v l b g := by
  rcases h with h | ⟨h, hn⟩
  · exact .inl h
  · exact .inr ⟨h.keep hb, hn⟩
theorem StkAt.lt {w : World} {g b : Nat} {s : SS} (h : StkAt w g b s) : g < w.heap.size ∧ b < w.heap.size := by
  obtain ⟨v, h1, h2⟩ := h
  exact ⟨h1.lt, h2.lt h1.lt⟩
theorem StkAt.below {w w' : World} {g b : Nat} {s : SS} (h : StkAt w g b s) (hb : Below w.heap.size w w') : StkAt w' g b s := by
  obtain ⟨v, h1, h2⟩ := h
  exact ⟨v, h1.below hb h1.lt, h2.below hb⟩
theorem Sl.chg {F : Nat → Prop} {w w' : World} {t : TypeId} {v : Value} {l : List Value} {g : Nat} (h : Sl w t v l g) (hc : Chg F w w') (hg : ¬ F g) : Sl w' t v l g := by
  obtain ⟨sp, h1, h2, h3⟩ := h
  exact ⟨sp, h1, h2, h3.chg hc hg⟩
theorem StkAt.chg {F : Nat → Prop} {w w' : World} {g b : Nat} {s : SS} (h : StkAt w g b s) (hc : Chg F w w') (hg : ¬ F g) (hb : ¬ F b) : StkAt w' g b s := by
  obtain ⟨v, h1, h2⟩ := h
  refine ⟨v, h1.chg hc hg, ?_⟩
  rcases h2 with h2 | ⟨h2, hn⟩
  · exact .inl h2
  · exact .inr ⟨h2.chg hc hb, hn⟩
set_option maxHeartbeats 1600000 in
theorem refStkNew_any (depth : Int) (w : World) :
    Calls Try.prog 10 #[.int .i64 depth] w fun e w' => ∃ g, e = .returned (.pointer (some ⟨g, 0, none⟩)) ∧ w.heap.size ≤ g ∧ StkAt w' g g (SS.new depth) ∧ Below w.heap.size w w' := by
  have HF : Hid (∀ d : Int, d = max 0 (min depth 64) → StkAt (w.alloc (.cells #[.int .i64 d, .slice none 0 0] 38)) w.heap.size w.heap.size (SS.new depth)) := Lib.hid (by
    intro d hd
    refine ⟨.slice none 0 0, ?_, .inl ⟨rfl, rfl, rfl⟩⟩
    have := Row.new w 38 [.int .i64 d, .slice none 0 0]
    rw [show ((SS.new depth).most : Int) = d by unfold SS.new; simp only []; omega]
    exact this)
  by_cases h0 : depth < 0
  · have h64 : ¬ (64 : Int) < 0 := by decide
    go_enter Try.func10, Try.ntmps10
    go_wp2
    go_returns
    exact ⟨_, rfl, Nat.le_refl _, HF.out 0 (by omega), by go_grown⟩
  · by_cases h1 : (64 : Int) < depth
    all_goals
      go_enter Try.func10, Try.ntmps10
      go_wp2
      go_returns
      exact ⟨_, rfl, Nat.le_refl _, HF.out _ (by omega), by go_grown⟩
/-- The cells of the list, the innermost last. -/
theorem stk_last {w : World} {v : Value} {g b : Nat} {x : Int} {r : List Int} (h : IntsV w v (x :: r).reverse b g) : ∃ c, v = .slice (some ⟨b, 0, none⟩) (r.length + 1) c ∧ r.length + 1 ≤ c ∧ c ≤ maxLen ∧ w.cell? ⟨b, r.length, none⟩ = some (.int .i64 x) ∧ w.frozen? ⟨b, r.length, none⟩ = false ∧ b ≠ g := by
  rcases h with ⟨h, _⟩ | ⟨h, hn⟩
  · simp at h
  · obtain ⟨c, rfl, h1, h2⟩ := h.open (n := r.length + 1) (by simp [i64s])
    have hc := h.cell (i := r.length) (by simp [i64s])
    rw [i64s_get] at hc
    simp at hc
    refine ⟨c, rfl, h1, h2, hc, ?_, hn⟩
    obtain ⟨sp, _, _, h3⟩ := h
    exact h3.frozen _
theorem rets1b {a b : Bool} (h : a = b) : Ending.returned (.bool a) = .returned (.bool b) := by rw [h]
theorem rets1i {a b : Int} (h : a = b) : Ending.returned (.int .i64 a) = .returned (.int .i64 b) := by rw [h]
theorem stk_none {w : World} {v : Value} {g b : Nat} (h : IntsV w v ([] : List Int).reverse b g) : ∃ oa c, v = .slice oa 0 c := by
  rcases h with ⟨_, rfl, _⟩ | ⟨h, _⟩
  · exact ⟨none, 0, rfl⟩
  · obtain ⟨c, rfl, _, _⟩ := h.open (n := 0) (by simp [i64s])
    exact ⟨_, c, rfl⟩
theorem StkAt.drewN {w : World} {g b : Nat} {s : SS} (h : StkAt w g b s) (n : Nat) : StkAt (w.drewN n) g b s := h
set_option maxHeartbeats 1600000 in
theorem refLast_any {w : World} {g b : Nat} {s : SS} (h : StkAt w g b s) (hs : s.ok) :
    Calls Try.prog 20 #[.pointer (some ⟨g, 0, none⟩)] w fun e w' => e = .returned (.int .i64 s.last) ∧ ∃ n, w' = w.drewN n := by
  obtain ⟨v, hr, hv⟩ := h
  have h1 : w.cell? ⟨g, 1, none⟩ = some v := hr.cell 1
  have hlen := hs.len
  have hm := hs.most
  cases hst : s.st with
  | nil =>
    rw [hst] at hv
    obtain ⟨oa, c, rfl⟩ := stk_none hv
    have HL : Hid (s.last = -1) := Lib.hid (by unfold SS.last; rw [hst])
    clear hv hr
    go_enter Try.func20, Try.ntmps20
    go_wp2
    go_ret
    exact ⟨rets1i HL.out.symm, 0, rfl⟩
  | cons x r =>
    rw [hst] at hv
    obtain ⟨c, rfl, c1, c2, hc, _, _⟩ := stk_last hv
    have HL : Hid (s.last = x) := Lib.hid (by unfold SS.last; rw [hst])
    have hrl : (r.length : Int) ≤ 64 := by rw [hst] at hlen; simp at hlen; omega
    clear hv hr
    go_enter Try.func20, Try.ntmps20
    go_wp2
    go_quiet (fail)
    go_wp2
    go_ret
    exact ⟨rets1i HL.out.symm, _, rfl⟩
/-- The list with another number at the end. -/
theorem set_last (x y : Int) (r : List Int) : (i64s (x :: r).reverse).set r.length (.int .i64 y) = i64s (y :: r).reverse := by
  have e : r.length = (i64s r.reverse).length := by simp [i64s]
  simp only [List.reverse_cons, i64s_append]
  rw [e, List.set_append_right _ _ (Nat.le_refl _)]
  simp [i64s]
set_option maxHeartbeats 1600000 in
theorem refSet_any {w : World} {g b : Nat} {m : Nat} {x : Int} {r : List Int} (h : StkAt w g b ⟨m, x :: r⟩) (hl : r.length ≤ 63) (y : Int) :
    Calls Try.prog 24 #[.pointer (some ⟨g, 0, none⟩), .int .i64 y] w fun e w' => e = .returned (.tuple #[]) ∧ ∃ b', StkAt w' g b' ⟨m, y :: r⟩ ∧ w.heap.size ≤ b' ∧ w.grownBy w' (some g) := by
  obtain ⟨v, hr, hv⟩ := h
  have h1 : w.cell? ⟨g, 1, none⟩ = some v := hr.cell 1
  have f1 : w.frozen? ⟨g, 1, none⟩ = false := hr.frozen 1
  obtain ⟨c, rfl, c1, c2, hc, _, hbg⟩ := stk_last hv
  have hglt := hr.lt
  have HR := Lib.hid hr
  have HSl : Hid (Sl w 3 (.slice (some ⟨b, 0, none⟩) (r.length + 1) c) (i64s (x :: r).reverse) b) := Lib.hid (by
    rcases hv with ⟨h, _⟩ | ⟨h, _⟩
    · simp at h
    · exact h)
  have HCE := Lib.hid (show ∀ j (hj : j < (x :: r).reverse.length), (w.alloc (.cells (i64s []).toArray 3)).cell? ⟨b, j, none⟩ = some (.int .i64 (x :: r).reverse[j]) from fun j hj => by
    rw [(HSl.out.alloc _).cell (i := j) (by rw [i64s_length]; exact hj), i64s_get])
  clear hr hv hc
  go_enter Try.func24, Try.ntmps24
  go_wp2_with (at_builtin; refine wpList_append_ints rfl (.tmp 5) (.tmp 9) rfl (l := []) (g := w.heap.size) rfl (sl_new_ints w [] (by simp [maxLen])) b (r.length + 1) c (x :: r).reverse rfl (by simp) HCE.out (by simp; omega) ?_)
  intro v' w1 g' hs1 hg1 hgr1
  have hs2 : Sl w1 3 v' (i64s (x :: r).reverse) g' := by simpa using hs1
  obtain ⟨c', rfl, c3, c4⟩ := hs2.open (n := r.length + 1) (by simp [i64s])
  have hc2 := hs2.cell (i := r.length) (by simp [i64s])
  rw [i64s_get] at hc2
  simp at hc2
  have fc2 : w1.frozen? ⟨g', r.length, none⟩ = false := by obtain ⟨sp, _, _, h3⟩ := hs2; exact h3.frozen _
  have hs3 := hs2.set (i := r.length) (by simp [i64s]) (.int .i64 y)
  rw [set_last] at hs3
  have hgg : g ≠ g' := by omega
  have HR1 := Lib.hid ((HR.out.alloc (.cells (i64s []).toArray 3)).grown hgr1 (by intro h; cases h; omega))
  have h1' : w1.cell? ⟨g, 1, none⟩ = some (.slice (some ⟨b, 0, none⟩) (r.length + 1) c) := HR1.out.cell 1
  have f1' : w1.frozen? ⟨g, 1, none⟩ = false := HR1.out.frozen 1
  have HR2 := Lib.hid ((HR1.out.far (p := ⟨g', r.length, none⟩) hgg (.int .i64 y)).set 1 (.slice (some ⟨g', 0, none⟩) (r.length + 1) c'))
  have HS2 := Lib.hid (hs3.far (p := ⟨g, 1, none⟩) (Ne.symm hgg) (.slice (some ⟨g', 0, none⟩) (r.length + 1) c'))
  have HG2 : Hid (w.grownBy ((w1.setCell ⟨g', r.length, none⟩ (.int .i64 y)).setCell ⟨g, 1, none⟩ (.slice (some ⟨g', 0, none⟩) (r.length + 1) c')) (some g)) := Lib.hid (by
    have b1 : Below w.heap.size w w1 := ((Below.refl _ w).alloc (Nat.le_refl _) _).grown hgr1 (by simp) (by intro k hk; cases hk; exact Nat.le_refl _)
    have b2 := b1.setCell (p := ⟨g', r.length, none⟩) (by show w.heap.size ≤ g'; omega) (.int .i64 y)
    exact grown_set (grown_below b2 g) 1 _)
  have hgs : w.heap.size ≤ g' := by omega
  have hne1 : ¬ g = g' := hgg
  have hne2 : ¬ g' = g := Ne.symm hgg
  clear hs1 hs2 hs3 hgr1 h1 f1 HCE HR HSl HR1
  go_wp2
  go_end0
  exact ⟨rfl, g', ⟨_, HR2.out, .inr ⟨HS2.out, Ne.symm hgg⟩⟩, hgs, HG2.out⟩
theorem grown_drewN' {w w' : World} {g : Nat} (h : w.grownBy w' (some g)) (n : Nat) : (w.drewN n).grownBy w' (some g) ↔ w.grownBy w' (some g) := ⟨fun h => ⟨h.os, h.tape, h.output, h.size, h.block⟩, fun h => ⟨h.os, h.tape, h.output, h.size, h.block⟩⟩
theorem grown_draws (w : World) (g a b : Nat) : w.grownBy ((w.drewN a).drewN b) (some g) := ⟨rfl, rfl, rfl, Nat.le_refl _, fun _ _ _ => rfl⟩
theorem run_append_nil (w : World) (t ty e : TypeId) (i : TypeInfo) (gb c : Nat) {P : Program} (ht : P.underlying t = some (.slice e)) (hi : P.info? e = some i) :
    (Builtin.append_ #[t, t] ty #[.slice (some ⟨gb, 0, none⟩) 0 0, .slice none 0 c]).run P w = .ok (.slice (some ⟨gb, 0, none⟩) 0 0) w := by
  simp [Builtin.append_, run_underlying ht, sizeOf, typeInfo, hi, Builtin.lenOf, Builtin.firstCells, storeCells]
/-- A list handed on as a list of one's own. -/
theorem wpList_append_all {w : World} {ops : Array Oper} {rest : List Oper} {o : Oper} {a : Act} {Q : Exit → Act → World → Prop} (hgd : o.guard = none) (s x : Operand)
    (ho : o.op = .call { callee := .builtin .append, args := #[s, x], argTypes := #[36, 36] })
    (gb : Nat) (hv : a.eval s = .slice (some ⟨gb, 0, none⟩) 0 0) (hs : Sl w 3 (.slice (some ⟨gb, 0, none⟩) 0 0) (i64s []) gb)
    {v : Value} {l : List Int} {b g : Nat} (hx : a.eval x = v) (hxv : IntsV w v l b g) (hl : l.length ≤ 1000)
    (h : ∀ v' w' g', Sl w' 3 v' (i64s l) g' → (g' = gb ∨ g' = w.heap.size) → w.grownBy w' (some gb) → wpList Try.prog ops Q rest (a.put o.dst v') w') : wpList Try.prog ops Q (o :: rest) a w := by
  rcases hxv with ⟨rfl, rfl, _⟩ | ⟨hxs, _⟩
  · obtain ⟨i0, hi, _, _, _⟩ := info_parts infoI64
    refine wpList_plain hgd fun K hK => ?_
    have hrun := run_append_nil w 36 o.type 3 i0 gb 0 Try.underlying36 hi
    have hfin := h (.slice (some ⟨gb, 0, none⟩) 0 0) w gb hs (.inl rfl) (grown_refl _ _)
    unfold Oper.wp
    simp [execOp, ho, resolve, invoke, builtin, hv, hx, hrun, Result.andThen]
    exact hK _ _ hfin
  · obtain ⟨c, rfl, _, _⟩ := hxs.open (n := l.length) (i64s_length l)
    refine wpList_append_ints hgd s x ho hv hs b l.length c l hx rfl (fun j hj => ?_) (by simp; omega) h
    rw [hxs.cell (i := j) (by rw [i64s_length]; exact hj), i64s_get]
theorem enterE_arg {s : SS} {n : Int} (h : n < 0) : s.enterE n = 1 ∧ s.enter n = s := by
  have e : s.enterE n = 1 := by unfold SS.enterE; rw [if_pos h]
  exact ⟨e, by unfold SS.enter; rw [if_neg (by rw [e]; decide)]⟩
theorem enterE_fit {s : SS} {n : Int} (h : ¬ n < 0) (h2 : 0 ≤ s.last ∧ s.last < n) : s.enterE n = 5 ∧ s.enter n = s := by
  have e : s.enterE n = 5 := by unfold SS.enterE; rw [if_neg h, if_pos h2]
  exact ⟨e, by unfold SS.enter; rw [if_neg (by rw [e]; decide)]⟩
theorem enterE_deep {s : SS} {n : Int} (h : ¬ n < 0) (h2 : ¬ (0 ≤ s.last ∧ s.last < n)) (h3 : s.most ≤ s.st.length) : s.enterE n = 10 ∧ s.enter n = s := by
  have e : s.enterE n = 10 := by unfold SS.enterE; rw [if_neg h, if_neg h2, if_pos h3]
  exact ⟨e, by unfold SS.enter; rw [if_neg (by rw [e]; decide)]⟩
theorem enterE_ok {s : SS} {n : Int} (h : ¬ n < 0) (h2 : ¬ (0 ≤ s.last ∧ s.last < n)) (h3 : ¬ s.most ≤ s.st.length) : s.enterE n = 0 ∧ s.enter n = ⟨s.most, n :: pay s.st n⟩ := by
  have e : s.enterE n = 0 := by unfold SS.enterE; rw [if_neg h, if_neg h2, if_neg h3]
  exact ⟨e, by unfold SS.enter; rw [if_pos e]⟩
/-- The slice that a stack holds: its length. -/
theorem stk_len {w : World} {v : Value} {g b : Nat} {l : List Int} (h : IntsV w v l.reverse b g) : ∃ oa c, v = .slice oa l.length c := by
  rcases h with ⟨h, rfl, _⟩ | ⟨h, _⟩
  · exact ⟨none, 0, by have : l = [] := by simpa using h
                       rw [this]; rfl⟩
  · obtain ⟨c, rfl, _, _⟩ := h.open (n := l.length) (by simp [i64s])
    exact ⟨_, c, rfl⟩
set_option maxHeartbeats 1600000 in
theorem refEnter_any {w : World} {g b : Nat} {s : SS} (h : StkAt w g b s) (hs : s.ok) (n : Int) (hn : -9223372036854775808 ≤ n ∧ n ≤ 9223372036854775807) :
    Calls Try.prog 12 #[.pointer (some ⟨g, 0, none⟩), .int .i64 n] w fun e w' => e = .returned (.int .i64 (s.enterE n)) ∧ ∃ b', StkAt w' g b' (s.enter n) ∧ (b' = b ∨ w.heap.size ≤ b') ∧ w.grownBy w' (some g) := by
  have HLB := SS.last_bd hs
  have hlen := hs.len
  have hmost := hs.most
  by_cases c1 : n < 0
  · obtain ⟨e1, e2⟩ := enterE_arg (s := s) c1
    have HE := Lib.hid e1
    rw [e2]
    have HH := Lib.hid h
    clear e1 e2 h HLB hlen hmost hs
    go_enter Try.func12, Try.ntmps12
    go_wp2
    go_ret
    exact ⟨rets1i HE.out.symm, b, HH.out, .inl rfl, grown_refl _ _⟩
  · by_cases c2 : 0 ≤ s.last ∧ s.last < n
    · obtain ⟨e1, e2⟩ := enterE_fit c1 c2
      have HE := Lib.hid e1
      rw [e2]
      have HH := Lib.hid h
      have HS := Lib.hid hs
      obtain ⟨c20, c21⟩ := c2
      generalize hL : s.last = L at *
      have HL := Lib.hid hL
      have HLast := Lib.hid (fun (w : World) (h : StkAt w g b s) => refLast_any h HS.out)
      rw [hL] at HLast
      clear e1 e2 h hs hL
      go_enter Try.func12, Try.ntmps12
      go_wp2_with fail
      refine (HLast.out _ HH.out).mono ?_
      rintro e w1 ⟨rfl, n1, rfl⟩
      go_wp2_with fail
      refine (HLast.out _ (HH.out.drewN n1)).mono ?_
      rintro e w2 ⟨rfl, n2, rfl⟩
      go_wp2
      go_ret
      exact ⟨rets1i HE.out.symm, b, HH.out, .inl rfl, grown_drewN (grown_refl _ _) _⟩
    · by_cases c3 : s.most ≤ s.st.length
      · obtain ⟨e1, e2⟩ := enterE_deep c1 c2 c3
        have HE := Lib.hid e1
        rw [e2]
        have HH := Lib.hid h
        have HS := Lib.hid hs
        obtain ⟨v, hr, hv⟩ := h
        obtain ⟨oa, c, rfl⟩ := stk_len hv
        have h0 : w.cell? ⟨g, 0, none⟩ = some (.int .i64 (s.most : Int)) := hr.cell 0
        have h1 : w.cell? ⟨g, 1, none⟩ = some (.slice oa s.st.length c) := hr.cell 1
        have hle : (s.most : Int) ≤ (s.st.length : Int) := by omega
        generalize hL : s.last = L at *
        have HLast := Lib.hid (fun (w : World) (h : StkAt w g b s) => refLast_any h HS.out)
        rw [hL] at HLast
        clear e1 e2 hs hL hr hv c3
        by_cases c20 : 0 ≤ L
        · have c21 : ¬ L < n := by omega
          clear c2
          go_enter Try.func12, Try.ntmps12
          go_wp2_with fail
          refine (HLast.out _ HH.out).mono ?_
          rintro e w1 ⟨rfl, n1, rfl⟩
          go_wp2_with fail
          refine (HLast.out _ (HH.out.drewN n1)).mono ?_
          rintro e w2 ⟨rfl, n2, rfl⟩
          go_wp2
          go_quiet (fail)
          go_wp2
          go_ret
          exact ⟨rets1i HE.out.symm, b, HH.out, .inl rfl, grown_draws _ _ _ _⟩
        · clear c2
          go_enter Try.func12, Try.ntmps12
          go_wp2_with fail
          refine (HLast.out _ HH.out).mono ?_
          rintro e w1 ⟨rfl, n1, rfl⟩
          go_wp2
          go_quiet (fail)
          go_wp2
          go_ret
          exact ⟨rets1i HE.out.symm, b, HH.out, .inl rfl, grown_draws _ _ _ _⟩
      · obtain ⟨e1, e2⟩ := enterE_ok c1 c2 c3
        have HE := Lib.hid e1
        rw [e2]
        have HS := Lib.hid hs
        have HLast := Lib.hid (fun (w : World) (h : StkAt w g b s) => refLast_any h HS.out)
        obtain ⟨m, st⟩ := s
        cases st with
        | nil =>
          obtain ⟨v, hr, hv⟩ := id h
          obtain ⟨oa, c, rfl⟩ := stk_len hv
          have HH := Lib.hid h
          have h0 : w.cell? ⟨g, 0, none⟩ = some (.int .i64 (m : Int)) := hr.cell 0
          have h1 : w.cell? ⟨g, 1, none⟩ = some (.slice oa 0 c) := hr.cell 1
          have f1 : w.frozen? ⟨g, 1, none⟩ = false := hr.frozen 1
          have hgt : ¬ (m : Int) ≤ 0 := by simp at c3; omega
          have hglt := hr.lt
          have HR := Lib.hid hr
          have HV := Lib.hid hv
          have HL2 : Hid (∀ w, StkAt w g b ⟨m, []⟩ → Calls Try.prog 20 #[.pointer (some ⟨g, 0, none⟩)] w fun e w' => e = .returned (.int .i64 (-1)) ∧ ∃ n, w' = w.drewN n) := HLast
          clear e1 e2 hs hr hv c3 c2 h HLast hlen HLB
          go_enter Try.func12, Try.ntmps12
          go_wp2_with fail
          refine (HL2.out _ HH.out).mono ?_
          rintro e w1 ⟨rfl, n1, rfl⟩
          go_wp2
          go_quiet (fail)
          obtain ⟨W, hW⟩ : ∃ W, W = (w.drewN n1).drewN nq := ⟨_, rfl⟩
          rw [← hW]
          have HWG : Hid (w.grownBy W (some g)) := Lib.hid (by rw [hW]; exact grown_draws _ _ _ _)
          have HWS : Hid (W.heap.size = w.heap.size) := Lib.hid (by rw [hW]; rfl)
          have HR : Hid (Row W g 38 [.int .i64 (m : Int), .slice oa 0 c]) := by rw [hW]; exact HR
          have HV : Hid (IntsV W (.slice oa 0 c) [] b g) := by rw [hW]; exact HV
          have h1 : W.cell? ⟨g, 1, none⟩ = some (.slice oa 0 c) := HR.out.cell 1
          have f1 : W.frozen? ⟨g, 1, none⟩ = false := HR.out.frozen 1
          have hglt : g < W.heap.size := HR.out.lt
          clear hW
          go_wp2_with (at_builtin; refine wpList_append_all rfl (.tmp 39) (.tmp 43) rfl W.heap.size rfl (sl_new_ints W [] (by simp [maxLen])) rfl (HV.out.below ((Below.refl _ W).alloc (Nat.le_refl _) _)) (by simp) ?_)
          intro v1 w3 g1 hs1 hg1 hgr1
          have HR3 := Lib.hid ((HR.out.alloc (.cells (i64s []).toArray 3)).grown hgr1 (by intro h; cases h; omega))
          obtain ⟨d1, rfl, _, _⟩ := hs1.open (n := 0) (by simp [i64s])
          have HS3 := Lib.hid hs1
          have h13 : w3.cell? ⟨g, 1, none⟩ = some (.slice oa 0 c) := HR3.out.cell 1
          have f13 : w3.frozen? ⟨g, 1, none⟩ = false := HR3.out.frozen 1
          have hB3 : Below W.heap.size W w3 := ((Below.refl _ W).alloc (Nat.le_refl _) _).grown hgr1 (by simp) (by intro k hk; cases hk; exact Nat.le_refl _)
          have hg1' : W.heap.size ≤ g1 := by rcases hg1 with h | h <;> first | omega | (simp at h; omega)
          clear hs1 hgr1 hg1
          go_wp2_with (at_builtin; refine wpList_append_int1 rfl (.tmp 44) (.tmp 46) rfl (l := []) (g := g1) rfl (HS3.out.alloc _) w3.heap.size 1 n rfl (by simp) (by simp) ?_)
          intro v2 w4 g2 hs2 hg2 hgr2
          have hsz3 := hB3.size
          have hgg1 : g ≠ g1 := by omega
          have HR4 := Lib.hid ((HR3.out.alloc (.cells (i64s [n]).toArray 3)).grown hgr2 (by intro h; cases h; exact hgg1 rfl))
          obtain ⟨d2, rfl, _, _⟩ := hs2.open (n := 1) (by simp [i64s])
          have h14 : w4.cell? ⟨g, 1, none⟩ = some (.slice oa 0 c) := HR4.out.cell 1
          have f14 : w4.frozen? ⟨g, 1, none⟩ = false := HR4.out.frozen 1
          have hB4 : Below W.heap.size W w4 := (hB3.alloc hsz3 (.cells (i64s [n]).toArray 3)).grown hgr2 (by simp; omega) (by intro k hk; cases hk; exact hg1')
          have hg2' : W.heap.size ≤ g2 := by rcases hg2 with h | h <;> first | omega | (simp at h; omega)
          have hgg2 : g2 ≠ g := by omega
          have HRf := Lib.hid (HR4.out.set 1 (.slice (some ⟨g2, 0, none⟩) 1 d2))
          have HSf := Lib.hid (hs2.far (p := ⟨g, 1, none⟩) hgg2 (.slice (some ⟨g2, 0, none⟩) 1 d2))
          have HGf := Lib.hid (grown_trans HWG.out (grown_set (grown_below hB4 g) 1 (.slice (some ⟨g2, 0, none⟩) 1 d2)))
          have hgw : w.heap.size ≤ g2 := by have := HWS.out; omega
          clear hs2 hgr2 HR4 HR3 HS3 h13 f13 hB3 hB4 h1 f1
          go_wp2
          go_ret
          exact ⟨rets1i HE.out.symm, g2, ⟨_, HRf.out, .inr ⟨HSf.out, hgg2⟩⟩, .inr hgw, HGf.out⟩
        | cons x r =>
          have hx := hs.bd x (List.mem_cons_self ..)
          have hx2 : n ≤ x := by simp only [SS.last] at c2; omega
          have hx0 : ¬ x < n := by omega
          obtain ⟨hxa, hxb⟩ := hx
          have hrl : r.length ≤ 63 := by have h1 : r.length + 1 ≤ m := hlen; have h2 : m ≤ 64 := hmost; omega
          obtain ⟨v, hr, hv⟩ := id h
          obtain ⟨oa, c, rfl⟩ := stk_len hv
          have HH := Lib.hid h
          have h0 : w.cell? ⟨g, 0, none⟩ = some (.int .i64 (m : Int)) := hr.cell 0
          have h1 : w.cell? ⟨g, 1, none⟩ = some (.slice oa (r.length + 1) c) := hr.cell 1
          have hgt : ¬ (m : Int) ≤ (r.length : Int) + 1 := by simp at c3; omega
          have HL2 : Hid (∀ w, StkAt w g b ⟨m, x :: r⟩ → Calls Try.prog 20 #[.pointer (some ⟨g, 0, none⟩)] w fun e w' => e = .returned (.int .i64 x) ∧ ∃ n, w' = w.drewN n) := HLast
          clear e1 e2 hs hr hv c3 c2 h HLast hlen HLB
          go_enter Try.func12, Try.ntmps12
          go_wp2_with fail
          refine (HL2.out _ HH.out).mono ?_
          rintro e w1 ⟨rfl, n1, rfl⟩
          go_wp2_with fail
          refine (HL2.out _ (HH.out.drewN n1)).mono ?_
          rintro e w2 ⟨rfl, n2, rfl⟩
          go_wp2
          go_quiet (fail)
          obtain ⟨V, hV⟩ : ∃ V, V = (w.drewN (n1 + n2)).drewN nq := ⟨_, rfl⟩
          have HVH : Hid (StkAt V g b ⟨m, x :: r⟩) := Lib.hid (by rw [hV]; exact HH.out)
          have HVG : Hid (w.grownBy V (some g)) := Lib.hid (by rw [hV]; exact grown_draws _ _ _ _)
          have HVS : Hid (V.heap.size = w.heap.size) := Lib.hid (by rw [hV]; rfl)
          have h0 : V.cell? ⟨g, 0, none⟩ = some (.int .i64 (m : Int)) := by rw [hV]; exact h0
          have h1 : V.cell? ⟨g, 1, none⟩ = some (.slice oa (r.length + 1) c) := by rw [hV]; exact h1
          rw [← hV]
          clear hV
          go_wp2_with fail
          refine (HL2.out _ HVH.out).mono ?_
          rintro e w3 ⟨rfl, n3, rfl⟩
          go_wp2_with fail
          refine (refSet_any (HVH.out.drewN n3) hrl (x - n)).mono ?_
          rintro e W ⟨rfl, b', ⟨v', HRW, HVW⟩, hb', hgW⟩
          have HVW : IntsV W v' ((x - n) :: r).reverse b' g := HVW
          obtain ⟨oa', c', rfl⟩ := stk_len HVW
          have h1 : W.cell? ⟨g, 1, none⟩ = some (.slice oa' (r.length + 1) c') := HRW.cell 1
          have f1 : W.frozen? ⟨g, 1, none⟩ = false := HRW.frozen 1
          have hglt : g < W.heap.size := HRW.lt
          have HR := Lib.hid HRW
          have HV := Lib.hid HVW
          have HWG : Hid (w.grownBy W (some g)) := Lib.hid (grown_trans HVG.out ⟨hgW.os, hgW.tape, hgW.output, hgW.size, hgW.block⟩)
          have HWS : Hid (w.heap.size ≤ W.heap.size) := Lib.hid (by have := hgW.size; have := HVS.out; simp at *; omega)
          clear HRW HVW hgW hb' HL2 HVH HVG HVS h0
          go_wp2_with (at_builtin; refine wpList_append_all rfl (.tmp 39) (.tmp 43) rfl W.heap.size rfl (sl_new_ints W [] (by simp [maxLen])) rfl (HV.out.below ((Below.refl _ W).alloc (Nat.le_refl _) _)) (by simp; omega) ?_)
          intro v1 w3 g1 hs1 hg1 hgr1
          have HR3 := Lib.hid ((HR.out.alloc (.cells (i64s []).toArray 3)).grown hgr1 (by intro h; cases h; omega))
          obtain ⟨d1, rfl, _, _⟩ := hs1.open (n := r.length + 1) (by simp [i64s])
          have HS3 := Lib.hid hs1
          have h13 : w3.cell? ⟨g, 1, none⟩ = some (.slice oa' (r.length + 1) c') := HR3.out.cell 1
          have f13 : w3.frozen? ⟨g, 1, none⟩ = false := HR3.out.frozen 1
          have hB3 : Below W.heap.size W w3 := ((Below.refl _ W).alloc (Nat.le_refl _) _).grown hgr1 (by simp) (by intro k hk; cases hk; exact Nat.le_refl _)
          have hg1' : W.heap.size ≤ g1 := by rcases hg1 with h | h <;> first | omega | (simp at h; omega)
          clear hs1 hgr1 hg1
          go_wp2_with (at_builtin; refine wpList_append_int1 rfl (.tmp 44) (.tmp 46) rfl (l := r.reverse ++ [x - n]) (g := g1) rfl (HS3.out.alloc _) w3.heap.size 1 n rfl (by simp) (by simp; omega) ?_)
          intro v2 w4 g2 hs2 hg2 hgr2
          have hs2 : Sl w4 3 v2 (i64s (n :: (x - n) :: r).reverse) g2 := by simpa using hs2
          have hsz3 := hB3.size
          have hgg1 : g ≠ g1 := by omega
          have HR4 := Lib.hid ((HR3.out.alloc (.cells (i64s [n]).toArray 3)).grown hgr2 (by intro h; cases h; exact hgg1 rfl))
          obtain ⟨d2, rfl, _, _⟩ := hs2.open (n := r.length + 1 + 1) (by simp [i64s])
          have h14 : w4.cell? ⟨g, 1, none⟩ = some (.slice oa' (r.length + 1) c') := HR4.out.cell 1
          have f14 : w4.frozen? ⟨g, 1, none⟩ = false := HR4.out.frozen 1
          have hB4 : Below W.heap.size W w4 := (hB3.alloc hsz3 (.cells (i64s [n]).toArray 3)).grown hgr2 (by simp; omega) (by intro k hk; cases hk; exact hg1')
          have hg2' : W.heap.size ≤ g2 := by rcases hg2 with h | h <;> first | omega | (simp at h; omega)
          have hgg2 : g2 ≠ g := by omega
          have HRf := Lib.hid (HR4.out.set 1 (.slice (some ⟨g2, 0, none⟩) (r.length + 1 + 1) d2))
          have HSf := Lib.hid (hs2.far (p := ⟨g, 1, none⟩) hgg2 (.slice (some ⟨g2, 0, none⟩) (r.length + 1 + 1) d2))
          have HGf := Lib.hid (grown_trans HWG.out (grown_set (grown_below hB4 g) 1 (.slice (some ⟨g2, 0, none⟩) (r.length + 1 + 1) d2)))
          have hgw : w.heap.size ≤ g2 := by have := HWS.out; omega
          clear hs2 hgr2 HR4 HR3 HS3 h13 f13 hB3 hB4 h1 f1
          go_wp2
          go_ret
          exact ⟨rets1i HE.out.symm, g2, ⟨_, HRf.out, .inr ⟨HSf.out, hgg2⟩⟩, .inr hgw, HGf.out⟩
set_option maxHeartbeats 1600000 in
theorem refTake_any {w : World} {g b : Nat} {s : SS} (h : StkAt w g b s) (hs : s.ok) :
    Calls Try.prog 14 #[.pointer (some ⟨g, 0, none⟩)] w fun e w' => e = .returned (.int .i64 s.takeE) ∧ ∃ b', StkAt w' g b' s.take ∧ (b' = b ∨ w.heap.size ≤ b') ∧ w.grownBy w' (some g) := by
  have HLast := Lib.hid (fun (w : World) (h : StkAt w g b s) => refLast_any h hs)
  have HH := Lib.hid h
  have hmost := hs.most
  have hlen := hs.len
  obtain ⟨m, st⟩ := s
  cases st with
  | nil =>
    have HL2 : Hid (∀ w, StkAt w g b ⟨m, []⟩ → Calls Try.prog 20 #[.pointer (some ⟨g, 0, none⟩)] w fun e w' => e = .returned (.int .i64 (-1)) ∧ ∃ n, w' = w.drewN n) := HLast
    clear HLast h hs
    go_enter Try.func14, Try.ntmps14
    go_wp2_with fail
    refine (HL2.out _ HH.out).mono ?_
    rintro e w1 ⟨rfl, n1, rfl⟩
    go_wp2_with fail
    refine (HL2.out _ (HH.out.drewN n1)).mono ?_
    rintro e w2 ⟨rfl, n2, rfl⟩
    go_wp2
    go_ret
    exact ⟨rfl, b, HH.out, .inl rfl, grown_drewN (grown_refl _ _) _⟩
  | cons x r =>
    have hx := hs.bd x (List.mem_cons_self ..)
    obtain ⟨hxa, hxb⟩ := hx
    have hrl : r.length ≤ 63 := by have h1 : r.length + 1 ≤ m := hlen; have h2 : m ≤ 64 := hmost; omega
    have HL2 : Hid (∀ w, StkAt w g b ⟨m, x :: r⟩ → Calls Try.prog 20 #[.pointer (some ⟨g, 0, none⟩)] w fun e w' => e = .returned (.int .i64 x) ∧ ∃ n, w' = w.drewN n) := HLast
    by_cases hx0 : x = 0
    · subst hx0
      clear HLast h hs
      go_enter Try.func14, Try.ntmps14
      go_wp2_with fail
      refine (HL2.out _ HH.out).mono ?_
      rintro e w1 ⟨rfl, n1, rfl⟩
      go_wp2
      go_ret
      exact ⟨rfl, b, HH.out, .inl rfl, grown_drewN (grown_refl _ _) _⟩
    · have hE : Hid ((⟨m, x :: r⟩ : SS).takeE = 0) := Lib.hid (by unfold SS.takeE SS.last; rw [if_neg hx0])
      have hT : Hid ((⟨m, x :: r⟩ : SS).take = ⟨m, (x - 1) :: r⟩) := Lib.hid (by unfold SS.take; simp only []; rw [if_neg hx0])
      have hxq : (x == 0) = false := by simpa using hx0
      have hxp : 0 < x := by omega
      clear HLast h hs hx0
      go_enter Try.func14, Try.ntmps14
      go_wp2_with fail
      refine (HL2.out _ HH.out).mono ?_
      rintro e w1 ⟨rfl, n1, rfl⟩
      go_wp2_with fail
      refine (HL2.out _ (HH.out.drewN n1)).mono ?_
      rintro e w2 ⟨rfl, n2, rfl⟩
      go_wp2_with fail
      refine (HL2.out _ (HH.out.drewN _)).mono ?_
      rintro e w3 ⟨rfl, n3, rfl⟩
      go_wp2_with fail
      refine (refSet_any (HH.out.drewN _) hrl (x - 1)).mono ?_
      rintro e W ⟨rfl, b', HS', hb', hgW⟩
      go_wp2
      go_ret
      exact ⟨rets1i hE.out.symm, b', by rw [hT.out]; exact HS', .inr hb', ⟨hgW.os, hgW.tape, hgW.output, hgW.size, hgW.block⟩⟩
theorem leave_step {W2 w2 : World} {g g' gw : Nat} {v v' : Value} {m : Value} {l : List Int} (hr : Row W2 g 38 [m, v]) (hgw : g ≠ gw) (hs1 : Sl w2 3 v' (i64s ([] ++ l.reverse)) g') (hgr1 : W2.grownBy w2 (some gw)) :
    ∃ d1, v' = .slice (some ⟨g', 0, none⟩) l.length d1 ∧ w2.cell? ⟨g, 1, none⟩ = some v ∧ w2.frozen? ⟨g, 1, none⟩ = false := by
  obtain ⟨d1, rfl, _, _⟩ := hs1.open (n := l.length) (by simp [i64s])
  have hr2 := hr.grown hgr1 (by intro h; cases h; exact hgw rfl)
  exact ⟨d1, rfl, hr2.cell 1, hr2.frozen 1⟩
set_option maxHeartbeats 1600000 in
theorem refLeave_any {w : World} {g b : Nat} {s : SS} (h : StkAt w g b s) (hs : s.ok) :
    Calls Try.prog 16 #[.pointer (some ⟨g, 0, none⟩)] w fun e w' => e = .returned (.bool s.leaveB) ∧ ∃ b', StkAt w' g b' s.leave ∧ (b' = b ∨ w.heap.size ≤ b') ∧ w.grownBy w' (some g) := by
  have HLast := Lib.hid (fun (w : World) (h : StkAt w g b s) => refLast_any h hs)
  have HH := Lib.hid h
  have hmost := hs.most
  have hlen := hs.len
  by_cases h0 : s.last = 0
  · have hE : Hid (s.leaveB = true) := Lib.hid (by unfold SS.leaveB; simpa using h0)
    have hT : Hid (s.leave = ⟨s.most, s.st.tail⟩) := Lib.hid (by unfold SS.leave; rw [if_pos h0])
    rw [h0] at HLast
    obtain ⟨m, st⟩ := s
    cases st with
    | nil => simp [SS.last] at h0
    | cons x r =>
      have hrl : r.length ≤ 63 := by have h1 : r.length + 1 ≤ m := hlen; have h2 : m ≤ 64 := hmost; omega
      clear h0 hs h
      go_enter Try.func16, Try.ntmps16
      go_wp2_with fail
      refine (HLast.out _ HH.out).mono ?_
      rintro e w1 ⟨rfl, n1, rfl⟩
      have HH1 := Lib.hid (HH.out.drewN n1)
      obtain ⟨W, hW⟩ : ∃ W, W = w.drewN n1 := ⟨_, rfl⟩
      have HWG : Hid (w.grownBy W (some g)) := Lib.hid (by rw [hW]; exact grown_drewN (grown_refl _ _) _)
      have HWS : Hid (W.heap.size = w.heap.size) := Lib.hid (by rw [hW]; rfl)
      rw [← hW] at HH1 ⊢
      clear hW HH HLast
      obtain ⟨v, hr, hv⟩ := HH1.out
      have hr : Row W g 38 [.int .i64 (m : Int), v] := hr
      obtain ⟨c, rfl, c1, c2, _, _, hbg⟩ := stk_last hv
      have h1 : W.cell? ⟨g, 1, none⟩ = some (.slice (some ⟨b, 0, none⟩) (r.length + 1) c) := hr.cell 1
      have f1 : W.frozen? ⟨g, 1, none⟩ = false := hr.frozen 1
      have hglt := hr.lt
      have HR := Lib.hid hr
      have HSl : Hid (Sl W 3 (.slice (some ⟨b, 0, none⟩) (r.length + 1) c) (i64s (x :: r).reverse) b) := Lib.hid (by
        rcases hv with ⟨h, _⟩ | ⟨h, _⟩
        · simp at h
        · exact h)
      have HCE := Lib.hid (show ∀ (W' : World), Sl W' 3 (.slice (some ⟨b, 0, none⟩) (r.length + 1) c) (i64s (x :: r).reverse) b → ∀ j (hj : j < r.reverse.length), W'.cell? ⟨b, j, none⟩ = some (.int .i64 r.reverse[j]) from fun W' h j hj => by
        have hj2 : j < (x :: r).reverse.length := by simp at hj ⊢; omega
        rw [h.cell (i := j) (by rw [i64s_length]; exact hj2), i64s_get]
        congr 2
        simp only [List.reverse_cons]
        rw [List.getElem_append_left hj])
      have hwr : IntKind.i64.wrap (r.length : Int) = (r.length : Int) := IntWalk.i64_in _ (by omega)
      have hc1 : (r.length : Int) ≤ (c : Int) := by omega
      clear hr hv HH1
      go_wp2
      have HN := Lib.hid ((sl_new_ints W [] (by simp [maxLen])).drew)
      have HC2 := Lib.hid (HCE.out _ ((HSl.out.alloc (.cells (i64s []).toArray 3)).drew))
      have HRd : Hid (Row (W.alloc (.cells (i64s []).toArray 3)).drew g 38 [.int .i64 (m : Int), .slice (some ⟨b, 0, none⟩) (r.length + 1) c]) := Lib.hid (HR.out.alloc _)
      have HKP := Lib.hid (fun (v' : Value) (w2 : World) (g' : Nat) (hs1 : Sl w2 3 v' (i64s ([] ++ r.reverse)) g') (hgr1 : (W.alloc (.cells (i64s []).toArray 3)).drew.grownBy w2 (some W.heap.size)) => leave_step HRd.out (by omega) hs1 hgr1)
      go_region_law (refine step_append_ints rfl (.tmp 7) (.tmp 18) rfl (l := []) rfl HN.out b r.length c r.reverse rfl (by simp) HC2.out (by simp; omega) ?_; intro v' w2 g' hs1 hg1 hgr1; obtain ⟨d1, rfl, h12, f12⟩ := HKP.out v' w2 g' hs1 hgr1)
      all_goals
        have hgr2 : (W.alloc (.cells (i64s []).toArray 3)).drew.grownBy w2 (some W.heap.size) := hgr1
        have hgb : W.heap.size ≤ g' := by rcases hg1 with h | h <;> first | omega | (simp at h; omega)
        have hgg : g' ≠ g := by omega
        have hr2 := HRd.out.grown hgr2 (by intro h; cases h; omega)
        have HRf := Lib.hid (hr2.set 1 (.slice (some ⟨g', 0, none⟩) r.length d1))
        have HSf : Hid (Sl (w2.setCell ⟨g, 1, none⟩ (.slice (some ⟨g', 0, none⟩) r.length d1)) 3 (.slice (some ⟨g', 0, none⟩) r.length d1) (i64s r.reverse) g') := Lib.hid (hs1.far (p := ⟨g, 1, none⟩) hgg (.slice (some ⟨g', 0, none⟩) r.length d1))
        have hB : Below W.heap.size W w2 := ((Below.refl _ W).alloc (Nat.le_refl _) (.cells (i64s []).toArray 3)).drew.grown hgr2 (by simp) (by intro k hk; cases hk; exact Nat.le_refl _)
        have HGf := Lib.hid (grown_trans HWG.out (grown_set (grown_below hB g) 1 (.slice (some ⟨g', 0, none⟩) r.length d1)))
        have hgw : w.heap.size ≤ g' := by have := HWS.out; omega
        clear hr2 hB hgr1 hgr2 hs1 h12 f12 HKP HRd HC2 HN HCE HSl HR h1 f1 hr
        go_wp2
        go_ret
        exact ⟨rets1b hE.out.symm, g', by rw [hT.out]; exact ⟨_, HRf.out, .inr ⟨HSf.out, hgg⟩⟩, .inr hgw, HGf.out⟩
  · have hE : Hid (s.leaveB = false) := Lib.hid (by unfold SS.leaveB; simpa using h0)
    have hT : Hid (s.leave = s) := Lib.hid (by unfold SS.leave; rw [if_neg h0])
    generalize hL : s.last = L at *
    have hLq : (L != 0) = true := by simpa using h0
    clear h0 hs h
    go_enter Try.func16, Try.ntmps16
    go_wp2_with fail
    refine (HLast.out _ HH.out).mono ?_
    rintro e w1 ⟨rfl, n1, rfl⟩
    go_wp2
    go_ret
    exact ⟨rets1b hE.out.symm, b, by rw [hT.out]; exact HH.out, .inl rfl, grown_drewN (grown_refl _ _) _⟩
end Go.Proofs.Ytlfmcgkkfbhifaa
