/- Layer 8's law of copies: what one call of its list does and tells, and a list of them. -/
import Derived.Test.YtlfmcgkkfbhifaaStackPair
import Derived.Test.YtlfmcgkkfbhifaaStackCode
import Derived.Test.YtlfmcgkkfbhifaaOwn
import Derived.Test.YtlfmcgkkfbhifaaIntSl
import Derived.Handy
namespace Go.Proofs.Ytlfmcgkkfbhifaa
open Go.RowKit
set_option linter.unusedVariables false
def doV (s : SS) (a : Int × Int) : Int := if a.1 = 1 then s.enterE a.2 else if a.1 = 2 then s.takeE else if a.1 = 3 then (if s.leaveB = true then 1 else s.last) else s.last
def doS (s : SS) (a : Int × Int) : SS := if a.1 = 1 then s.enter a.2 else if a.1 = 2 then s.take else if a.1 = 3 then s.leave else s
theorem leave_no {s : SS} (h : s.leaveB = false) : s.leave = s := by
  unfold SS.leaveB at h
  unfold SS.leave
  rw [if_neg (by simpa using h)]
set_option maxHeartbeats 1600000 in
theorem do_any {a w : World} {k : Nat} {F : Nat → Prop} {s : SS} (h : StOn StAt a w k F s) (kd n : Int) (hn : InI n) :
    Calls Try.prog 21 #[.pointer (some ⟨k, 0, none⟩), .agg #[.int .i64 kd, .int .i64 n]] w fun e w' => e = .returned (.int .i64 (doV s (kd, n))) ∧ StOn StAt a w' k F (doS s (kd, n)) ∧ Chg F w w' := by
  have hb : Below w.heap.size w (w.alloc (.cells #[.int .i64 kd, .int .i64 n] 29)) := (Below.refl _ _).alloc (Nat.le_refl _) _
  have HP := Lib.hid (h.step stSpec hb)
  have HB := Lib.hid hb
  clear hb
  by_cases c1 : kd = 1
  · subst c1
    have ev : Hid (doV s (1, n) = s.enterE n ∧ doS s (1, n) = s.enter n) := Lib.hid ⟨rfl, rfl⟩
    rw [ev.out.1, ev.out.2]
    clear h ev
    go_enter Try.func21, Try.ntmps21
    go_wp2_with fail
    refine (stSpec.enter_on n HP.out hn rfl rfl).mono ?_
    rintro e w1 ⟨rfl, h1, h2⟩
    go_wp2
    go_returns
    exact ⟨rfl, h1, (Chg.of_below HB.out).trans h2 (fun i f => .inl f)⟩
  · by_cases c2 : kd = 2
    · subst c2
      have ev : Hid (doV s (2, n) = s.takeE ∧ doS s (2, n) = s.take) := Lib.hid ⟨rfl, rfl⟩
      rw [ev.out.1, ev.out.2]
      clear h ev c1
      go_enter Try.func21, Try.ntmps21
      go_wp2_with fail
      refine (stSpec.take_on HP.out rfl rfl).mono ?_
      rintro e w1 ⟨rfl, h1, h2⟩
      go_wp2
      go_returns
      exact ⟨rfl, h1, (Chg.of_below HB.out).trans h2 (fun i f => .inl f)⟩
    · by_cases c3 : kd = 3
      · subst c3
        clear h c1 c2
        cases hl : s.leaveB with
        | true =>
          have ev : Hid (doV s (3, n) = 1 ∧ doS s (3, n) = s.leave) := Lib.hid ⟨by show (if s.leaveB = true then _ else _) = _; rw [if_pos hl], rfl⟩
          rw [ev.out.1, ev.out.2]
          have HL := Lib.hid hl
          clear ev hl
          go_enter Try.func21, Try.ntmps21
          go_wp2_with fail
          refine (stSpec.leave_on HP.out HL.out rfl).mono ?_
          rintro e w1 ⟨rfl, h1, h2⟩
          go_wp2
          go_returns
          exact ⟨rfl, h1, (Chg.of_below HB.out).trans h2 (fun i f => .inl f)⟩
        | false =>
          have ev : Hid (doV s (3, n) = s.last ∧ doS s (3, n) = s) := Lib.hid ⟨by show (if s.leaveB = true then _ else _) = _; rw [if_neg (by rw [hl]; decide)], leave_no hl⟩
          rw [ev.out.1, ev.out.2]
          have HL := Lib.hid hl
          clear ev hl
          go_enter Try.func21, Try.ntmps21
          go_wp2_with fail
          refine (stSpec.leave_on HP.out HL.out (leave_no HL.out)).mono ?_
          rintro e w1 ⟨rfl, h1, h2⟩
          have H2 := Lib.hid h2
          clear h2
          go_wp2_with fail
          refine (stSpec.left_on h1 rfl).mono ?_
          rintro e w2 ⟨rfl, h3, h4⟩
          go_wp2
          go_returns
          exact ⟨rfl, h3, ((Chg.of_below HB.out).trans H2.out (fun i f => .inl f)).trans (Chg.of_below (F := F) h4) (fun i f => .inl f)⟩
      · have ev : Hid (doV s (kd, n) = s.last ∧ doS s (kd, n) = s) := Lib.hid ⟨by unfold doV; rw [if_neg c1, if_neg c2, if_neg c3], by unfold doS; rw [if_neg c1, if_neg c2, if_neg c3]⟩
        rw [ev.out.1, ev.out.2]
        have e1 : (kd == 1) = false := by simpa using c1
        have e2 : (kd == 2) = false := by simpa using c2
        have e3 : (kd == 3) = false := by simpa using c3
        clear h ev c1 c2 c3
        go_enter Try.func21, Try.ntmps21
        go_wp2_with fail
        refine (stSpec.left_on HP.out rfl).mono ?_
        rintro e w2 ⟨rfl, h3, h4⟩
        go_wp2
        go_returns
        exact ⟨rfl, h3, (Chg.of_below (F := F) HB.out).trans (Chg.of_below (F := F) h4) (fun i f => .inl f)⟩
/-- The stack behind so many calls of a list. -/
def runS (s : SS) (l : List (Int × Int)) : SS := l.foldl doS s
theorem runS_succ (s : SS) (l : List (Int × Int)) (i : Nat) (h : i < l.length) : runS s (l.take (i + 1)) = doS (runS s (l.take i)) l[i] := by
  unfold runS
  rw [List.take_add_one, List.getElem?_eq_getElem h, Option.toList_some, List.foldl_append]; rfl
theorem act_add (a : Addr) (i j : Nat) : (a.add (i * 2)).add (j * 2) = a.add ((i + j) * 2) := by
  unfold Addr.add
  by_cases h1 : i * 2 = 0
  · rw [if_pos h1, show (i + j) * 2 = j * 2 by omega]
  · rw [if_neg h1]
    by_cases h2 : j * 2 = 0
    · rw [if_pos h2, show (i + j) * 2 = i * 2 by omega, if_neg h1]
    · rw [if_neg h2, if_neg (by omega)]
      show (⟨a.block, a.off + i * 2 + j * 2, none⟩ : Addr) = _
      rw [show a.off + i * 2 + j * 2 = a.off + (i + j) * 2 by omega]
/-- The cells of a call that came in, seen from a place of the list on. -/
theorem act_cells {w : World} {ad : Addr} {l : List (Int × Int)} (hc : ∀ j u, (pvs l)[j]? = some u → w.cell? (ad.add j) = some u) (t j : Nat) (h : t + j < l.length) :
    w.cell? ((ad.add (t * 2)).add (j * 2)) = some (.int .i64 l[t + j].1) ∧ w.cell? ⟨((ad.add (t * 2)).add (j * 2)).block, ((ad.add (t * 2)).add (j * 2)).off + 1, none⟩ = some (.int .i64 l[t + j].2) := by
  have hg := pvs_get h
  have h1 := hc _ _ hg.1
  have h2 := hc _ _ hg.2
  rw [add_field2] at h2
  rw [Nat.mul_comm] at h1
  rw [act_add]
  exact ⟨h1, h2⟩
theorem act_cells0 {w : World} {ad : Addr} {l : List (Int × Int)} (hc : ∀ j u, (pvs l)[j]? = some u → w.cell? (ad.add j) = some u) (j : Nat) (h : j < l.length) :
    w.cell? (ad.add (j * 2)) = some (.int .i64 l[j].1) ∧ w.cell? ⟨(ad.add (j * 2)).block, (ad.add (j * 2)).off + 1, none⟩ = some (.int .i64 l[j].2) := by
  have hg := pvs_get h
  have h1 := hc _ _ hg.1
  have h2 := hc _ _ hg.2
  rw [add_field2] at h2
  rw [Nat.mul_comm] at h1
  exact ⟨h1, h2⟩
/-- One integer more, behind a list of one's own that may be nil. -/
theorem wpList_append_int_own {w : World} {ops : Array Oper} {rest : List Oper} {o : Oper} {a : Act} {Q : Exit → Act → World → Prop} (hgd : o.guard = none) (s x : Operand)
    (ho : o.op = .call { callee := .builtin .append, args := #[s, x], argTypes := #[36, 36] })
    (base : Nat) {v : Value} {l : List Int} (hv : a.eval s = v) (hs : w.ownsRow base 3 1 v l.length (i64s l)) (hb : base ≤ w.heap.size)
    (gx c : Nat) (b : Int) (hx : a.eval x = .slice (some ⟨gx, 0, none⟩) 1 c) (hc : w.cell? ⟨gx, 0, none⟩ = some (.int .i64 b)) (h63 : l.length ≤ 1000000000)
    (h : ∀ v' w', w'.ownsRow base 3 1 v' (l.length + 1) (i64s (l ++ [b])) → Chg (fun i => base ≤ i) w w' → wpList Try.prog ops Q rest (a.put o.dst v') w') : wpList Try.prog ops Q (o :: rest) a w := by
  obtain ⟨i0, hi, hz0, hz1, hz2⟩ := info_parts infoI64
  refine wpList_append_own _ hgd s x 36 ho base 3 i0 (.int .i64 0) 1 8 Try.underlying36 hi hz0 hz1 hz2 rfl (by decide) v l.length (i64s l) hv hs ⟨gx, 0, none⟩ 1 c (i64s [b]) hx rfl ?_ (i64s_one _) (by unfold maxLen; omega) (by omega) hb ?_
  · intro j u hj
    match j, hj with
    | 0, hj => simp [i64s] at hj; subst hj; rw [addr0i]; exact hc
  · intro v' w' h1 h2 _
    rw [i64s_append] at h
    exact h v' w' h1 ⟨h2.os, h2.tape, h2.output, h2.size, fun i hi hn => h2.block i hi (fun e => hn (hs.lt i e.symm).1)⟩
theorem StOn.beside {a w : World} {k : Nat} {F G : Nat → Prop} {s : SS} (h : StOn StAt a w k F s) {w' : World} (hc : Chg G w w') (hG : ∀ i, F i → ¬ G i) (hB : ∀ i, G i → a.heap.size ≤ i) : StOn StAt a w' k F s :=
  ⟨stSpec.aside h.at_ hc hG, h.own, hc.to_below h.bel hB⟩
/-- What the calls of a list from a place on tell. -/
def outV (s : SS) (l : List (Int × Int)) (h i : Nat) : List Int := (List.range i).map fun t => doV (runS s (l.take (h + t))) (l.getD (h + t) (0, 0))
theorem outV_succ (s : SS) (l : List (Int × Int)) (h i : Nat) (hi : h + i < l.length) : outV s l h (i + 1) = outV s l h i ++ [doV (runS s (l.take (h + i))) l[h + i]] := by
  unfold outV
  rw [List.range_succ, List.map_append]
  simp [hi]
theorem outV_len (s : SS) (l : List (Int × Int)) (h i : Nat) : (outV s l h i).length = i := by unfold outV; simp
theorem outV_get (s : SS) (l : List (Int × Int)) (h i t : Nat) (ht : t < i) (hi : h + t < l.length) : (i64s (outV s l h i))[t]? = some (.int .i64 (doV (runS s (l.take (h + t))) l[h + t])) := by
  unfold outV i64s
  simp [ht, hi]
end Go.Proofs.Ytlfmcgkkfbhifaa
