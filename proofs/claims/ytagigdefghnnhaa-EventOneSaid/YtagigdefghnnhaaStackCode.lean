/- What the landed code's calls of a stack give, and what a stack's memory is: block k alone. -/
import Derived.Test.YtagigdefghnnhaaStackSpec
import Derived.Test.YtagigdefghnnhaaIntSl
import Derived.Test.YtagigdefghnnhaaMem2
import Derived.Deep.QuietTactic
import Derived.BigQuiet
namespace Go.Proofs.Ytagigdefghnnhaa
open Go.RowKit Go.PlainAid
set_option linter.unusedVariables false
/-- A stack's cells: the array, how many are open, how many can be. -/
def skC (L : List Int) (o m : Int) : List Value := i64s L ++ [.int .i64 o, .int .i64 m]
section
variable {L : List Int} {o m : Int}
theorem skC_length (h : L.length = 64) : (skC L o m).length = 66 := by simp [skC, i64s, h]
theorem skC_open (h : L.length = 64) : (skC L o m)[64]? = some (.int .i64 o) := by
  unfold skC; rw [List.getElem?_append_right (by simp [i64s, h])]; simp [i64s, h]
theorem skC_most (h : L.length = 64) : (skC L o m)[65]? = some (.int .i64 m) := by
  unfold skC; rw [List.getElem?_append_right (by simp [i64s, h])]; simp [i64s, h]
theorem skC_get {j : Nat} {x : Int} (h : L[j]? = some x) : (skC L o m)[j]? = some (.int .i64 x) := by
  have hj := (List.getElem?_eq_some_iff.1 h).1
  unfold skC; rw [List.getElem?_append_left (by simpa [i64s] using hj)]; simp [i64s, h]
theorem skC_set {j : Nat} (x : Int) (h : j < L.length) : (skC L o m).set j (.int .i64 x) = skC (L.set j x) o m := by
  unfold skC; rw [List.set_append_left _ _ (by simpa [i64s] using h)]; simp [i64s]
theorem skC_setO (y : Int) (h : L.length = 64) : (skC L o m).set 64 (.int .i64 y) = skC L y m := by
  unfold skC; rw [List.set_append_right _ _ (by simp [i64s, h])]; simp [i64s, h]
theorem skC_one : ∀ u ∈ skC L o m, u.oneCell' = true := by
  intro u hu
  unfold skC at hu
  rcases List.mem_append.1 hu with h | h
  · exact i64s_one _ u h
  · simp at h; rcases h with rfl | rfl <;> rfl
end
def StAt : StPred := fun w k F s => (∀ i, F i ↔ i = k) ∧ s.ok ∧ ∃ J : List Int, (s.st.reverse ++ J).length = 64 ∧ Row w k 64 (skC (s.st.reverse ++ J) s.st.length s.most)
theorem chg_draws (F : Nat → Prop) (w : World) (n : Nat) : Chg F w (w.drewN n) := Chg.of_below (draws_below w n)
/-- has: none is open. -/
theorem has_none (k : Nat) (L : List Int) (m n : Int) (w : World) (hL : L.length = 64) (h : Row w k 64 (skC L 0 m)) :
    Calls Try.prog 38 #[.pointer (some ⟨k, 0, none⟩), .int .i64 n] w fun e w' => e = .returned (.bool true) ∧ ∃ n, w' = w.drewN n := by
  have q1 : w.cell? ⟨k, 64, none⟩ = some (.int .i64 0) := by rw [h.cell, skC_open hL]
  clear h
  go_enter Try.func38, Try.ntmps38
  go_wp2
  go_quiet (fail)
  go_wp2
  go_ret
  exact ⟨rfl, _, rfl⟩
theorem has_some (k : Nat) (L : List Int) (p : Nat) (x m n : Int) (w : World) (hL : L.length = 64) (hp : L[p]? = some x) (h : Row w k 64 (skC L ((p : Int) + 1) m)) :
    Calls Try.prog 38 #[.pointer (some ⟨k, 0, none⟩), .int .i64 n] w fun e w' => e = .returned (.bool (decide (n ≤ x))) ∧ ∃ n, w' = w.drewN n := by
  have hp64 : p < 64 := by have := (List.getElem?_eq_some_iff.1 hp).1; omega
  have q1 : w.cell? ⟨k, 64, none⟩ = some (.int .i64 ((p : Int) + 1)) := by rw [h.cell, skC_open hL]
  have q2 : w.cell? ⟨k, p, none⟩ = some (.int .i64 x) := by rw [h.cell, skC_get hp]
  have hd : ((p : Int) + 1 == 0) = false := by simp; omega
  clear h hp
  go_enter Try.func38, Try.ntmps38
  go_wp2
  go_quiet (fail)
  go_wp2
  go_ret
  exact ⟨rfl, _, rfl⟩
/-- What has tells of the open ones' bytes. -/
def hasB (st : List Int) (n : Int) : Bool := match st with | [] => true | x :: _ => decide (n ≤ x)
theorem rev_get (x : Int) (r J : List Int) : ((x :: r).reverse ++ J)[r.length]? = some x := by
  rw [List.reverse_cons, List.append_assoc, List.getElem?_append_right (by simp)]; simp
theorem rev_set (x y : Int) (r J : List Int) : ((x :: r).reverse ++ J).set r.length y = (y :: r).reverse ++ J := by
  rw [List.reverse_cons, List.append_assoc, List.set_append_right _ _ (by simp)]; simp
theorem has_any (k : Nat) (st J : List Int) (m n : Int) (w : World) (hL : (st.reverse ++ J).length = 64) (h : Row w k 64 (skC (st.reverse ++ J) st.length m)) :
    Calls Try.prog 38 #[.pointer (some ⟨k, 0, none⟩), .int .i64 n] w fun e w' => e = .returned (.bool (hasB st n)) ∧ ∃ n, w' = w.drewN n := by
  cases st with
  | nil => exact has_none k _ m n w hL h
  | cons x r => exact has_some k _ r.length x m n w hL (rev_get x r J) (by simpa using h)
theorem left_any (k : Nat) (st J : List Int) (m : Int) (w : World) (hL : (st.reverse ++ J).length = 64) (h : Row w k 64 (skC (st.reverse ++ J) st.length m)) :
    Calls Try.prog 48 #[.pointer (some ⟨k, 0, none⟩)] w fun e w' => e = .returned (.int .i64 (SS.last ⟨0, st⟩)) ∧ ∃ n, w' = w.drewN n := by
  cases st with
  | nil =>
    have q1 : w.cell? ⟨k, 64, none⟩ = some (.int .i64 0) := by rw [h.cell, skC_open hL]; rfl
    clear h
    go_enter Try.func48, Try.ntmps48
    go_wp2
    go_ret
    exact ⟨rfl, 0, rfl⟩
  | cons x r =>
    have hp := rev_get x r J
    have hp64 : r.length < 64 := by have := (List.getElem?_eq_some_iff.1 hp).1; omega
    have q1 : w.cell? ⟨k, 64, none⟩ = some (.int .i64 ((r.length : Int) + 1)) := by rw [h.cell, skC_open hL]; simp
    have q2 : w.cell? ⟨k, r.length, none⟩ = some (.int .i64 x) := by rw [h.cell, skC_get hp]
    clear h hp hL
    generalize r.length = p at *
    have hd : ((p : Int) + 1 == 0) = false := by simp; omega
    go_enter Try.func48, Try.ntmps48
    go_wp2
    go_quiet (fail)
    go_wp2
    go_ret
    exact ⟨rfl, _, rfl⟩
theorem depth_any (k : Nat) (st J : List Int) (m : Int) (w : World) (hL : (st.reverse ++ J).length = 64) (h : Row w k 64 (skC (st.reverse ++ J) st.length m)) :
    Calls Try.prog 42 #[.pointer (some ⟨k, 0, none⟩)] w fun e w' => e = .returned (.int .i64 (st.length : Int)) ∧ ∃ n, w' = w.drewN n := by
  have q1 : w.cell? ⟨k, 64, none⟩ = some (.int .i64 (st.length : Int)) := by rw [h.cell, skC_open hL]
  clear h hL
  generalize st.length = p at *
  go_enter Try.func42, Try.ntmps42
  go_wp2
  go_ret
  exact ⟨rfl, 0, rfl⟩
set_option maxHeartbeats 1600000 in
theorem spend_any (k : Nat) (st J : List Int) (m n : Int) (w : World) (hL : (st.reverse ++ J).length = 64) (h : Row w k 64 (skC (st.reverse ++ J) st.length m)) (hn : 0 ≤ n) (hb : ∀ x ∈ st, n ≤ x → 0 ≤ x ∧ x ≤ 9223372036854775807) (hh : hasB st n = true) :
    Calls Try.prog 39 #[.pointer (some ⟨k, 0, none⟩), .int .i64 n] w fun e w' => e = .returned (.tuple #[]) ∧ Row w' k 64 (skC ((pay st n).reverse ++ J) st.length m) ∧ Chg (fun i => i = k) w w' := by
  cases st with
  | nil =>
    have q1 : w.cell? ⟨k, 64, none⟩ = some (.int .i64 0) := by rw [h.cell, skC_open hL]; rfl
    have HR := Lib.hid h
    clear h
    go_enter Try.func39, Try.ntmps39
    go_wp2
    go_end0
    exact ⟨rfl, HR.out, chg_draws _ w 0⟩
  | cons x r =>
    have hp := rev_get x r J
    have hset := skC_set (o := ((r.length : Int) + 1)) (m := m) (x - n) (List.getElem?_eq_some_iff.1 hp).1
    rw [rev_set] at hset
    have hp64 : r.length < 64 := by have := (List.getElem?_eq_some_iff.1 hp).1; omega
    have q1 : w.cell? ⟨k, 64, none⟩ = some (.int .i64 ((r.length : Int) + 1)) := by rw [h.cell, skC_open hL]; simp
    have q2 : w.cell? ⟨k, r.length, none⟩ = some (.int .i64 x) := by rw [h.cell, skC_get hp]
    have f2 := h.frozen r.length
    have hnx : n ≤ x := by simpa [hasB] using hh
    have hx := hb x (List.mem_cons_self ..) hnx
    have HR : Hid (Row (w.drew.setCell ⟨k, r.length, none⟩ (.int .i64 (x - n))) k 64 (skC ((pay (x :: r) n).reverse ++ J) ((x :: r).length) m)) := Lib.hid (by
      have h2 : Row w.drew k 64 (skC ((x :: r).reverse ++ J) ((r.length : Int) + 1) m) := h.below (Below.refl _ _).drew h.lt
      have := h2.set r.length (.int .i64 (x - n))
      rw [hset] at this
      simpa [pay] using this)
    have HC : Hid (Chg (fun i => i = k) w (w.drew.setCell ⟨k, r.length, none⟩ (.int .i64 (x - n)))) := Lib.hid
      ⟨rfl, rfl, rfl, by simp, fun i hi hf => Below.heap_setCell w.drew _ _ i hf⟩
    have hlt := h.lt
    clear h hp hL hset hb hh
    generalize r.length = p at *
    go_enter Try.func39, Try.ntmps39
    go_wp2
    go_region
    go_wp2
    go_end0
    exact ⟨rfl, HR.out, HC.out⟩
theorem has_at {w : World} {k : Nat} {F : Nat → Prop} {s : SS} (h : StAt w k F s) (n : Int) : (0 ≤ s.last ∧ s.last < n) ↔ hasB s.st n = false := by
  obtain ⟨_, hok, _⟩ := h
  unfold SS.last hasB
  cases hs : s.st with
  | nil => simp
  | cons x r =>
    have := hok.bd x (by rw [hs]; exact List.mem_cons_self ..)
    simp; omega
theorem StAt.aside {w w' : World} {k : Nat} {F F' : Nat → Prop} {s : SS} (h : StAt w k F s) (hc : Chg F' w w') (hF : ∀ i, F i → ¬ F' i) : StAt w' k F s := by
  obtain ⟨h1, h2, J, h3, h4⟩ := h
  exact ⟨h1, h2, J, h3, h4.chg hc (hF k ((h1 k).2 rfl))⟩
theorem StAt.draws {w : World} {k : Nat} {F : Nat → Prop} {s : SS} (h : StAt w k F s) (n : Nat) : StAt (w.drewN n) k F s := h.aside (F' := fun _ => False) (chg_draws _ w n) (fun _ _ h => h)
theorem chg_eq {F : Nat → Prop} {w w' : World} {k : Nat} (h : Chg (fun i => i = k) w w') (hF : ∀ i, F i ↔ i = k) : Chg F w w' :=
  ⟨h.os, h.tape, h.output, h.size, fun i hi hf => h.block i hi (fun e => hf ((hF i).2 e))⟩
set_option maxHeartbeats 1600000 in
theorem take_code {w : World} {k : Nat} {F : Nat → Prop} {s : SS} (h : StAt w k F s) :
    Calls Try.prog 32 #[.pointer (some ⟨k, 0, none⟩)] w fun e w' => e = .returned (.int .i64 s.takeE) ∧ StAt w' k F s.take ∧ Chg F w w' := by
  have HA := Lib.hid h
  obtain ⟨hF, hok, J, hL, hr⟩ := h
  have HH := Lib.hid (has_any k s.st J s.most 1 w hL hr)
  cases hb : hasB s.st 1 with
  | false =>
    have hl : s.last = 0 := by have := (has_at HA.out 1).2 hb; omega
    have HT : Hid (s.takeE = 5) := Lib.hid (by unfold SS.takeE; rw [if_pos hl])
    have HN : Hid (s.take = s) := Lib.hid (by
      unfold SS.take
      split
      · rfl
      · rename_i x r hs
        have : s.last = x := by unfold SS.last; rw [hs]
        rw [if_pos (by omega)])
    rw [hb] at HH
    clear hb hr hL hok hl
    go_enter Try.func32, Try.ntmps32
    go_wp2_with fail
    refine HH.out.mono ?_
    rintro e w1 ⟨rfl, a, rfl⟩
    go_wp2
    go_ret
    rw [HT.out, HN.out]
    exact ⟨rfl, HA.out.draws a, chg_draws _ w a⟩
  | true =>
    have hl : ¬ s.last = 0 := fun e => by have := (has_at HA.out 1).1 (by omega); rw [hb] at this; cases this
    have HT : Hid (s.takeE = 0) := Lib.hid (by unfold SS.takeE; rw [if_neg hl])
    have HN : Hid (s.take = ⟨s.most, pay s.st 1⟩) := Lib.hid (by
      unfold SS.take
      split
      · rename_i hs; rw [hs]; cases s; simp at hs; subst hs; rfl
      · rename_i x r hs
        have : s.last = x := by unfold SS.last; rw [hs]
        rw [if_neg (by omega), hs]; rfl)
    have HS := Lib.hid (fun (a : Nat) => spend_any k s.st J s.most 1 (w.drewN a) hL (hr.below (draws_below w a) hr.lt) (by decide) (fun x hx _ => hok.bd x hx) hb)
    have HOK := Lib.hid (SS.take_ok hok)
    have hpl : (pay s.st 1).length = s.st.length := by cases s.st <;> rfl
    have HL := Lib.hid hL
    rw [hb] at HH
    clear hb hr hL hok hl
    go_enter Try.func32, Try.ntmps32
    go_wp2_with fail
    refine HH.out.mono ?_
    rintro e w1 ⟨rfl, a, rfl⟩
    go_wp2_with fail
    refine (HS.out a).mono ?_
    rintro e w2 ⟨rfl, hr2, hc2⟩
    go_wp2
    go_ret
    rw [HT.out]
    refine ⟨rfl, ⟨hF, HOK.out, J, ?_, ?_⟩, chg_eq (Chg.trans (chg_draws _ w a) hc2 (fun i hi => .inl hi)) hF⟩
    · rw [HN.out]; simp only [List.length_append, List.length_reverse, hpl]; simpa using HL.out
    · rw [HN.out]; simp only [hpl]; exact hr2
theorem Chg.setAt {F : Nat → Prop} {a w : World} (h : Chg F a w) {g : Nat} (hg : F g) (o : Nat) (v : Value) : Chg F a (w.setCell ⟨g, o, none⟩ v) :=
  ⟨h.os, h.tape, h.output, by simpa using h.size, fun i hi hf => (Below.heap_setCell w _ v i (fun e => hf (by rw [e]; exact hg))).trans (h.block i hi hf)⟩
set_option maxHeartbeats 1600000 in
theorem leave_code {w : World} {k : Nat} {F : Nat → Prop} {s : SS} (h : StAt w k F s) :
    Calls Try.prog 40 #[.pointer (some ⟨k, 0, none⟩)] w fun e w' => e = .returned (.bool s.leaveB) ∧ StAt w' k F s.leave ∧ Chg F w w' := by
  have HA := Lib.hid h
  obtain ⟨hF, hok, J, hL, hr⟩ := h
  have HH := Lib.hid (left_any k s.st J s.most w hL hr)
  have hbd := SS.last_bd hok
  have hlast : s.last = SS.last ⟨0, s.st⟩ := rfl
  by_cases hl : s.last = 0
  · have HT : Hid (s.leaveB = true) := Lib.hid (by unfold SS.leaveB; simpa using hl)
    have HN : Hid (s.leave = ⟨s.most, s.st.tail⟩) := Lib.hid (by unfold SS.leave; rw [if_pos hl])
    have HOK := Lib.hid (SS.leave_ok hok)
    obtain ⟨r, hs⟩ : ∃ r, s.st = 0 :: r := by
      unfold SS.last at hl
      split at hl
      · cases hl
      · rename_i x r hs; exact ⟨r, by rw [hs, hl]⟩
    rw [← hlast, hl] at HH
    have hq : ∀ a, (w.drewN a).cell? ⟨k, 64, none⟩ = some (.int .i64 ((r.length : Int) + 1)) := by
      intro a
      have h2 := hr.below (draws_below w a) hr.lt
      rw [h2.cell, skC_open hL, hs]; simp
    have hfz : ∀ a, (w.drewN a).frozen? ⟨k, 64, none⟩ = false := fun a => (hr.below (draws_below w a) hr.lt).frozen 64
    have HR : Hid (∀ a, Row ((w.drewN a).setCell ⟨k, 64, none⟩ (.int .i64 (r.length : Int))) k 64 (skC (r.reverse ++ 0 :: J) r.length s.most)) := Lib.hid (by
      intro a
      have h2 := (hr.below (draws_below w a) hr.lt).set 64 (.int .i64 (r.length : Int))
      rw [skC_setO _ hL, hs] at h2
      simpa using h2)
    have hlt : ∀ a, k < (w.drewN a).heap.size := fun a => hr.lt
    have hrl : r.length < 64 := by rw [hs] at hL; simp at hL; omega
    have HL := Lib.hid hL
    have HS := Lib.hid hs
    clear hr hL hok hl hbd hlast hs
    generalize hrr : r.length = p at *
    have HRR := Lib.hid hrr
    clear hrr
    go_enter Try.func40, Try.ntmps40
    go_wp2_with fail
    refine HH.out.mono ?_
    rintro e w1 ⟨rfl, a, rfl⟩
    have q := hq a
    have f := hfz a
    have l := hlt a
    have HRa := Lib.hid (HR.out a)
    have HCa : Hid (Chg F w ((w.drewN a).setCell ⟨k, 64, none⟩ (.int .i64 (p : Int)))) := Lib.hid ((chg_draws F w a).setAt ((hF k).2 rfl) 64 _)
    clear hq hfz hlt HR
    generalize w.drewN a = W at *
    go_wp2
    go_ret
    rw [HT.out]
    refine ⟨rfl, ⟨hF, HOK.out, 0 :: J, ?_, ?_⟩, HCa.out⟩
    · rw [HN.out]; have := HL.out; rw [HS.out] at this ⊢; simp at this ⊢; omega
    · rw [HN.out, HS.out]; simp only [List.tail_cons, HRR.out]; exact HRa.out
  · have HT : Hid (s.leaveB = false) := Lib.hid (by unfold SS.leaveB; simpa using hl)
    have HN : Hid (s.leave = s) := Lib.hid (by unfold SS.leave; rw [if_neg hl])
    rw [← hlast] at HH
    have hb : (s.last != 0) = true := by simpa using hl
    clear hr hL hok hlast hl
    generalize s.last = x at *
    go_enter Try.func40, Try.ntmps40
    go_wp2_with fail
    refine HH.out.mono ?_
    rintro e w1 ⟨rfl, a, rfl⟩
    go_wp2
    go_ret
    rw [HT.out, HN.out]
    exact ⟨rfl, HA.out.draws a, chg_draws _ w a⟩
theorem pay_length (st : List Int) (n : Int) : (pay st n).length = st.length := by cases st <;> rfl
set_option maxHeartbeats 4000000 in
theorem enter_code {w : World} {k : Nat} {F : Nat → Prop} {s : SS} (n : Int) (h : StAt w k F s) (hn : InI n) :
    Calls Try.prog 51 #[.pointer (some ⟨k, 0, none⟩), .int .i64 n] w fun e w' => e = .returned (.int .i64 (s.enterE n)) ∧ StAt w' k F (s.enter n) ∧ Chg F w w' := by
  have HA := Lib.hid h
  obtain ⟨hF, hok, J, hL, hr⟩ := h
  have HH := Lib.hid (has_any k s.st J s.most n w hL hr)
  by_cases h0 : n < 0
  · have HT : Hid (s.enterE n = 1) := Lib.hid (by unfold SS.enterE; rw [if_pos h0])
    have HN : Hid (s.enter n = s) := Lib.hid (by unfold SS.enter; rw [if_neg (by rw [HT.out]; decide)])
    clear HH hr hL hok
    go_enter Try.func51, Try.ntmps51
    go_wp2
    go_ret
    rw [HT.out, HN.out]
    exact ⟨rfl, HA.out, chg_draws _ w 0⟩
  · cases hb : hasB s.st n with
    | false =>
      have hl := (has_at HA.out n).2 hb
      have HT : Hid (s.enterE n = 5) := Lib.hid (by unfold SS.enterE; rw [if_neg h0, if_pos hl])
      have HN : Hid (s.enter n = s) := Lib.hid (by unfold SS.enter; rw [if_neg (by rw [HT.out]; decide)])
      rw [hb] at HH
      clear hb hr hL hok hl
      go_enter Try.func51, Try.ntmps51
      go_wp2_with fail
      refine HH.out.mono ?_
      rintro e w1 ⟨rfl, a, rfl⟩
      go_wp2
      go_ret
      rw [HT.out, HN.out]
      exact ⟨rfl, HA.out.draws a, chg_draws _ w a⟩
    | true =>
      have hl : ¬ (0 ≤ s.last ∧ s.last < n) := fun e => by have := (has_at HA.out n).1 e; rw [hb] at this; cases this
      rw [hb] at HH
      have hq1 : ∀ a, (w.drewN a).cell? ⟨k, 64, none⟩ = some (.int .i64 (s.st.length : Int)) := fun a => by rw [(hr.below (draws_below w a) hr.lt).cell, skC_open hL]
      have hq2 : ∀ a, (w.drewN a).cell? ⟨k, 65, none⟩ = some (.int .i64 (s.most : Int)) := fun a => by rw [(hr.below (draws_below w a) hr.lt).cell, skC_most hL]
      have hln := hok.len
      have hms := hok.most
      by_cases hd : s.most ≤ s.st.length
      · have HT : Hid (s.enterE n = 10) := Lib.hid (by unfold SS.enterE; rw [if_neg h0, if_neg hl, if_pos hd])
        have HN : Hid (s.enter n = s) := Lib.hid (by unfold SS.enter; rw [if_neg (by rw [HT.out]; decide)])
        clear hb hr hL hok hl
        generalize hp : s.st.length = p at *
        generalize hm : s.most = m at *
        clear hp hm
        go_enter Try.func51, Try.ntmps51
        go_wp2_with fail
        refine HH.out.mono ?_
        rintro e w1 ⟨rfl, a, rfl⟩
        have q1 := hq1 a
        have q2 := hq2 a
        have HAa := Lib.hid (HA.out.draws a)
        have HCa := Lib.hid (chg_draws F w a)
        clear hq1 hq2 HA HH
        generalize w.drewN a = W at *
        go_wp2
        go_quiet (fail)
        go_wp2
        go_ret
        rw [HT.out, HN.out]
        exact ⟨rfl, HAa.out.draws _, Chg.trans HCa.out (chg_draws F W _) (fun i hi => .inl hi)⟩
      · have HT : Hid (s.enterE n = 0) := Lib.hid (by unfold SS.enterE; rw [if_neg h0, if_neg hl, if_neg hd])
        have HN : Hid (s.enter n = ⟨s.most, n :: pay s.st n⟩) := Lib.hid (by unfold SS.enter; rw [if_pos HT.out])
        have HOK := Lib.hid (SS.enter_ok hok n hn.2)
        have HS := Lib.hid (fun (a b : Nat) => spend_any k s.st J s.most n ((w.drewN a).drewN b) hL ((hr.below (draws_below w a) hr.lt).below (draws_below (w.drewN a) b) hr.lt) (by omega) (fun x hx _ => hok.bd x hx) hb)
        have HL := Lib.hid hL
        clear hb hr hL hok hl
        have HP := Lib.hid (pay_length s.st n)
        obtain ⟨j0, J', hJ⟩ : ∃ j0 J', J = j0 :: J' := by
          cases J with
          | nil => have := HL.out; simp at this; omega
          | cons j0 J' => exact ⟨j0, J', rfl⟩
        have HJ := Lib.hid hJ
        clear hJ
        generalize hp : s.st.length = p at *
        generalize hm : s.most = m at *
        have HPP := Lib.hid hp
        clear hp hm
        go_enter Try.func51, Try.ntmps51
        go_wp2_with fail
        refine HH.out.mono ?_
        rintro e w1 ⟨rfl, a, rfl⟩
        have q1 := hq1 a
        have q2 := hq2 a
        have HSa := Lib.hid (HS.out a)
        have HCa := Lib.hid (chg_draws F w a)
        clear hq1 hq2 HA HH HS
        generalize w.drewN a = W at *
        go_wp2
        go_quiet (fail)
        go_wp2_with fail
        refine (HSa.out _).mono ?_
        rintro e w3 ⟨rfl, hr3, hc3⟩
        have HC3 := Lib.hid (Chg.trans (Chg.trans HCa.out (chg_draws F W _) (fun i hi => .inl hi)) (chg_eq hc3 hF) (fun i hi => .inl hi))
        have hL3 : ((pay s.st n).reverse ++ J).length = 64 := by have := HL.out; simp [HP.out, HPP.out] at this ⊢; omega
        have s1 : w3.cell? ⟨k, 64, none⟩ = some (.int .i64 (p : Int)) := by rw [hr3.cell, skC_open hL3]
        have hpl : p < 64 := by omega
        have hpp : ((pay s.st n).reverse ++ J)[p]? = some j0 := by
          rw [HJ.out, List.getElem?_append_right (by simp [HP.out])]; simp [HP.out]
        have s2 : w3.cell? ⟨k, p, none⟩ = some (.int .i64 j0) := by rw [hr3.cell, skC_get hpp]
        have f1 := hr3.frozen 64
        have f2 := hr3.frozen p
        have hset := skC_set (o := (p : Int)) (m := (m : Int)) n (show p < ((pay s.st n).reverse ++ J).length by rw [hL3]; exact hpl)
        have hst : ((pay s.st n).reverse ++ J).set p n = (n :: pay s.st n).reverse ++ J' := by
          rw [HJ.out, List.set_append_right _ _ (by simp [HP.out])]; simp [HP.out]
        rw [hst] at hset
        have HR4 : Hid (Row ((w3.setCell ⟨k, p, none⟩ (.int .i64 n)).drew) k 64 (skC ((n :: pay s.st n).reverse ++ J') p m)) := Lib.hid (by
          have := hr3.set p (.int .i64 n)
          rw [hset] at this
          exact this.below (Below.refl _ _).drew this.lt)
        have hL4 : Hid (((n :: pay s.st n).reverse ++ J').length = 64) := Lib.hid (by have := hL3; rw [HJ.out] at this; simp at this ⊢; omega)
        have hFk : F k := (hF k).2 rfl
        have HC4 : Hid (Chg F w ((w3.setCell ⟨k, p, none⟩ (.int .i64 n)).drew)) := Lib.hid (Chg.trans (HC3.out.setAt hFk p (.int .i64 n)) (chg_draws F _ 1) (fun i hi => .inl hi))
        have hlt := hr3.lt
        clear hr3 hc3 hL3 hpp hset hst HSa HCa q1 q2 HC3
        go_wp2
        go_region
        have q1 : ((w3.setCell ⟨k, p, none⟩ (.int .i64 n)).drew).cell? ⟨k, 64, none⟩ = some (.int .i64 (p : Int)) := by rw [HR4.out.cell, skC_open hL4.out]
        have g1 := HR4.out.frozen 64
        have hlt2 := HR4.out.lt
        have HR5 := HR4.out.set 64 (.int .i64 ((p : Int) + 1))
        rw [skC_setO _ hL4.out] at HR5
        have HR6 := Lib.hid HR5
        have HC6 := Lib.hid (HC4.out.setAt hFk 64 (.int .i64 ((p : Int) + 1)))
        clear HR5 HR4 HC4 s1 s2 f1 f2 hlt
        generalize (w3.setCell ⟨k, p, none⟩ (.int .i64 n)).drew = W4 at *
        go_wp2
        go_ret
        rw [HT.out]
        refine ⟨rfl, ⟨hF, HOK.out, J', ?_, ?_⟩, HC6.out⟩
        · rw [HN.out]; exact hL4.out
        · rw [HN.out]; simp only [List.length_cons, HP.out]
          exact HR6.out
theorem wpList_build {P : Program} {ops : Array Oper} {rest : List Oper} {o : Oper} {a : Act} {w : World} {Q : Exit → Act → World → Prop} (hgd : o.guard = none) (t : TypeId) (parts : Array (Nat × Operand)) (ho : o.op = .build t parts) (cells : Array Value)
    (hf : P.built t (parts.map fun (i, x) => (i, a.eval x)).toList = some cells) (h : wpList P ops Q rest (a.put o.dst (.agg cells)) w) : wpList P ops Q (o :: rest) a w := by
  refine wpList_plain hgd fun K hK => ?_
  unfold Oper.wp execOp
  simp only [ho, Sem.run_bind, run_build w t _ cells hf, Result.andThen_ok]
  exact hK _ _ h
theorem wpList_build1 {P : Program} {ops : Array Oper} {rest : List Oper} {o : Oper} {a : Act} {w : World} {Q : Exit → Act → World → Prop} (hgd : o.guard = none) (t : TypeId) (i : Nat) (x : Operand) (ho : o.op = .build t #[(i, x)]) (v : Value) (hx : a.eval x = v) (cells : Array Value)
    (hf : P.built t [(i, v)] = some cells) (h : wpList P ops Q rest (a.put o.dst (.agg cells)) w) : wpList P ops Q (o :: rest) a w :=
  wpList_build hgd t _ ho cells (by simpa [hx] using hf) h
theorem builtStack (d : Int) : Try.prog.built 64 [(2, .int .i64 d)] = some (skC (List.replicate 64 0) 0 d).toArray := by
  kernel_rfl
set_option maxRecDepth 100000 in
set_option maxHeartbeats 1000000 in
theorem new_code (depth : Int) (w : World) (hd : InI depth) :
    Calls Try.prog 24 #[.int .i64 depth] w fun e w' => ∃ k F, e = .returned (.pointer (some ⟨k, 0, none⟩)) ∧ (∀ i, F i → w.heap.size ≤ i) ∧ StAt w' k F (SS.new depth) ∧ Below w.heap.size w w' := by
  obtain ⟨m, hm⟩ : ∃ m : Int, m = max 0 (min depth 64) := ⟨_, rfl⟩
  have HF : Hid (StAt (w.alloc (.cells (skC (List.replicate 64 0) 0 m).toArray 64)) w.heap.size (fun i => i = w.heap.size) (SS.new depth)) := Lib.hid (by
    refine ⟨fun i => Iff.rfl, SS.new_ok depth, List.replicate 64 0, by simp [SS.new], ?_⟩
    have := Row.new w 64 (skC (List.replicate 64 0) 0 m)
    rw [show ((SS.new depth).most : Int) = m by unfold SS.new; simp only []; omega]
    exact this)
  have HB := Lib.hid (builtStack m)
  generalize skC (List.replicate 64 0) 0 m = C at *
  have HG : Hid (∃ k F, Ending.returned (.pointer (some ⟨w.heap.size, 0, none⟩)) = Ending.returned (.pointer (some ⟨k, 0, none⟩)) ∧ (∀ i, F i → w.heap.size ≤ i) ∧ StAt (w.alloc (.cells C.toArray 64)) k F (SS.new depth) ∧ Below w.heap.size w (w.alloc (.cells C.toArray 64))) := Lib.hid
    ⟨_, _, rfl, fun i hi => Nat.le_of_eq hi.symm, HF.out, (Below.refl _ _).alloc (Nat.le_refl _) _⟩
  clear HF
  subst hm
  go_enter Try.func24, Try.ntmps24
  go_wp2_with (refine wpList_build1 rfl 64 2 (.tmp 5) rfl (.int .i64 (max 0 (min depth 64))) rfl C.toArray HB.out ?_)
  all_goals go_ret
  all_goals exact HG.out
theorem infoStack : (Try.prog.info? 64).map (·.size) = some 66 := by kernel_rfl
theorem infoStackZ : (Try.prog.info? 64).map (fun i => i.zero) = some (some (.agg (skC (List.replicate 64 0) 0 0).toArray)) := by kernel_rfl
theorem zeroStack (w : World) : (zeroValue 64).run Try.prog w = .ok (.agg (skC (List.replicate 64 0) 0 0).toArray) w := by
  obtain ⟨i, hi, hz⟩ := Option.map_eq_some_iff.1 infoStackZ
  simp only [zeroValue, typeInfo, Sem.run_bind]
  simp [hi, hz]
set_option maxRecDepth 100000 in
set_option maxHeartbeats 1000000 in
theorem copy_code {w : World} {k : Nat} {F : Nat → Prop} {s : SS} (h : StAt w k F s) :
    Calls Try.prog 26 #[.pointer (some ⟨k, 0, none⟩)] w fun e w' => ∃ k' F', e = .returned (.pointer (some ⟨k', 0, none⟩)) ∧ (∀ i, F' i → w.heap.size ≤ i) ∧ StAt w' k' F' s ∧ Below w.heap.size w w' := by
  obtain ⟨hF, hok, J, hL, hrow⟩ := h
  have hl := skC_length (o := (s.st.length : Int)) (m := (s.most : Int)) hL
  have h1 := skC_one (L := s.st.reverse ++ J) (o := (s.st.length : Int)) (m := (s.most : Int))
  have HLL := Lib.hid hL
  generalize hlc : skC (s.st.reverse ++ J) (s.st.length : Int) (s.most : Int) = l at *
  have HLC := Lib.hid hlc
  have HROW := Lib.hid hrow
  have HI : Hid ((Try.prog.info? 64).map (·.size) = some l.length) := Lib.hid (by rw [infoStack, hl])
  have HI2 : Hid ((Try.prog.info? 64).map (·.size) = some l.toArray.size) := Lib.hid (by rw [infoStack]; simp [hl])
  have hzv := zeroStack
  have hzl := skC_length (L := List.replicate 64 0) (o := 0) (m := 0) (by simp)
  generalize skC (List.replicate 64 0) 0 0 = zl at *
  have hN := Row.new w 64 zl
  have HT : Hid (World.there (w.alloc (.cells zl.toArray 64)) w.heap.size 0 l.toArray.size) := Lib.hid (by
    have := hN.there (o := 0) (n := 66) (by omega)
    simpa [hl] using this)
  have HF := Lib.hid (hN.setAll (vs := l) (by rw [hl, hzl]))
  have hB : Below w.heap.size w ((w.alloc (.cells zl.toArray 64)).setCells w.heap.size 0 l) := below_setCells _ _ ((Below.refl _ _).alloc (Nat.le_refl _) _) (Nat.le_refl _)
  have H1 := Lib.hid h1
  clear hzl hN hl h1 hL hrow hlc
  go_enter Try.func26, Try.ntmps26
  go_wp2_with (first
    | refine wpList_load_mid rfl 64 (.tmp 5) rfl k 0 rfl l _ HROW.out.whole Try.underlying64 rfl HI.out ?_
    | refine wpList_store_mid rfl 64 (.tmp 3) (.tmp 6) rfl w.heap.size 0 l.toArray rfl rfl HT.out HI2.out (all_oneCell_toArray H1.out) ?_)
  go_ret
  exact ⟨w.heap.size, fun i => i = w.heap.size, rfl, fun i hi => Nat.le_of_eq hi.symm, ⟨fun i => Iff.rfl, hok, J, HLL.out, by rw [HLC.out]; exact HF.out⟩, hB⟩
/-- The landed code's stack is one. -/
theorem stSpec : StSpec StAt where
  ok := fun h => h.2.1
  lt := fun ⟨hF, _, J, _, hr⟩ i hi => by rw [(hF i).1 hi]; exact hr.lt
  aside := fun h hc hF => h.aside hc hF
  new := new_code
  enter := fun n h hn => enter_code n h hn
  take := take_code
  leave := leave_code
  depth := fun ⟨hF, _, J, hL, hr⟩ => depth_any _ _ J _ _ hL hr
  left := fun ⟨hF, _, J, hL, hr⟩ => left_any _ _ J _ _ hL hr
  copy := copy_code
end Go.Proofs.Ytagigdefghnnhaa
