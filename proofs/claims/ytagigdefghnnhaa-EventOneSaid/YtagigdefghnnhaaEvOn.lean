/- Layer 9: a machine as a law sees it, and a list of events that grows. -/
import Derived.Test.YtagigdefghnnhaaEvLaw
import Derived.Test.YtagigdefghnnhaaEvApp
import Derived.Laws.AppendOwnNone
import Derived.Maps.AppendAt
import Derived.Deep.QuietTactic
import Derived.BigQuiet
namespace Go.Proofs.Ytagigdefghnnhaa
open Go.RowKit Go.PlainAid
set_option linter.unusedVariables false
abbrev MPred := EvPred
/-- A machine as a call sees it. -/
structure MOn (MA : EvPred) (a w : World) (k : Nat) (F : Nat → Prop) (d : Nat) (m : EM) : Prop where
  at_ : MA w k F d m
  own : ∀ i, F i → a.heap.size ≤ i
  bel : Below a.heap.size a w
section
variable {MA : EvPred} {a w : World} {k : Nat} {F : Nat → Prop} {d : Nat} {m : EM}
theorem MOn.step (H : EvSpec MA) (h : MOn MA a w k F d m) {w' : World} (hb : Below w.heap.size w w') : MOn MA a w' k F d m :=
  ⟨H.aside (F' := fun _ => False) h.at_ ⟨hb.os, hb.tape, hb.output, hb.size, fun i hi _ => hb.block i hi⟩ (fun _ _ h => h), h.own, h.bel.trans (hb.mono h.bel.size)⟩
/-- A store into other blocks of the call's own. -/
theorem MOn.grown (H : EvSpec MA) (h : MOn MA a w k F d m) {w' : World} {row : Option Nat} (hg : w.grownBy w' row) (hF : ∀ i, row = some i → ¬ F i) (ho : ∀ i, row = some i → a.heap.size ≤ i) : MOn MA a w' k F d m := by
  have hc : Chg (fun i => row = some i) w w' := ⟨hg.os, hg.tape, hg.output, hg.size, fun i hi hn => hg.block i hi (fun e => hn e.symm)⟩
  exact ⟨H.aside h.at_ hc (fun i f e => hF i e f), h.own, hc.to_below h.bel ho⟩
theorem EvSpec.new_on (H : EvSpec MA) (depth : Int) (hd : -9223372036854775808 ≤ depth ∧ depth ≤ 9223372036854775807) (hB : Below a.heap.size a w) :
    Calls Try.prog 16 #[.int .i64 depth] w fun e w' => ∃ k F, e = .returned (.pointer (some ⟨k, 0, none⟩)) ∧ MOn MA a w' k F (evMost depth) EM.new ∧ Below w.heap.size w w' := by
  refine (H.new depth w hd).mono ?_
  rintro e w' ⟨k, F, h1, h2, h3, h4⟩
  exact ⟨k, F, h1, ⟨h3, fun i hi => Nat.le_trans hB.size (h2 i hi), hB.trans (h4.mono hB.size)⟩, h4⟩
/-- A byte, of which it is known what it brings about. -/
theorem EvSpec.push_on (H : EvSpec MA) (h : MOn MA a w k F d m) (b : Int) (h0 : 0 ≤ b) (h1 : b ≤ 255) (hat : m.at_ ≤ 1000000) {er : Int} {l : List Ev} {m' : EM} (hs : m.step d b = (er, l, m')) :
    Calls Try.prog 17 #[.pointer (some ⟨k, 0, none⟩), .int .u8 b] w fun e w' => ∃ oa n c F', e = .returned (.tuple #[.slice oa n c, .int .i64 er]) ∧ Evs w' w.heap.size (.slice oa n c) l ∧ n = l.length ∧ MOn MA a w' k F' d m' ∧ (∀ i, F' i → F i ∨ w.heap.size ≤ i) ∧ Chg F w w' := by
  have hp := H.push b h.at_ h0 h1 hat
  rw [hs] at hp
  refine hp.mono ?_
  rintro e w' ⟨v, F', e1, e2, e3, e4, e5, e6⟩
  obtain ⟨oa, c, rfl⟩ := e2.form
  exact ⟨oa, _, c, F', e1, e2, rfl, ⟨e5, fun i hi => by rcases e3 i hi with g | g; exact h.own i g; exact Nat.le_trans h.bel.size g, e6.to_below h.bel h.own⟩, e3, e6⟩
theorem EvSpec.at_on (H : EvSpec MA) (h : MOn MA a w k F d m) :
    Calls Try.prog 18 #[.pointer (some ⟨k, 0, none⟩)] w fun e w' => e = .returned (.int .i64 (m.at_ : Int)) ∧ MOn MA a w' k F d m ∧ ∃ n, w' = w.drewN n := by
  refine (H.at_ h.at_).mono ?_
  rintro e w' ⟨h1, n, rfl⟩
  exact ⟨h1, h.step H (draws_below' w n (Nat.le_refl _)), n, rfl⟩
theorem EvSpec.done_on (H : EvSpec MA) (h : MOn MA a w k F d m) :
    Calls Try.prog 19 #[.pointer (some ⟨k, 0, none⟩)] w fun e w' => e = .returned (.bool m.done) ∧ MOn MA a w' k F d m ∧ ∃ n, w' = w.drewN n := by
  refine (H.done h.at_).mono ?_
  rintro e w' ⟨h1, n, rfl⟩
  exact ⟨h1, h.step H (draws_below' w n (Nat.le_refl _)), n, rfl⟩
/-- A list of events that a machine's byte leaves as it was. -/
theorem Evs.chg {v : Value} {l : List Ev} {base : Nat} (h : Evs w base v l) {w' : World} (hc : Chg F w w') (hF : ∀ i, v.ownBlock = some i → ¬ F i) : Evs w' base v l := by
  obtain ⟨hl, h1 | ⟨g, cap, cur, hv, hg, hh, hn, hcm, hs, hk⟩⟩ := h
  · exact ⟨hl, .inl h1⟩
  · refine ⟨hl, .inr ⟨g, cap, cur, hv, hg, ?_, hn, hcm, hs, hk⟩⟩
    have hlt : g < w.heap.size := by
      rcases Nat.lt_or_ge g w.heap.size with h1 | h1
      · exact h1
      · rw [Array.getElem?_eq_none h1] at hh; cases hh
    rw [hc.block g hlt (hF g (by rw [hv]; rfl))]; exact hh
end
/-- A byte that brings an error: nothing else. -/
theorem EM.step_err {d : Nat} {m : EM} {x : Int} (h : (m.step d x).1 ≠ 0) : (m.step d x).2.1 = [] ∧ (m.step d x).2.2.over = (m.step d x).1 ∧ (m.step d x).2.2.at_ = m.at_ := by
  revert h
  unfold EM.step
  by_cases h0 : m.over ≠ 0
  · rw [if_pos h0]; intro _; exact ⟨rfl, rfl, rfl⟩
  · rw [if_neg h0]
    by_cases h1 : m.done = true
    · rw [if_pos h1]; intro _; exact ⟨rfl, rfl, rfl⟩
    · rw [if_neg h1]
      by_cases h2 : 0 < m.leaf
      · rw [if_pos h2]; split <;> simp
      · rw [if_neg h2]
        by_cases h4 : m.st.head? = some 0
        · rw [if_pos h4]; intro _; exact ⟨rfl, rfl, rfl⟩
        · rw [if_neg h4]
          by_cases h5 : (hdGet (m.hd ++ [x])).2.2.2.2.2 = 2
          · rw [if_pos h5]; simp
          · rw [if_neg h5]
            by_cases h6 : (hdGet (m.hd ++ [x])).2.2.2.2.2 ≠ 0
            · rw [if_pos h6]; intro _; exact ⟨rfl, rfl, rfl⟩
            · rw [if_neg h6]
              by_cases h7 : headE d (pays m.st 1) (hdGet (m.hd ++ [x])).2.2.1 (hdGet (m.hd ++ [x])).2.2.2.1 ≠ 0
              · rw [if_pos h7]; intro _; exact ⟨rfl, rfl, rfl⟩
              · rw [if_neg h7]; simp
theorem EM.step_over {d : Nat} {m : EM} {x : Int} (h : m.over ≠ 0) : m.step d x = (m.over, [], m) := by unfold EM.step; rw [if_pos h]
theorem bl_take_succ (b : ByteArray) (i : Nat) (h : i < b.size) : (bl b).take (i + 1) = (bl b).take i ++ [bt b i] := by
  have hl : i < (bl b).length := by rw [bl_length]; exact h
  rw [List.take_add_one, List.getElem?_eq_getElem hl, Option.toList_some, bl_get]
/-- The machine and the events behind a text's first bytes. -/
def allTo (b : ByteArray) (dep : Int) (i : Nat) : Option (EM × List Ev) := EM.all (evMost dep) EM.new ((bl b).take i) []
theorem allTo_zero (b : ByteArray) (dep : Int) : allTo b dep 0 = some (EM.new, []) := rfl
theorem allTo_succ {b : ByteArray} {dep : Int} {i : Nat} (h : i < b.size) {m : EM} {acc : List Ev} (ha : allTo b dep i = some (m, acc)) {m' : EM} {l : List Ev} (hs : m.step (evMost dep) (bt b i) = (0, l, m')) : allTo b dep (i + 1) = some (m', acc ++ l) := by
  unfold allTo at ha ⊢
  rw [bl_take_succ b i h, EM.all_append, ha]
  show EM.all (evMost dep) m [bt b i] acc = _
  rw [EM.all, hs]
  rfl
theorem allTo_err {b : ByteArray} {dep : Int} {i : Nat} (h : i < b.size) {m : EM} {acc : List Ev} (ha : allTo b dep i = some (m, acc)) {m' : EM} {l : List Ev} {er : Int} (hs : m.step (evMost dep) (bt b i) = (er, l, m')) (he : er ≠ 0) : evW b dep = (acc, er, i) := by
  unfold allTo at ha
  unfold evW evWhole
  have hat := EM.all_at _ _ EM.new [] ha rfl
  have hr := EM.run_some _ _ EM.new [] ha ((bl b).drop i)
  rw [List.take_append_drop] at hr
  rw [hr, bl_drop b i h, EM.run, hs, if_pos he, hat.1]
  show (_, _, 0 + ((bl b).take i).length) = _
  rw [List.length_take, bl_length]
  congr 2
  omega
theorem allTo_end {b : ByteArray} {dep : Int} {m : EM} {acc : List Ev} (ha : allTo b dep b.size = some (m, acc)) : evW b dep = (acc, if m.done = true then 0 else 2, b.size) := by
  unfold allTo at ha
  rw [List.take_of_length_le (by rw [bl_length]; exact Nat.le_refl _)] at ha
  unfold evW evWhole
  rw [EM.run_done _ ha, (EM.all_at _ _ EM.new [] ha rfl).1]
  show (_, _, 0 + (bl b).length) = _
  rw [bl_length, Nat.zero_add]
theorem allTo_at {b : ByteArray} {dep : Int} {i : Nat} (h : i ≤ b.size) {m : EM} {acc : List Ev} (ha : allTo b dep i = some (m, acc)) : m.at_ = i ∧ m.over = 0 := by
  unfold allTo at ha
  have := EM.all_at _ _ EM.new [] ha rfl
  refine ⟨?_, this.2⟩
  rw [this.1]
  show 0 + ((bl b).take i).length = i
  rw [List.length_take, bl_length]; omega
theorem evWhole_len (l : List Int) (hl : IsB l) (d : Nat) : (evWhole d l).1.length ≤ l.length := by
  rw [whole_is l hl d]
  obtain ⟨_, h2, h3⟩ := elem_len l hl d 0 (-1) (Nat.zero_le _) (.inl rfl)
  show (elemP l d 0 (-1)).l.length ≤ l.length
  omega
theorem allTo_len {b : ByteArray} {dep : Int} {i : Nat} {m : EM} {acc : List Ev} (ha : allTo b dep i = some (m, acc)) : acc.length ≤ b.size := by
  unfold allTo at ha
  have h := evWhole_len ((bl b).take i) ((bl_isB b).take i) (evMost dep)
  unfold evWhole at h
  rw [EM.run_done _ ha] at h
  rw [List.length_take, bl_length] at h
  show acc.length ≤ b.size
  have h : acc.length ≤ min i b.size := h
  omega
/-! ### How much a byte can bring about -/
theorem popE_len (st : List Int) (p : Nat) : (popE st p).length ≤ st.length := by
  induction st with
  | nil => simp [popE]
  | cons x r ih =>
    rw [popE]
    by_cases h : x = 0
    · rw [if_pos h]; simp; exact ih
    · rw [if_neg h]; simp
theorem popS_len (st : List Int) : (popS st).length ≤ st.length := by
  induction st with
  | nil => simp [popS]
  | cons x r ih =>
    rw [popS]
    by_cases h : x = 0
    · rw [if_pos h, List.length_cons]; omega
    · rw [if_neg h]; exact Nat.le_refl _
theorem headE_room {d : Nat} {st : List Int} {n : Int} (h : headE d st true n = 0) : st.length < d := by
  unfold headE at h
  split at h
  · by_cases hd : d ≤ 0
    · rw [if_pos ⟨rfl, hd⟩] at h; simp at h
    · show 0 < d; omega
  · rename_i y r
    by_cases hy : y < n
    · rw [if_pos hy] at h; simp at h
    · rw [if_neg hy] at h
      by_cases hd : d ≤ (y :: r).length
      · rw [if_pos ⟨rfl, hd⟩] at h; simp at h
      · omega
theorem headL_open (st : List Int) (p : Nat) (c t n : Int) : headL st p c t true n = evEnter p c t true n :: popE (n :: pays st n) p := if_pos rfl
theorem headM_open (st : List Int) (p : Nat) (n : Int) : headM st p true n = EM.fin (n :: pays st n) (p + 1) := if_pos rfl
theorem headL_none (st : List Int) (p : Nat) (c t : Int) : headL st p c t false 0 = evLeaf p c t false 0 :: evEnd p :: popE st p := (if_neg (by simp)).trans (if_pos rfl)
theorem headM_none (st : List Int) (p : Nat) : headM st p false 0 = EM.fin st (p + 1) := (if_neg (by simp)).trans (if_pos rfl)
theorem headL_leaf {st : List Int} {p : Nat} {c t n : Int} (h : ¬ n = 0) : headL st p c t false n = [evLeaf p c t false n] := (if_neg (by simp)).trans (if_neg h)
theorem headM_leaf {st : List Int} {p : Nat} {n : Int} (h : ¬ n = 0) : headM st p false n = ⟨pays st n, [], n, p + 1, false, 0⟩ := (if_neg (by simp)).trans (if_neg h)
theorem EM.step_size {d : Nat} {m : EM} {x : Int} (h : m.st.length ≤ d) : (m.step d x).2.1.length ≤ d + 2 ∧ (m.step d x).2.2.st.length ≤ d ∧ (m.step d x).2.2.at_ ≤ m.at_ + 1 := by
  unfold EM.step
  by_cases h0 : m.over ≠ 0
  · rw [if_pos h0]; exact ⟨by simp, h, by simp⟩
  · rw [if_neg h0]
    by_cases h1 : m.done = true
    · rw [if_pos h1]; exact ⟨by simp, h, by simp⟩
    · rw [if_neg h1]
      by_cases h2 : 0 < m.leaf
      · rw [if_pos h2]
        by_cases h3 : m.leaf = 1
        · rw [if_pos h3]
          have a1 := popE_len m.st m.at_
          have a2 := popS_len m.st
          exact ⟨by simp; omega, by show (popS m.st).length ≤ d; omega, by show m.at_ + 1 ≤ _; omega⟩
        · rw [if_neg h3]; exact ⟨by simp, h, by show m.at_ + 1 ≤ _; omega⟩
      · rw [if_neg h2]
        by_cases h4 : m.st.head? = some 0
        · rw [if_pos h4]; exact ⟨by simp, h, by simp⟩
        · rw [if_neg h4]
          by_cases h5 : (hdGet (m.hd ++ [x])).2.2.2.2.2 = 2
          · rw [if_pos h5]; exact ⟨by simp, by show (pays m.st 1).length ≤ d; rw [pays_length]; exact h, by show m.at_ + 1 ≤ _; omega⟩
          · rw [if_neg h5]
            by_cases h6 : (hdGet (m.hd ++ [x])).2.2.2.2.2 ≠ 0
            · rw [if_pos h6]; exact ⟨by simp, h, by simp⟩
            · rw [if_neg h6]
              generalize hf : (hdGet (m.hd ++ [x])).2.2.1 = f
              generalize (hdGet (m.hd ++ [x])).2.2.2.1 = n
              by_cases h7 : headE d (pays m.st 1) f n ≠ 0
              · rw [if_pos h7]; exact ⟨by simp, h, by simp⟩
              · rw [if_neg h7]
                have h7' : headE d (pays m.st 1) f n = 0 := by simpa using h7
                have hpl := pays_length m.st 1
                cases f with
                | true =>
                  have hr := headE_room h7'
                  rw [headL_open, headM_open]
                  have a1 := popE_len (n :: pays (pays m.st 1) n) m.at_
                  have a2 := popS_len (n :: pays (pays m.st 1) n)
                  rw [List.length_cons, pays_length, hpl] at a1 a2
                  rw [hpl] at hr
                  exact ⟨by simp; omega, by show (popS _).length ≤ d; omega, by show m.at_ + 1 ≤ _; omega⟩
                | false =>
                  by_cases hn : n = 0
                  · subst hn
                    rw [headL_none, headM_none]
                    have a1 := popE_len (pays m.st 1) m.at_
                    have a2 := popS_len (pays m.st 1)
                    rw [hpl] at a1 a2
                    exact ⟨by simp; omega, by show (popS _).length ≤ d; omega, by show m.at_ + 1 ≤ _; omega⟩
                  · rw [headL_leaf hn, headM_leaf hn]
                    exact ⟨by simp, by show (pays _ _).length ≤ d; rw [pays_length, hpl]; exact h, by show m.at_ + 1 ≤ _; omega⟩
section
variable {MA : EvPred} {a w : World} {k : Nat} {F : Nat → Prop} {d : Nat} {m : EM}
theorem MOn.beside (H : EvSpec MA) (h : MOn MA a w k F d m) {w' : World} {G : Nat → Prop} (hc : Chg G w w') (hG : ∀ i, F i → ¬ G i) (hB : ∀ i, G i → a.heap.size ≤ i) : MOn MA a w' k F d m :=
  ⟨H.aside h.at_ hc hG, h.own, hc.to_below h.bel hB⟩
theorem EvSpec.copy_on (H : EvSpec MA) (h : MOn MA a w k F d m) :
    Calls Try.prog 20 #[.pointer (some ⟨k, 0, none⟩)] w fun e w' => ∃ k' F', e = .returned (.pointer (some ⟨k', 0, none⟩)) ∧ MOn MA a w' k F d m ∧ MOn MA a w' k' F' d m ∧ (∀ i, F' i → w.heap.size ≤ i) ∧ Below w.heap.size w w' := by
  refine (H.copy h.at_).mono ?_
  rintro e w' ⟨k', F', h1, h2, h3, h4⟩
  have hs := h.step H h4
  exact ⟨k', F', h1, hs, ⟨h3, fun i hi => Nat.le_trans h.bel.size (h2 i hi), hs.bel⟩, h2, h4⟩
end
end Go.Proofs.Ytagigdefghnnhaa
