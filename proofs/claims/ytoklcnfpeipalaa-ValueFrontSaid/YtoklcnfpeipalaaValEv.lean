/- Events in plain words: which of a text's events is the first that is wrong, and what a checker that sees them one by one knows. They hold of lists alone, under no condition on the program. -/
import Derived.Test.YtoklcnfpeipalaaVal
import Derived.Test.YtoklcnfpeipalaaEvNest
import Derived.Test.YtoklcnfpeipalaaEvFront
namespace Go.Proofs.Ytoklcnfpeipalaa
open Go.RowKit Go.PlainAid
set_option linter.unusedVariables false
/-- The bytes directly behind a primitive one's beginning. -/
def cameL : List Ev → List Int
  | [] => []
  | e :: r => if e.k = 3 then e.b :: cameL r else []
/-- How far behind an event what it begins is wrong; -1: it isn't. -/
def vEv (e : Ev) (r : List Ev) : Int :=
  if e.c ≠ 0 then -1 else if e.k = 1 then (if e.t = 16 ∨ e.t = 17 then -1 else 0) else if e.k ≠ 2 then -1
  else if e.t = 0 ∨ e.t = 16 ∨ e.t = 17 then 0 else vW e.t e.n (cameL r)
/-- The first event that is wrong; -1: none is. -/
def vF : List Ev → Int
  | [] => -1
  | e :: r => if 0 ≤ vEv e r then vEv e r else if 0 ≤ vF r then vF r + 1 else -1
/-- A content that is open: its class, tag and length, and the bytes that came. -/
structure VC where
  c : Int
  t : Int
  n : Int
  l : List Int
/-- What a checker knows: whether an event was wrong, and the content that is open. -/
structure VS where
  bad : Bool
  cur : Option VC
def vBad (q : VC) : Bool := decide (q.c = 0 ∧ (q.t = 0 ∨ q.t = 16 ∨ q.t = 17 ∨ 0 ≤ vW q.t q.n q.l))
def VC.and (q : VC) (b : Int) : VC := ⟨q.c, q.t, q.n, q.l ++ [b]⟩
def VS.new : VS := ⟨false, none⟩
def VS.next (s : VS) (e : Ev) : VS :=
  if e.k = 1 then ⟨s.bad || decide (e.c = 0 ∧ ¬ e.t = 16 ∧ ¬ e.t = 17), none⟩
  else if e.k = 2 then ⟨s.bad || vBad ⟨e.c, e.t, e.n, []⟩, some ⟨e.c, e.t, e.n, []⟩⟩
  else if e.k = 3 then (match s.cur with | none => s | some q => ⟨s.bad || vBad (q.and e.b), some (q.and e.b)⟩)
  else ⟨s.bad, none⟩
def VS.run : VS → List Ev → VS
  | s, [] => s
  | s, e :: r => VS.run (s.next e) r
/-- An event that may come there. -/
structure VS.fits (s : VS) (e : Ev) : Prop where
  k : e.k = 1 ∨ e.k = 2 ∨ e.k = 3 ∨ e.k = 4 ∨ e.k = 5
  c : 0 ≤ e.c ∧ e.c ≤ 3
  t : 0 ≤ e.t ∧ e.t ≤ 268435455
  n : 0 ≤ e.n ∧ e.n ≤ 2305843009213693951
  b : 0 ≤ e.b ∧ e.b ≤ 255
  a : 0 ≤ e.at_ ∧ e.at_ ≤ 9223372036854775807
  byte : e.k = 3 → ∃ q, s.cur = some q ∧ (q.l.length : Int) < q.n
def VS.all : VS → List Ev → Prop
  | _, [] => True
  | s, e :: r => s.fits e ∧ VS.all (s.next e) r
theorem VS.run_append (l r : List Ev) : ∀ s, VS.run s (l ++ r) = VS.run (VS.run s l) r := by
  induction l with
  | nil => intro s; rfl
  | cons e l ih => intro s; exact ih _
theorem VS.all_append (l r : List Ev) : ∀ s, VS.all s (l ++ r) ↔ VS.all s l ∧ VS.all (VS.run s l) r := by
  induction l with
  | nil => intro s; exact ⟨fun h => ⟨trivial, h⟩, fun h => h.2⟩
  | cons e l ih => intro s; rw [List.cons_append, VS.all, VS.all, ih, and_assoc]; rfl
section
variable {s : VS} {e : Ev}
theorem VS.next1 (h : e.k = 1) : s.next e = ⟨s.bad || decide (e.c = 0 ∧ ¬ e.t = 16 ∧ ¬ e.t = 17), none⟩ := by unfold VS.next; rw [if_pos h]
theorem VS.next2 (h : e.k = 2) : s.next e = ⟨s.bad || vBad ⟨e.c, e.t, e.n, []⟩, some ⟨e.c, e.t, e.n, []⟩⟩ := by unfold VS.next; rw [if_neg (by omega), if_pos h]
theorem VS.next3 {q : VC} (h : e.k = 3) (hc : s.cur = some q) : s.next e = ⟨s.bad || vBad (q.and e.b), some (q.and e.b)⟩ := by unfold VS.next; rw [if_neg (by omega), if_neg (by omega), if_pos h, hc]
theorem VS.next4 (h1 : e.k ≠ 1) (h2 : e.k ≠ 2) (h3 : e.k ≠ 3) : s.next e = ⟨s.bad, none⟩ := by unfold VS.next; rw [if_neg h1, if_neg h2, if_neg h3]
end
theorem VS.bad_next {s : VS} (e : Ev) (h : s.bad = true) : (s.next e).bad = true := by
  unfold VS.next
  split
  · simp [h]
  · split
    · simp [h]
    · split
      · split
        · exact h
        · simp [h]
      · exact h
theorem VS.bad_run (l : List Ev) : ∀ {s : VS}, s.bad = true → (VS.run s l).bad = true := by
  induction l with
  | nil => intro s h; exact h
  | cons e l ih => intro s h; exact ih (VS.bad_next e h)
structure VS.Ok (s : VS) : Prop where
  len : ∀ q, s.cur = some q → (q.l.length : Int) ≤ max q.n 0
  good : ∀ q, s.cur = some q → s.bad = false → vBad q = false
  top : ∀ q, s.cur = some q → q.n ≤ 2305843009213693951
theorem VS.ok_new : VS.new.Ok := ⟨(fun q h => by cases h), (fun q h => by cases h), (fun q h => by cases h)⟩
theorem VS.ok_next {s : VS} {e : Ev} (h : s.Ok) (hf : s.fits e) : (s.next e).Ok := by
  rcases hf.k with h1 | h1 | h1 | h1 | h1
  · rw [VS.next1 h1]; exact ⟨(fun q h => by cases h), (fun q h => by cases h), (fun q h => by cases h)⟩
  · rw [VS.next2 h1]
    refine ⟨fun q hq => ?_, fun q hq hb => ?_, fun q hq => ?_⟩
    · cases hq; show (0 : Int) ≤ _; omega
    · cases hq
      have hb : (s.bad || vBad ⟨e.c, e.t, e.n, []⟩) = false := hb
      rw [Bool.or_eq_false_iff] at hb
      exact hb.2
    · cases hq; exact hf.n.2
  · obtain ⟨q, hq, hlt⟩ := hf.byte h1
    rw [VS.next3 h1 hq]
    refine ⟨fun p hp => ?_, fun p hp hb => ?_, fun p hp => by cases hp; exact h.top q hq⟩
    · cases hp
      show ((q.l ++ [e.b]).length : Int) ≤ max q.n 0
      rw [List.length_append, List.length_singleton]; omega
    · cases hp
      have hb : (s.bad || vBad (q.and e.b)) = false := hb
      rw [Bool.or_eq_false_iff] at hb
      exact hb.2
  · rw [VS.next4 (by omega) (by omega) (by omega)]; exact ⟨(fun q h => by cases h), (fun q h => by cases h), (fun q h => by cases h)⟩
  · rw [VS.next4 (by omega) (by omega) (by omega)]; exact ⟨(fun q h => by cases h), (fun q h => by cases h), (fun q h => by cases h)⟩
theorem VS.ok_run (l : List Ev) : ∀ {s : VS}, s.Ok → VS.all s l → (VS.run s l).Ok := by
  induction l with
  | nil => intro s h _; exact h
  | cons e l ih => intro s h ha; exact ih (VS.ok_next h ha.1) ha.2
theorem cameL_of {e : Ev} {r : List Ev} (h : e.k = 3) : cameL (e :: r) = e.b :: cameL r := by rw [cameL, if_pos h]
theorem cameL_no {e : Ev} {r : List Ev} (h : e.k ≠ 3) : cameL (e :: r) = [] := by rw [cameL, if_neg h]
theorem came_len (r : List Ev) : ∀ {s : VS} {q : VC}, VS.all s r → s.cur = some q → (q.l.length : Int) ≤ max q.n 0 → ((q.l ++ cameL r).length : Int) ≤ max q.n 0 := by
  induction r with
  | nil => intro s q _ _ h; rw [cameL, List.append_nil]; exact h
  | cons e r ih =>
    intro s q ha hq h
    by_cases h3 : e.k = 3
    · rw [cameL_of h3]
      obtain ⟨p, hp, hlt⟩ := ha.1.byte h3
      rw [hq] at hp
      cases hp
      have := ih (s := s.next e) (q := q.and e.b) ha.2 (by rw [VS.next3 h3 hq]) (by show ((q.l ++ [e.b]).length : Int) ≤ max q.n 0; rw [List.length_append, List.length_singleton]; omega)
      have h9 : (((q.l ++ [e.b]) ++ cameL r).length : Int) ≤ max q.n 0 := this
      rw [List.append_assoc] at h9
      exact h9
    · rw [cameL_no h3, List.append_nil]; exact h
/-- The first wrong one of those that come behind. -/
def vFrom (s : VS) (r : List Ev) : Int :=
  match s.cur with
  | none => vF r
  | some q => if q.c = 0 ∧ 0 ≤ vW q.t q.n (q.l ++ cameL r) then vW q.t q.n (q.l ++ cameL r) - q.l.length - 1 else vF r
theorem vFrom_none {s : VS} {r : List Ev} (h : s.cur = none) : vFrom s r = vF r := by unfold vFrom; rw [h]
theorem vFrom_some {s : VS} {r : List Ev} {q : VC} (h : s.cur = some q) : vFrom s r = if q.c = 0 ∧ 0 ≤ vW q.t q.n (q.l ++ cameL r) then vW q.t q.n (q.l ++ cameL r) - q.l.length - 1 else vF r := by unfold vFrom; rw [h]
theorem vF_cons (e : Ev) (r : List Ev) : vF (e :: r) = if 0 ≤ vEv e r then vEv e r else if 0 ≤ vF r then vF r + 1 else -1 := rfl
theorem vEv_no {e : Ev} (r : List Ev) (h1 : e.k ≠ 1) (h2 : e.k ≠ 2) : vEv e r = -1 := by
  unfold vEv
  by_cases h : e.c ≠ 0
  · rw [if_pos h]
  · rw [if_neg h, if_neg h1, if_pos h2]
theorem vEv_other {e : Ev} (r : List Ev) (h : ¬ e.c = 0) : vEv e r = -1 := by unfold vEv; rw [if_pos h]
theorem vEv_enter {e : Ev} (r : List Ev) (h : e.c = 0) (h1 : e.k = 1) : vEv e r = if e.t = 16 ∨ e.t = 17 then -1 else 0 := by unfold vEv; rw [if_neg (fun x => x h), if_pos h1]
theorem vEv_leaf {e : Ev} (r : List Ev) (h : e.c = 0) (h1 : e.k = 2) : vEv e r = if e.t = 0 ∨ e.t = 16 ∨ e.t = 17 then 0 else vW e.t e.n (cameL r) := by unfold vEv; rw [if_neg (fun x => x h), if_neg (by omega), if_neg (by omega)]
theorem vBad_false {q : VC} (h : vBad q = false) (h0 : q.c = 0) : ¬ q.t = 0 ∧ ¬ q.t = 16 ∧ ¬ q.t = 17 ∧ ¬ 0 ≤ vW q.t q.n q.l := by
  unfold vBad at h
  have h := of_decide_eq_false h
  refine ⟨fun h1 => h ⟨h0, .inl h1⟩, fun h1 => h ⟨h0, .inr (.inl h1)⟩, fun h1 => h ⟨h0, .inr (.inr (.inl h1))⟩, fun h1 => h ⟨h0, .inr (.inr (.inr h1))⟩⟩
theorem vFrom_other {s : VS} {e : Ev} {r : List Ev} (ho : s.Ok) (hb : s.bad = false) (h3 : e.k ≠ 3) : vFrom s (e :: r) = vF (e :: r) := by
  cases hc : s.cur with
  | none => exact vFrom_none hc
  | some q =>
    rw [vFrom_some hc, cameL_no h3, List.append_nil, if_neg]
    rintro ⟨h0, h1⟩
    exact (vBad_false (ho.good q hc hb) h0).2.2.2 h1
theorem vFrom_cons {s : VS} {e : Ev} {r : List Ev} (ho : s.Ok) (hb : s.bad = false) (ha : VS.all s (e :: r)) :
    vFrom s (e :: r) = if (s.next e).bad = true then 0 else if 0 ≤ vFrom (s.next e) r then vFrom (s.next e) r + 1 else -1 := by
  obtain ⟨hf, har⟩ := ha
  rcases hf.k with h1 | h1 | h1 | h1 | h1
  · rw [vFrom_other ho hb (by omega), VS.next1 h1, vF_cons, vFrom_none rfl, hb]
    by_cases hc : e.c = 0
    · rw [vEv_enter r hc h1]
      by_cases ht : e.t = 16 ∨ e.t = 17
      · rw [if_pos ht, if_neg (show ¬ (0 : Int) ≤ -1 by omega), if_neg (show ¬ (false || decide (e.c = 0 ∧ ¬ e.t = 16 ∧ ¬ e.t = 17)) = true by simp; omega)]
      · rw [if_neg ht, if_pos (show (0 : Int) ≤ 0 by omega), if_pos (show (false || decide (e.c = 0 ∧ ¬ e.t = 16 ∧ ¬ e.t = 17)) = true by simp; omega)]
    · rw [vEv_other r hc, if_neg (show ¬ (0 : Int) ≤ -1 by omega), if_neg (show ¬ (false || decide (e.c = 0 ∧ ¬ e.t = 16 ∧ ¬ e.t = 17)) = true by simp [hc])]
  · rw [vFrom_other ho hb (by omega), VS.next2 h1, vF_cons, vFrom_some rfl, hb]
    have hl := came_len r (s := s.next e) (q := ⟨e.c, e.t, e.n, []⟩) har (by rw [VS.next2 h1]) (by show (0 : Int) ≤ _; omega)
    have hl : ((cameL r).length : Int) ≤ max e.n 0 := hl
    show _ = if (false || vBad ⟨e.c, e.t, e.n, []⟩) = true then 0 else if 0 ≤ (if e.c = 0 ∧ 0 ≤ vW e.t e.n ([] ++ cameL r) then vW e.t e.n ([] ++ cameL r) - ((0 : Nat) : Int) - 1 else vF r) then (if e.c = 0 ∧ 0 ≤ vW e.t e.n ([] ++ cameL r) then vW e.t e.n ([] ++ cameL r) - ((0 : Nat) : Int) - 1 else vF r) + 1 else -1
    rw [List.nil_append, Bool.false_or]
    obtain ⟨⟨f1, f2⟩, f3⟩ := v_first e.t e.n (cameL r) hl
    have f30 := f3 0 (Nat.zero_le _)
    rw [List.take_zero] at f30
    by_cases hc : e.c = 0
    · rw [vEv_leaf r hc h1]
      by_cases ht : e.t = 0 ∨ e.t = 16 ∨ e.t = 17
      · have hv : vBad ⟨e.c, e.t, e.n, []⟩ = true := by
          unfold vBad
          refine decide_eq_true ⟨hc, ?_⟩
          rcases ht with h | h | h
          · exact .inl h
          · exact .inr (.inl h)
          · exact .inr (.inr (.inl h))
        rw [if_pos ht, if_pos (show (0 : Int) ≤ 0 by omega), if_pos hv]
      · rw [if_neg ht]
        have hvd : vBad ⟨e.c, e.t, e.n, []⟩ = decide (vW e.t e.n (cameL r) = 0) := by
          unfold vBad
          refine decide_eq_decide.2 ⟨?_, ?_⟩
          · rintro ⟨_, h | h | h | h⟩
            · exact absurd (.inl h) ht
            · exact absurd (.inr (.inl h)) ht
            · exact absurd (.inr (.inr h)) ht
            · have h : 0 ≤ vW e.t e.n [] := h
              rw [f30] at h
              split at h <;> omega
          · intro h
            refine ⟨hc, .inr (.inr (.inr ?_))⟩
            show 0 ≤ vW e.t e.n []
            rw [f30, if_pos (by omega)]; omega
        rw [hvd]
        generalize vW e.t e.n (cameL r) = W at *
        by_cases hW : W = 0
        · rw [if_pos (show (0 : Int) ≤ W by omega), if_pos (decide_eq_true hW), hW]
        · rw [if_neg (show ¬ decide (W = 0) = true by simpa using hW)]
          by_cases hW0 : 0 ≤ W
          · have hp : e.c = 0 ∧ 0 ≤ W := ⟨hc, hW0⟩
            rw [if_pos hW0, if_pos hp, if_pos (show 0 ≤ W - ((0 : Nat) : Int) - 1 by omega)]; omega
          · rw [if_neg hW0, if_neg (fun h : e.c = 0 ∧ 0 ≤ W => hW0 h.2)]
    · have hv : vBad ⟨e.c, e.t, e.n, []⟩ = false := by unfold vBad; exact decide_eq_false (fun h => hc h.1)
      rw [vEv_other r hc, if_neg (show ¬ (0 : Int) ≤ -1 by omega), hv, if_neg (show ¬ false = true by simp), if_neg (fun h : e.c = 0 ∧ 0 ≤ vW e.t e.n (cameL r) => hc h.1)]
  · obtain ⟨q, hq, hlt⟩ := hf.byte h1
    have hl := came_len (e :: r) (s := s) (q := q) ⟨hf, har⟩ hq (ho.len q hq)
    rw [vFrom_some hq, VS.next3 h1 hq, vFrom_some rfl, hb, vF_cons, vEv_no r (by omega) (by omega)]
    rw [cameL_of h1] at hl ⊢
    show (if q.c = 0 ∧ 0 ≤ vW q.t q.n (q.l ++ e.b :: cameL r) then vW q.t q.n (q.l ++ e.b :: cameL r) - q.l.length - 1 else if (0 : Int) ≤ -1 then -1 else if 0 ≤ vF r then vF r + 1 else -1) = if (false || vBad (q.and e.b)) = true then 0 else if 0 ≤ (if q.c = 0 ∧ 0 ≤ vW q.t q.n ((q.l ++ [e.b]) ++ cameL r) then vW q.t q.n ((q.l ++ [e.b]) ++ cameL r) - (q.l ++ [e.b]).length - 1 else vF r) then (if q.c = 0 ∧ 0 ≤ vW q.t q.n ((q.l ++ [e.b]) ++ cameL r) then vW q.t q.n ((q.l ++ [e.b]) ++ cameL r) - (q.l ++ [e.b]).length - 1 else vF r) + 1 else -1
    rw [Bool.false_or, List.append_assoc, List.singleton_append, List.length_append, List.length_singleton, if_neg (show ¬ (0 : Int) ≤ -1 by omega)]
    by_cases hc : q.c = 0
    · obtain ⟨g1, g2, g3, g4⟩ := vBad_false (ho.good q hq hb) hc
      obtain ⟨⟨f1, f2⟩, f3⟩ := v_first q.t q.n _ hl
      have f30 := f3 q.l.length (by rw [List.length_append]; omega)
      have f31 := f3 (q.l.length + 1) (by rw [List.length_append, List.length_cons]; omega)
      rw [List.take_left] at f30
      have ht : (q.l ++ e.b :: cameL r).take (q.l.length + 1) = q.l ++ [e.b] := by
        rw [show q.l ++ e.b :: cameL r = (q.l ++ [e.b]) ++ cameL r by simp]
        exact List.take_left' (by simp)
      rw [ht] at f31
      have hvd : vBad (q.and e.b) = decide (0 ≤ vW q.t q.n (q.l ++ [e.b])) := by
        unfold vBad VC.and
        refine decide_eq_decide.2 ⟨?_, fun h => ⟨hc, .inr (.inr (.inr h))⟩⟩
        rintro ⟨_, h | h | h | h⟩
        · exact absurd h g1
        · exact absurd h g2
        · exact absurd h g3
        · exact h
      rw [hvd, f31]
      rw [f30] at g4
      generalize vW q.t q.n (q.l ++ e.b :: cameL r) = W at *
      by_cases hW0 : 0 ≤ W
      · have hWl : (q.l.length : Int) < W := by
          by_cases hle : W ≤ q.l.length
          · rw [if_pos ⟨hW0, hle⟩] at g4; exact absurd hW0 g4
          · omega
        have hp : q.c = 0 ∧ 0 ≤ W := ⟨hc, hW0⟩
        rw [if_pos hp, if_pos hp]
        by_cases hW1 : W = (q.l.length : Int) + 1
        · have hx : (0 : Int) ≤ (if 0 ≤ W ∧ W ≤ ((q.l.length + 1 : Nat) : Int) then W else -1) := by rw [if_pos (by omega)]; exact hW0
          rw [decide_eq_true hx, if_pos rfl]; omega
        · have hx : ¬ (0 : Int) ≤ (if 0 ≤ W ∧ W ≤ ((q.l.length + 1 : Nat) : Int) then W else -1) := by rw [if_neg (by omega)]; omega
          rw [decide_eq_false hx, if_neg (show ¬ false = true by simp), if_pos (show 0 ≤ W - ((q.l.length + 1 : Nat) : Int) - 1 by omega)]; omega
      · have hx : ¬ (0 : Int) ≤ (if 0 ≤ W ∧ W ≤ ((q.l.length + 1 : Nat) : Int) then W else -1) := by rw [if_neg (fun h => hW0 h.1)]; omega
        have hn : ¬ (q.c = 0 ∧ 0 ≤ W) := fun h => hW0 h.2
        rw [if_neg hn, decide_eq_false hx, if_neg (show ¬ false = true by simp), if_neg hn]
    · have hv : vBad (q.and e.b) = false := by unfold vBad VC.and; exact decide_eq_false (fun h => hc h.1)
      have hn : ¬ (q.c = 0 ∧ 0 ≤ vW q.t q.n (q.l ++ e.b :: cameL r)) := fun h => hc h.1
      rw [if_neg hn, if_neg hn, hv, if_neg (show ¬ false = true by simp)]
  · rw [vFrom_other ho hb (by omega), VS.next4 (by omega) (by omega) (by omega), vF_cons, vFrom_none rfl, hb, vEv_no r (by omega) (by omega), if_neg (show ¬ (0 : Int) ≤ -1 by omega), if_neg (show ¬ false = true by simp)]
  · rw [vFrom_other ho hb (by omega), VS.next4 (by omega) (by omega) (by omega), vF_cons, vFrom_none rfl, hb, vEv_no r (by omega) (by omega), if_neg (show ¬ (0 : Int) ≤ -1 by omega), if_neg (show ¬ false = true by simp)]
/-- What a checker knows behind each event. -/
theorem v_run (r : List Ev) : ∀ {s : VS}, s.Ok → s.bad = false → VS.all s r →
    (-1 ≤ vFrom s r ∧ vFrom s r < r.length) ∧ ∀ i, i ≤ r.length → (VS.run s (r.take i)).bad = decide (0 ≤ vFrom s r ∧ vFrom s r < i) := by
  induction r with
  | nil =>
    intro s ho hb _
    have h : vFrom s [] = -1 := by
      cases hc : s.cur with
      | none => rw [vFrom_none hc]; rfl
      | some q =>
        rw [vFrom_some hc, cameL, List.append_nil, if_neg]
        · rfl
        · rintro ⟨h0, h1⟩
          exact (vBad_false (ho.good q hc hb) h0).2.2.2 h1
    rw [h]
    refine ⟨⟨by omega, by simp⟩, fun i hi => ?_⟩
    rw [List.take_nil]
    show s.bad = _
    rw [hb, decide_eq_false (by omega)]
  | cons e r ih =>
    intro s ho hb ha
    have hv := vFrom_cons ho hb ha
    rw [hv]
    by_cases hs : (s.next e).bad = true
    · rw [if_pos hs]
      refine ⟨⟨by omega, by rw [List.length_cons]; omega⟩, fun i hi => ?_⟩
      cases i with
      | zero => show s.bad = _; rw [hb, decide_eq_false (by omega)]
      | succ i =>
        rw [List.take_succ_cons]
        show (VS.run (s.next e) (r.take i)).bad = _
        rw [VS.bad_run _ hs, decide_eq_true (by omega)]
    · rw [if_neg hs]
      have hs' : (s.next e).bad = false := by simpa using hs
      obtain ⟨⟨i1, i2⟩, i3⟩ := ih (VS.ok_next ho ha.1) hs' ha.2
      refine ⟨⟨by split <;> omega, by rw [List.length_cons]; split <;> omega⟩, fun i hi => ?_⟩
      cases i with
      | zero =>
        show s.bad = _
        rw [hb, decide_eq_false]
        split <;> omega
      | succ i =>
        rw [List.take_succ_cons]
        show (VS.run (s.next e) (r.take i)).bad = _
        rw [i3 i (by simpa using hi)]
        refine decide_eq_decide.2 ?_
        split <;> omega
/-- Events one by one, from the first. -/
theorem v_bad {l : List Ev} (h : VS.all VS.new l) : (-1 ≤ vF l ∧ vF l < l.length) ∧ ∀ i, i ≤ l.length → (VS.run VS.new (l.take i)).bad = decide (0 ≤ vF l ∧ vF l < i) := by
  have := v_run l VS.ok_new rfl h
  rw [vFrom_none rfl] at this
  exact this
/-- What stands behind plays no part for the first that is wrong. -/
theorem vF_front {l r : List Ev} (h : VS.all VS.new (l ++ r)) : (0 ≤ vF l → vF (l ++ r) = vF l) ∧ (vF l < 0 → vF (l ++ r) < 0 ∨ (l.length : Int) ≤ vF (l ++ r)) := by
  have hl := ((VS.all_append l r _).1 h).1
  obtain ⟨⟨a1, a2⟩, a3⟩ := v_bad h
  obtain ⟨⟨b1, b2⟩, b3⟩ := v_bad hl
  have key : ∀ i, i ≤ l.length → ((0 ≤ vF (l ++ r) ∧ vF (l ++ r) < (i : Int)) ↔ (0 ≤ vF l ∧ vF l < (i : Int))) := by
    intro i hi
    have h1 := a3 i (by rw [List.length_append]; omega)
    have h2 := b3 i hi
    rw [List.take_append_of_le_length hi, h2] at h1
    exact (decide_eq_decide.1 h1).symm
  refine ⟨fun h0 => ?_, fun h0 => ?_⟩
  · obtain ⟨n, hn⟩ := Int.eq_ofNat_of_zero_le h0
    have k1 := key n (by omega)
    have k2 := key (n + 1) (by omega)
    rw [hn] at k1 k2 ⊢
    omega
  · have := key l.length (Nat.le_refl _)
    omega
end Go.Proofs.Ytoklcnfpeipalaa
