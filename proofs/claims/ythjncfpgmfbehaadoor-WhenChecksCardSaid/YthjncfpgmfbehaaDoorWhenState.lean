/- What a time's content says so far, in plain words: the part that the next byte is of, how many digits of it are left, its number so far, the year and the month. It is shown that each byte's step tells just whether a right content can begin so. These hold of lists of numbers alone, under no condition on the program. -/
import Derived.Test.YthjncfpgmfbehaaDoorWhen
namespace Go.Proofs.YthjncfpgmfbehaaDoor
open Go.PlainAid
set_option linter.unusedVariables false
structure WS where
  p : Int
  l : Int
  v : Int
  y : Int
  m : Int
def WS.no : WS := ⟨0, 0, 0, 0, 0⟩
def wLo (p : Int) : Int := if p = 2 then 2050 else if p = 3 ∨ p = 4 then 1 else 0
def wHi (p y m : Int) : Int := if p = 1 then 99 else if p = 2 then 9999 else if p = 3 then 12 else if p = 4 then dysI y m else if p = 5 then 23 else 59
def ten (l : Int) : Int := if l = 3 then 1000 else if l = 2 then 100 else if l = 1 then 10 else 1
def wCan (p l v y m : Int) : Bool := decide (v * ten l ≤ wHi p y m ∧ wLo p < v * ten l + ten l)
def wYear (v : Int) : Int := if v < 50 then 2000 + v else 1900 + v
def wNext (p v y m : Int) : WS :=
  if p = 1 then ⟨3, 2, 0, wYear v, m⟩ else if p = 2 then ⟨3, 2, 0, v, m⟩ else if p = 3 then ⟨4, 2, 0, y, v⟩ else ⟨p + 1, if p + 1 = 8 then 0 else 2, 0, y, m⟩
def wPush (s : WS) (b : Int) : WS × Bool :=
  if s.p = 8 ∧ b = 90 then (⟨0, s.l, s.v, s.y, s.m⟩, true)
  else if s.l < 1 ∨ b < 48 ∨ 57 < b then (WS.no, false)
  else if wCan s.p (s.l - 1) (s.v * 10 + (b - 48)) s.y s.m = true then
    (if s.l - 1 = 0 then wNext s.p (s.v * 10 + (b - 48)) s.y s.m else ⟨s.p, s.l - 1, s.v * 10 + (b - 48), s.y, s.m⟩, true)
  else (WS.no, false)
def wStart (tag n : Int) : WS × Bool := if tag = 23 ∧ n = 13 then (⟨1, 2, 0, 0, 0⟩, true) else if tag = 24 ∧ n = 15 then (⟨2, 4, 0, 0, 0⟩, true) else (WS.no, false)
/-- The state behind a date's front (of an UTCTime with its century). -/
def wF (tag : Int) (F : List Int) : WS :=
  if 4 ≤ F.length then ⟨if F.length = 15 then 0 else (F.length : Int) / 2 + 1, if F.length < 14 then 2 - (F.length : Int) % 2 else 0, if F.length < 14 ∧ F.length % 2 = 1 then g F (F.length - 1) - 48 else 0, yr F, if 6 ≤ F.length then n2 F 4 else 0⟩
  else if tag = 24 then ⟨2, 4 - (F.length : Int), if F.length = 0 then 0 else if F.length = 1 then g F 0 - 48 else if F.length = 2 then n2 F 0 else n2 F 0 * 10 + (g F 2 - 48), 0, 0⟩
  else ⟨1, 4 - (F.length : Int), if F.length ≤ 2 then 0 else g F 2 - 48, 0, 0⟩
def wSt (tag : Int) (l : List Int) : WS := wF tag (fullP tag l)
theorem if_iff {α : Type} {a b : Prop} [Decidable a] [Decidable b] (h : a ↔ b) (x y : α) : (if a then x else y) = if b then x else y := by
  by_cases ha : a
  · rw [if_pos ha, if_pos (h.1 ha)]
  · rw [if_neg ha, if_neg (fun hb => ha (h.2 hb))]
theorem push_no (s : WS) (b : Int) (hp : s.p ≠ 8) (hb : ¬ isD b) : wPush s b = (WS.no, false) := by
  unfold isD at hb
  unfold wPush
  rw [if_neg (fun h => hp h.1), if_pos (by omega)]
theorem push_mk (s : WS) (b : Int) (C : Prop) [Decidable C] (hp : s.p ≠ 8) (hl : 1 ≤ s.l) (hb : isD b) (S : WS)
    (hC : ((s.v * 10 + (b - 48)) * ten (s.l - 1) ≤ wHi s.p s.y s.m ∧ wLo s.p < (s.v * 10 + (b - 48)) * ten (s.l - 1) + ten (s.l - 1)) ↔ C)
    (hS : C → (if s.l - 1 = 0 then wNext s.p (s.v * 10 + (b - 48)) s.y s.m else ⟨s.p, s.l - 1, s.v * 10 + (b - 48), s.y, s.m⟩) = S) :
    wPush s b = if C then (S, true) else (WS.no, false) := by
  unfold isD at hb
  unfold wPush
  have e : wCan s.p (s.l - 1) (s.v * 10 + (b - 48)) s.y s.m = true ↔ C := by unfold wCan; rw [decide_eq_true_eq]; exact hC
  rw [if_neg (fun h => hp h.1), if_neg (by omega)]
  by_cases h : C
  · rw [if_pos (e.2 h), if_pos h, hS h]
  · rw [if_neg (fun hh => h (e.1 hh)), if_neg h]
theorem stepAt_iff (l : List Int) (i : Nat) (hd : isD (g l i)) (C : Prop) (h : ((i = 4 → g l 4 ≤ 49) ∧ (i = 5 → 1 ≤ n2 l 4 ∧ n2 l 4 ≤ 12) ∧ (i = 6 → g l 6 - 48 ≤ dysI (yr l) (n2 l 4) / 10) ∧ (i = 7 → 1 ≤ n2 l 6 ∧ n2 l 6 ≤ dysI (yr l) (n2 l 4))
    ∧ (i = 8 → g l 8 ≤ 50) ∧ (i = 9 → n2 l 8 < 24) ∧ (i = 10 → g l 10 ≤ 53) ∧ (i = 12 → g l 12 ≤ 53)) ↔ C) : stepAt l i ↔ C := by
  unfold stepAt
  exact ⟨fun hh => h.1 hh.2, fun c => ⟨hd, h.2 c⟩⟩
set_option maxHeartbeats 4000000 in
/-- Behind the year each digit. -/
theorem wF_push4 (tag : Int) (F : List Int) (x : Int) (h4 : 4 ≤ F.length) (h14 : F.length < 14) (hF : ∀ i, i < F.length → stepAt F i) :
    wPush (wF tag F) x = if stepAt (F ++ [x]) F.length then (wF tag (F ++ [x]), true) else (WS.no, false) := by
  have hp : (wF tag F).p ≠ 8 := by
    unfold wF; rw [if_pos h4]; show (if F.length = 15 then (0 : Int) else (F.length : Int) / 2 + 1) ≠ 8
    rw [if_neg (by omega)]; omega
  by_cases hx : isD x
  · have hl : 1 ≤ (wF tag F).l := by
      unfold wF; rw [if_pos h4]; show 1 ≤ if F.length < 14 then 2 - (F.length : Int) % 2 else (0 : Int)
      rw [if_pos h14]; omega
    have hd : ∀ i, i < F.length → isD (g F i) := fun i hi => (hF i hi).1
    have hD := fun h : 6 ≤ F.length => dys_least (y := yr F) (m := n2 F 4) (yr_range (fun i hi => hd i (by omega))).1 (yr_range (fun i hi => hd i (by omega))).2 (((hF 5 (by omega)).2.2.1 rfl).1) (((hF 5 (by omega)).2.2.1 rfl).2)
    have hD2 := dys_range (yr F) (n2 F 4)
    match F, h4, h14, hF, hd, hp, hl, hD, hD2 with
    | [a0, a1, a2, a3], _, _, hF, hd, hp, hl, hD, hD2 =>
      have hy : yr [a0, a1, a2, a3, x] = yr [a0, a1, a2, a3] := rfl
      have q1 : wF tag [a0, a1, a2, a3] = ⟨3, 2, 0, yr [a0, a1, a2, a3], 0⟩ := by simp [wF]
      have q2 : wF tag [a0, a1, a2, a3, x] = ⟨3, 1, x - 48, yr [a0, a1, a2, a3, x], 0⟩ := by simp [wF, g]
      rw [show [a0, a1, a2, a3] ++ [x] = [a0, a1, a2, a3, x] from rfl, show [a0, a1, a2, a3].length = 4 from rfl, q1, q2]
      have hs : stepAt [a0, a1, a2, a3, x] 4 ↔ x ≤ 49 := stepAt_iff [a0, a1, a2, a3, x] 4 hx _ ⟨fun h => h.1 rfl, fun h => ⟨fun _ => h, fun e => absurd e (by decide), fun e => absurd e (by decide), fun e => absurd e (by decide), fun e => absurd e (by decide), fun e => absurd e (by decide), fun e => absurd e (by decide), fun e => absurd e (by decide)⟩⟩
      refine push_mk ⟨3, 2, 0, yr [a0, a1, a2, a3], 0⟩ x _ (by simp) (by simp) hx _ (Iff.trans ?_ hs.symm) (fun hc => ?_)
      · show ((0 * 10 + (x - 48)) * 10 ≤ 12 ∧ 1 < (0 * 10 + (x - 48)) * 10 + 10) ↔ _
        unfold isD at hx
        omega
      · show (⟨3, 1, 0 * 10 + (x - 48), _, _⟩ : WS) = ⟨3, 1, x - 48, _, _⟩
        rw [Int.zero_mul, Int.zero_add]; rfl
    | [a0, a1, a2, a3, a4], _, _, hF, hd, hp, hl, hD, hD2 =>
      have hy : yr [a0, a1, a2, a3, a4, x] = yr [a0, a1, a2, a3, a4] := rfl
      have q1 : wF tag [a0, a1, a2, a3, a4] = ⟨3, 1, a4 - 48, yr [a0, a1, a2, a3, a4], 0⟩ := by simp [wF, g]
      have q2 : wF tag [a0, a1, a2, a3, a4, x] = ⟨4, 2, 0, yr [a0, a1, a2, a3, a4, x], n2 [a0, a1, a2, a3, a4, x] 4⟩ := by simp [wF]
      rw [show [a0, a1, a2, a3, a4] ++ [x] = [a0, a1, a2, a3, a4, x] from rfl, show [a0, a1, a2, a3, a4].length = 5 from rfl, q1, q2]
      have e4 := (hF 4 (by simp)).2.1 rfl
      have hdl := hd 4 (by simp)
      have hs : stepAt [a0, a1, a2, a3, a4, x] 5 ↔ 1 ≤ 10 * (a4 - 48) + (x - 48) ∧ 10 * (a4 - 48) + (x - 48) ≤ 12 := stepAt_iff [a0, a1, a2, a3, a4, x] 5 hx _ ⟨fun h => h.2.1 rfl, fun h => ⟨fun e => absurd e (by decide), fun _ => h, fun e => absurd e (by decide), fun e => absurd e (by decide), fun e => absurd e (by decide), fun e => absurd e (by decide), fun e => absurd e (by decide), fun e => absurd e (by decide)⟩⟩
      unfold isD at hdl
      have hdl2 : 48 ≤ a4 ∧ a4 ≤ 57 := hdl
      clear hdl
      have e4 : a4 ≤ 49 := e4
      refine push_mk ⟨3, 1, a4 - 48, yr [a0, a1, a2, a3, a4], 0⟩ x _ (by simp) (by simp) hx _ (Iff.trans ?_ hs.symm) (fun hc => ?_)
      · show (((a4 - 48) * 10 + (x - 48)) * 1 ≤ 12 ∧ 1 < ((a4 - 48) * 10 + (x - 48)) * 1 + 1) ↔ _
        unfold isD at hx
        omega
      · show (⟨4, 2, 0, _, (a4 - 48) * 10 + (x - 48)⟩ : WS) = ⟨4, 2, 0, _, 10 * (a4 - 48) + (x - 48)⟩
        rw [Int.mul_comm]; rfl
    | [a0, a1, a2, a3, a4, a5], _, _, hF, hd, hp, hl, hD, hD2 =>
      have hy : yr [a0, a1, a2, a3, a4, a5, x] = yr [a0, a1, a2, a3, a4, a5] := rfl
      have q1 : wF tag [a0, a1, a2, a3, a4, a5] = ⟨4, 2, 0, yr [a0, a1, a2, a3, a4, a5], n2 [a0, a1, a2, a3, a4, a5] 4⟩ := by simp [wF]
      have q2 : wF tag [a0, a1, a2, a3, a4, a5, x] = ⟨4, 1, x - 48, yr [a0, a1, a2, a3, a4, a5, x], n2 [a0, a1, a2, a3, a4, a5, x] 4⟩ := by simp [wF, g]
      rw [show [a0, a1, a2, a3, a4, a5] ++ [x] = [a0, a1, a2, a3, a4, a5, x] from rfl, show [a0, a1, a2, a3, a4, a5].length = 6 from rfl, q1, q2]
      have hm : n2 [a0, a1, a2, a3, a4, a5, x] 4 = n2 [a0, a1, a2, a3, a4, a5] 4 := rfl
      have hD := hD (by simp)
      have hs : stepAt [a0, a1, a2, a3, a4, a5, x] 6 ↔ x - 48 ≤ dysI (yr [a0, a1, a2, a3, a4, a5]) (n2 [a0, a1, a2, a3, a4, a5] 4) / 10 := stepAt_iff [a0, a1, a2, a3, a4, a5, x] 6 hx _ ⟨fun h => h.2.2.1 rfl, fun h => ⟨fun e => absurd e (by decide), fun e => absurd e (by decide), fun _ => h, fun e => absurd e (by decide), fun e => absurd e (by decide), fun e => absurd e (by decide), fun e => absurd e (by decide), fun e => absurd e (by decide)⟩⟩
      have hhi : wHi 4 (yr [a0, a1, a2, a3, a4, a5]) (n2 [a0, a1, a2, a3, a4, a5] 4) = dysI (yr [a0, a1, a2, a3, a4, a5]) (n2 [a0, a1, a2, a3, a4, a5] 4) := rfl
      refine push_mk ⟨4, 2, 0, yr [a0, a1, a2, a3, a4, a5], n2 [a0, a1, a2, a3, a4, a5] 4⟩ x _ (by simp) (by simp) hx _ (Iff.trans ?_ hs.symm) (fun hc => ?_)
      · show ((0 * 10 + (x - 48)) * 10 ≤ dysI (yr [a0, a1, a2, a3, a4, a5]) (n2 [a0, a1, a2, a3, a4, a5] 4) ∧ 1 < (0 * 10 + (x - 48)) * 10 + 10) ↔ _
        unfold isD at hx
        generalize dysI (yr [a0, a1, a2, a3, a4, a5]) (n2 [a0, a1, a2, a3, a4, a5] 4) = D at *
        omega
      · show (⟨4, 1, 0 * 10 + (x - 48), _, _⟩ : WS) = ⟨4, 1, x - 48, _, _⟩
        rw [Int.zero_mul, Int.zero_add]; rfl
    | [a0, a1, a2, a3, a4, a5, a6], _, _, hF, hd, hp, hl, hD, hD2 =>
      have hy : yr [a0, a1, a2, a3, a4, a5, a6, x] = yr [a0, a1, a2, a3, a4, a5, a6] := rfl
      have q1 : wF tag [a0, a1, a2, a3, a4, a5, a6] = ⟨4, 1, a6 - 48, yr [a0, a1, a2, a3, a4, a5, a6], n2 [a0, a1, a2, a3, a4, a5, a6] 4⟩ := by simp [wF, g]
      have q2 : wF tag [a0, a1, a2, a3, a4, a5, a6, x] = ⟨5, 2, 0, yr [a0, a1, a2, a3, a4, a5, a6, x], n2 [a0, a1, a2, a3, a4, a5, a6, x] 4⟩ := by simp [wF]
      rw [show [a0, a1, a2, a3, a4, a5, a6] ++ [x] = [a0, a1, a2, a3, a4, a5, a6, x] from rfl, show [a0, a1, a2, a3, a4, a5, a6].length = 7 from rfl, q1, q2]
      have e6 := (hF 6 (by simp)).2.2.2.1 rfl
      have hdl := hd 6 (by simp)
      have hm : n2 [a0, a1, a2, a3, a4, a5, a6, x] 4 = n2 [a0, a1, a2, a3, a4, a5, a6] 4 := rfl
      have hD := hD (by simp)
      have hs : stepAt [a0, a1, a2, a3, a4, a5, a6, x] 7 ↔ 1 ≤ 10 * (a6 - 48) + (x - 48) ∧ 10 * (a6 - 48) + (x - 48) ≤ dysI (yr [a0, a1, a2, a3, a4, a5, a6]) (n2 [a0, a1, a2, a3, a4, a5, a6] 4) := stepAt_iff [a0, a1, a2, a3, a4, a5, a6, x] 7 hx _ ⟨fun h => h.2.2.2.1 rfl, fun h => ⟨fun e => absurd e (by decide), fun e => absurd e (by decide), fun e => absurd e (by decide), fun _ => h, fun e => absurd e (by decide), fun e => absurd e (by decide), fun e => absurd e (by decide), fun e => absurd e (by decide)⟩⟩
      unfold isD at hdl
      have hdl2 : 48 ≤ a6 ∧ a6 ≤ 57 := hdl
      clear hdl
      have e6 : a6 - 48 ≤ dysI (yr [a0, a1, a2, a3, a4, a5, a6]) (n2 [a0, a1, a2, a3, a4, a5, a6] 4) / 10 := e6
      have hhi : wHi 4 (yr [a0, a1, a2, a3, a4, a5, a6]) (n2 [a0, a1, a2, a3, a4, a5, a6] 4) = dysI (yr [a0, a1, a2, a3, a4, a5, a6]) (n2 [a0, a1, a2, a3, a4, a5, a6] 4) := rfl
      refine push_mk ⟨4, 1, a6 - 48, yr [a0, a1, a2, a3, a4, a5, a6], n2 [a0, a1, a2, a3, a4, a5, a6] 4⟩ x _ (by simp) (by simp) hx _ (Iff.trans ?_ hs.symm) (fun hc => ?_)
      · show (((a6 - 48) * 10 + (x - 48)) * 1 ≤ dysI (yr [a0, a1, a2, a3, a4, a5, a6]) (n2 [a0, a1, a2, a3, a4, a5, a6] 4) ∧ 1 < ((a6 - 48) * 10 + (x - 48)) * 1 + 1) ↔ _
        unfold isD at hx
        generalize dysI (yr [a0, a1, a2, a3, a4, a5, a6]) (n2 [a0, a1, a2, a3, a4, a5, a6] 4) = D at *
        omega
      · rfl
    | [a0, a1, a2, a3, a4, a5, a6, a7], _, _, hF, hd, hp, hl, hD, hD2 =>
      have hy : yr [a0, a1, a2, a3, a4, a5, a6, a7, x] = yr [a0, a1, a2, a3, a4, a5, a6, a7] := rfl
      have q1 : wF tag [a0, a1, a2, a3, a4, a5, a6, a7] = ⟨5, 2, 0, yr [a0, a1, a2, a3, a4, a5, a6, a7], n2 [a0, a1, a2, a3, a4, a5, a6, a7] 4⟩ := by simp [wF]
      have q2 : wF tag [a0, a1, a2, a3, a4, a5, a6, a7, x] = ⟨5, 1, x - 48, yr [a0, a1, a2, a3, a4, a5, a6, a7, x], n2 [a0, a1, a2, a3, a4, a5, a6, a7, x] 4⟩ := by simp [wF, g]
      rw [show [a0, a1, a2, a3, a4, a5, a6, a7] ++ [x] = [a0, a1, a2, a3, a4, a5, a6, a7, x] from rfl, show [a0, a1, a2, a3, a4, a5, a6, a7].length = 8 from rfl, q1, q2]
      have hm : n2 [a0, a1, a2, a3, a4, a5, a6, a7, x] 4 = n2 [a0, a1, a2, a3, a4, a5, a6, a7] 4 := rfl
      have hD := hD (by simp)
      have hs : stepAt [a0, a1, a2, a3, a4, a5, a6, a7, x] 8 ↔ x ≤ 50 := stepAt_iff [a0, a1, a2, a3, a4, a5, a6, a7, x] 8 hx _ ⟨fun h => h.2.2.2.2.1 rfl, fun h => ⟨fun e => absurd e (by decide), fun e => absurd e (by decide), fun e => absurd e (by decide), fun e => absurd e (by decide), fun _ => h, fun e => absurd e (by decide), fun e => absurd e (by decide), fun e => absurd e (by decide)⟩⟩
      have hhi : wHi 4 (yr [a0, a1, a2, a3, a4, a5, a6, a7]) (n2 [a0, a1, a2, a3, a4, a5, a6, a7] 4) = dysI (yr [a0, a1, a2, a3, a4, a5, a6, a7]) (n2 [a0, a1, a2, a3, a4, a5, a6, a7] 4) := rfl
      refine push_mk ⟨5, 2, 0, yr [a0, a1, a2, a3, a4, a5, a6, a7], n2 [a0, a1, a2, a3, a4, a5, a6, a7] 4⟩ x _ (by simp) (by simp) hx _ (Iff.trans ?_ hs.symm) (fun hc => ?_)
      · show ((0 * 10 + (x - 48)) * 10 ≤ 23 ∧ 0 < (0 * 10 + (x - 48)) * 10 + 10) ↔ _
        unfold isD at hx
        generalize dysI (yr [a0, a1, a2, a3, a4, a5, a6, a7]) (n2 [a0, a1, a2, a3, a4, a5, a6, a7] 4) = D at *
        omega
      · show (⟨5, 1, 0 * 10 + (x - 48), _, _⟩ : WS) = ⟨5, 1, x - 48, _, _⟩
        rw [Int.zero_mul, Int.zero_add]; rfl
    | [a0, a1, a2, a3, a4, a5, a6, a7, a8], _, _, hF, hd, hp, hl, hD, hD2 =>
      have hy : yr [a0, a1, a2, a3, a4, a5, a6, a7, a8, x] = yr [a0, a1, a2, a3, a4, a5, a6, a7, a8] := rfl
      have q1 : wF tag [a0, a1, a2, a3, a4, a5, a6, a7, a8] = ⟨5, 1, a8 - 48, yr [a0, a1, a2, a3, a4, a5, a6, a7, a8], n2 [a0, a1, a2, a3, a4, a5, a6, a7, a8] 4⟩ := by simp [wF, g]
      have q2 : wF tag [a0, a1, a2, a3, a4, a5, a6, a7, a8, x] = ⟨6, 2, 0, yr [a0, a1, a2, a3, a4, a5, a6, a7, a8, x], n2 [a0, a1, a2, a3, a4, a5, a6, a7, a8, x] 4⟩ := by simp [wF]
      rw [show [a0, a1, a2, a3, a4, a5, a6, a7, a8] ++ [x] = [a0, a1, a2, a3, a4, a5, a6, a7, a8, x] from rfl, show [a0, a1, a2, a3, a4, a5, a6, a7, a8].length = 9 from rfl, q1, q2]
      have e8 := (hF 8 (by simp)).2.2.2.2.2.1 rfl
      have hdl := hd 8 (by simp)
      have hm : n2 [a0, a1, a2, a3, a4, a5, a6, a7, a8, x] 4 = n2 [a0, a1, a2, a3, a4, a5, a6, a7, a8] 4 := rfl
      have hD := hD (by simp)
      have hs : stepAt [a0, a1, a2, a3, a4, a5, a6, a7, a8, x] 9 ↔ 10 * (a8 - 48) + (x - 48) < 24 := stepAt_iff [a0, a1, a2, a3, a4, a5, a6, a7, a8, x] 9 hx _ ⟨fun h => h.2.2.2.2.2.1 rfl, fun h => ⟨fun e => absurd e (by decide), fun e => absurd e (by decide), fun e => absurd e (by decide), fun e => absurd e (by decide), fun e => absurd e (by decide), fun _ => h, fun e => absurd e (by decide), fun e => absurd e (by decide)⟩⟩
      unfold isD at hdl
      have hdl2 : 48 ≤ a8 ∧ a8 ≤ 57 := hdl
      clear hdl
      have e8 : a8 ≤ 50 := e8
      have hhi : wHi 4 (yr [a0, a1, a2, a3, a4, a5, a6, a7, a8]) (n2 [a0, a1, a2, a3, a4, a5, a6, a7, a8] 4) = dysI (yr [a0, a1, a2, a3, a4, a5, a6, a7, a8]) (n2 [a0, a1, a2, a3, a4, a5, a6, a7, a8] 4) := rfl
      refine push_mk ⟨5, 1, a8 - 48, yr [a0, a1, a2, a3, a4, a5, a6, a7, a8], n2 [a0, a1, a2, a3, a4, a5, a6, a7, a8] 4⟩ x _ (by simp) (by simp) hx _ (Iff.trans ?_ hs.symm) (fun hc => ?_)
      · show (((a8 - 48) * 10 + (x - 48)) * 1 ≤ 23 ∧ 0 < ((a8 - 48) * 10 + (x - 48)) * 1 + 1) ↔ _
        unfold isD at hx
        generalize dysI (yr [a0, a1, a2, a3, a4, a5, a6, a7, a8]) (n2 [a0, a1, a2, a3, a4, a5, a6, a7, a8] 4) = D at *
        omega
      · rfl
    | [a0, a1, a2, a3, a4, a5, a6, a7, a8, a9], _, _, hF, hd, hp, hl, hD, hD2 =>
      have hy : yr [a0, a1, a2, a3, a4, a5, a6, a7, a8, a9, x] = yr [a0, a1, a2, a3, a4, a5, a6, a7, a8, a9] := rfl
      have q1 : wF tag [a0, a1, a2, a3, a4, a5, a6, a7, a8, a9] = ⟨6, 2, 0, yr [a0, a1, a2, a3, a4, a5, a6, a7, a8, a9], n2 [a0, a1, a2, a3, a4, a5, a6, a7, a8, a9] 4⟩ := by simp [wF]
      have q2 : wF tag [a0, a1, a2, a3, a4, a5, a6, a7, a8, a9, x] = ⟨6, 1, x - 48, yr [a0, a1, a2, a3, a4, a5, a6, a7, a8, a9, x], n2 [a0, a1, a2, a3, a4, a5, a6, a7, a8, a9, x] 4⟩ := by simp [wF, g]
      rw [show [a0, a1, a2, a3, a4, a5, a6, a7, a8, a9] ++ [x] = [a0, a1, a2, a3, a4, a5, a6, a7, a8, a9, x] from rfl, show [a0, a1, a2, a3, a4, a5, a6, a7, a8, a9].length = 10 from rfl, q1, q2]
      have hm : n2 [a0, a1, a2, a3, a4, a5, a6, a7, a8, a9, x] 4 = n2 [a0, a1, a2, a3, a4, a5, a6, a7, a8, a9] 4 := rfl
      have hD := hD (by simp)
      have hs : stepAt [a0, a1, a2, a3, a4, a5, a6, a7, a8, a9, x] 10 ↔ x ≤ 53 := stepAt_iff [a0, a1, a2, a3, a4, a5, a6, a7, a8, a9, x] 10 hx _ ⟨fun h => h.2.2.2.2.2.2.1 rfl, fun h => ⟨fun e => absurd e (by decide), fun e => absurd e (by decide), fun e => absurd e (by decide), fun e => absurd e (by decide), fun e => absurd e (by decide), fun e => absurd e (by decide), fun _ => h, fun e => absurd e (by decide)⟩⟩
      have hhi : wHi 4 (yr [a0, a1, a2, a3, a4, a5, a6, a7, a8, a9]) (n2 [a0, a1, a2, a3, a4, a5, a6, a7, a8, a9] 4) = dysI (yr [a0, a1, a2, a3, a4, a5, a6, a7, a8, a9]) (n2 [a0, a1, a2, a3, a4, a5, a6, a7, a8, a9] 4) := rfl
      refine push_mk ⟨6, 2, 0, yr [a0, a1, a2, a3, a4, a5, a6, a7, a8, a9], n2 [a0, a1, a2, a3, a4, a5, a6, a7, a8, a9] 4⟩ x _ (by simp) (by simp) hx _ (Iff.trans ?_ hs.symm) (fun hc => ?_)
      · show ((0 * 10 + (x - 48)) * 10 ≤ 59 ∧ 0 < (0 * 10 + (x - 48)) * 10 + 10) ↔ _
        unfold isD at hx
        generalize dysI (yr [a0, a1, a2, a3, a4, a5, a6, a7, a8, a9]) (n2 [a0, a1, a2, a3, a4, a5, a6, a7, a8, a9] 4) = D at *
        omega
      · show (⟨6, 1, 0 * 10 + (x - 48), _, _⟩ : WS) = ⟨6, 1, x - 48, _, _⟩
        rw [Int.zero_mul, Int.zero_add]; rfl
    | [a0, a1, a2, a3, a4, a5, a6, a7, a8, a9, a10], _, _, hF, hd, hp, hl, hD, hD2 =>
      have hy : yr [a0, a1, a2, a3, a4, a5, a6, a7, a8, a9, a10, x] = yr [a0, a1, a2, a3, a4, a5, a6, a7, a8, a9, a10] := rfl
      have q1 : wF tag [a0, a1, a2, a3, a4, a5, a6, a7, a8, a9, a10] = ⟨6, 1, a10 - 48, yr [a0, a1, a2, a3, a4, a5, a6, a7, a8, a9, a10], n2 [a0, a1, a2, a3, a4, a5, a6, a7, a8, a9, a10] 4⟩ := by simp [wF, g]
      have q2 : wF tag [a0, a1, a2, a3, a4, a5, a6, a7, a8, a9, a10, x] = ⟨7, 2, 0, yr [a0, a1, a2, a3, a4, a5, a6, a7, a8, a9, a10, x], n2 [a0, a1, a2, a3, a4, a5, a6, a7, a8, a9, a10, x] 4⟩ := by simp [wF]
      rw [show [a0, a1, a2, a3, a4, a5, a6, a7, a8, a9, a10] ++ [x] = [a0, a1, a2, a3, a4, a5, a6, a7, a8, a9, a10, x] from rfl, show [a0, a1, a2, a3, a4, a5, a6, a7, a8, a9, a10].length = 11 from rfl, q1, q2]
      have e10 := (hF 10 (by simp)).2.2.2.2.2.2.2.1 rfl
      have hdl := hd 10 (by simp)
      have hm : n2 [a0, a1, a2, a3, a4, a5, a6, a7, a8, a9, a10, x] 4 = n2 [a0, a1, a2, a3, a4, a5, a6, a7, a8, a9, a10] 4 := rfl
      have hD := hD (by simp)
      have hs : stepAt [a0, a1, a2, a3, a4, a5, a6, a7, a8, a9, a10, x] 11 ↔ True := stepAt_iff [a0, a1, a2, a3, a4, a5, a6, a7, a8, a9, a10, x] 11 hx _ ⟨fun _ => trivial, fun _ => ⟨fun e => absurd e (by decide), fun e => absurd e (by decide), fun e => absurd e (by decide), fun e => absurd e (by decide), fun e => absurd e (by decide), fun e => absurd e (by decide), fun e => absurd e (by decide), fun e => absurd e (by decide)⟩⟩
      unfold isD at hdl
      have hdl2 : 48 ≤ a10 ∧ a10 ≤ 57 := hdl
      clear hdl
      have e10 : a10 ≤ 53 := e10
      have hhi : wHi 4 (yr [a0, a1, a2, a3, a4, a5, a6, a7, a8, a9, a10]) (n2 [a0, a1, a2, a3, a4, a5, a6, a7, a8, a9, a10] 4) = dysI (yr [a0, a1, a2, a3, a4, a5, a6, a7, a8, a9, a10]) (n2 [a0, a1, a2, a3, a4, a5, a6, a7, a8, a9, a10] 4) := rfl
      refine push_mk ⟨6, 1, a10 - 48, yr [a0, a1, a2, a3, a4, a5, a6, a7, a8, a9, a10], n2 [a0, a1, a2, a3, a4, a5, a6, a7, a8, a9, a10] 4⟩ x _ (by simp) (by simp) hx _ (Iff.trans ?_ hs.symm) (fun hc => ?_)
      · show (((a10 - 48) * 10 + (x - 48)) * 1 ≤ 59 ∧ 0 < ((a10 - 48) * 10 + (x - 48)) * 1 + 1) ↔ _
        unfold isD at hx
        generalize dysI (yr [a0, a1, a2, a3, a4, a5, a6, a7, a8, a9, a10]) (n2 [a0, a1, a2, a3, a4, a5, a6, a7, a8, a9, a10] 4) = D at *
        exact iff_of_true (by omega) trivial
      · rfl
    | [a0, a1, a2, a3, a4, a5, a6, a7, a8, a9, a10, a11], _, _, hF, hd, hp, hl, hD, hD2 =>
      have hy : yr [a0, a1, a2, a3, a4, a5, a6, a7, a8, a9, a10, a11, x] = yr [a0, a1, a2, a3, a4, a5, a6, a7, a8, a9, a10, a11] := rfl
      have q1 : wF tag [a0, a1, a2, a3, a4, a5, a6, a7, a8, a9, a10, a11] = ⟨7, 2, 0, yr [a0, a1, a2, a3, a4, a5, a6, a7, a8, a9, a10, a11], n2 [a0, a1, a2, a3, a4, a5, a6, a7, a8, a9, a10, a11] 4⟩ := by simp [wF]
      have q2 : wF tag [a0, a1, a2, a3, a4, a5, a6, a7, a8, a9, a10, a11, x] = ⟨7, 1, x - 48, yr [a0, a1, a2, a3, a4, a5, a6, a7, a8, a9, a10, a11, x], n2 [a0, a1, a2, a3, a4, a5, a6, a7, a8, a9, a10, a11, x] 4⟩ := by simp [wF, g]
      rw [show [a0, a1, a2, a3, a4, a5, a6, a7, a8, a9, a10, a11] ++ [x] = [a0, a1, a2, a3, a4, a5, a6, a7, a8, a9, a10, a11, x] from rfl, show [a0, a1, a2, a3, a4, a5, a6, a7, a8, a9, a10, a11].length = 12 from rfl, q1, q2]
      have hm : n2 [a0, a1, a2, a3, a4, a5, a6, a7, a8, a9, a10, a11, x] 4 = n2 [a0, a1, a2, a3, a4, a5, a6, a7, a8, a9, a10, a11] 4 := rfl
      have hD := hD (by simp)
      have hs : stepAt [a0, a1, a2, a3, a4, a5, a6, a7, a8, a9, a10, a11, x] 12 ↔ x ≤ 53 := stepAt_iff [a0, a1, a2, a3, a4, a5, a6, a7, a8, a9, a10, a11, x] 12 hx _ ⟨fun h => h.2.2.2.2.2.2.2 rfl, fun h => ⟨fun e => absurd e (by decide), fun e => absurd e (by decide), fun e => absurd e (by decide), fun e => absurd e (by decide), fun e => absurd e (by decide), fun e => absurd e (by decide), fun e => absurd e (by decide), fun _ => h⟩⟩
      have hhi : wHi 4 (yr [a0, a1, a2, a3, a4, a5, a6, a7, a8, a9, a10, a11]) (n2 [a0, a1, a2, a3, a4, a5, a6, a7, a8, a9, a10, a11] 4) = dysI (yr [a0, a1, a2, a3, a4, a5, a6, a7, a8, a9, a10, a11]) (n2 [a0, a1, a2, a3, a4, a5, a6, a7, a8, a9, a10, a11] 4) := rfl
      refine push_mk ⟨7, 2, 0, yr [a0, a1, a2, a3, a4, a5, a6, a7, a8, a9, a10, a11], n2 [a0, a1, a2, a3, a4, a5, a6, a7, a8, a9, a10, a11] 4⟩ x _ (by simp) (by simp) hx _ (Iff.trans ?_ hs.symm) (fun hc => ?_)
      · show ((0 * 10 + (x - 48)) * 10 ≤ 59 ∧ 0 < (0 * 10 + (x - 48)) * 10 + 10) ↔ _
        unfold isD at hx
        generalize dysI (yr [a0, a1, a2, a3, a4, a5, a6, a7, a8, a9, a10, a11]) (n2 [a0, a1, a2, a3, a4, a5, a6, a7, a8, a9, a10, a11] 4) = D at *
        omega
      · show (⟨7, 1, 0 * 10 + (x - 48), _, _⟩ : WS) = ⟨7, 1, x - 48, _, _⟩
        rw [Int.zero_mul, Int.zero_add]; rfl
    | [a0, a1, a2, a3, a4, a5, a6, a7, a8, a9, a10, a11, a12], _, _, hF, hd, hp, hl, hD, hD2 =>
      have hy : yr [a0, a1, a2, a3, a4, a5, a6, a7, a8, a9, a10, a11, a12, x] = yr [a0, a1, a2, a3, a4, a5, a6, a7, a8, a9, a10, a11, a12] := rfl
      have q1 : wF tag [a0, a1, a2, a3, a4, a5, a6, a7, a8, a9, a10, a11, a12] = ⟨7, 1, a12 - 48, yr [a0, a1, a2, a3, a4, a5, a6, a7, a8, a9, a10, a11, a12], n2 [a0, a1, a2, a3, a4, a5, a6, a7, a8, a9, a10, a11, a12] 4⟩ := by simp [wF, g]
      have q2 : wF tag [a0, a1, a2, a3, a4, a5, a6, a7, a8, a9, a10, a11, a12, x] = ⟨8, 0, 0, yr [a0, a1, a2, a3, a4, a5, a6, a7, a8, a9, a10, a11, a12, x], n2 [a0, a1, a2, a3, a4, a5, a6, a7, a8, a9, a10, a11, a12, x] 4⟩ := by simp [wF]
      rw [show [a0, a1, a2, a3, a4, a5, a6, a7, a8, a9, a10, a11, a12] ++ [x] = [a0, a1, a2, a3, a4, a5, a6, a7, a8, a9, a10, a11, a12, x] from rfl, show [a0, a1, a2, a3, a4, a5, a6, a7, a8, a9, a10, a11, a12].length = 13 from rfl, q1, q2]
      have e12 := (hF 12 (by simp)).2.2.2.2.2.2.2.2 rfl
      have hdl := hd 12 (by simp)
      have hm : n2 [a0, a1, a2, a3, a4, a5, a6, a7, a8, a9, a10, a11, a12, x] 4 = n2 [a0, a1, a2, a3, a4, a5, a6, a7, a8, a9, a10, a11, a12] 4 := rfl
      have hD := hD (by simp)
      have hs : stepAt [a0, a1, a2, a3, a4, a5, a6, a7, a8, a9, a10, a11, a12, x] 13 ↔ True := stepAt_iff [a0, a1, a2, a3, a4, a5, a6, a7, a8, a9, a10, a11, a12, x] 13 hx _ ⟨fun _ => trivial, fun _ => ⟨fun e => absurd e (by decide), fun e => absurd e (by decide), fun e => absurd e (by decide), fun e => absurd e (by decide), fun e => absurd e (by decide), fun e => absurd e (by decide), fun e => absurd e (by decide), fun e => absurd e (by decide)⟩⟩
      unfold isD at hdl
      have hdl2 : 48 ≤ a12 ∧ a12 ≤ 57 := hdl
      clear hdl
      have e12 : a12 ≤ 53 := e12
      have hhi : wHi 4 (yr [a0, a1, a2, a3, a4, a5, a6, a7, a8, a9, a10, a11, a12]) (n2 [a0, a1, a2, a3, a4, a5, a6, a7, a8, a9, a10, a11, a12] 4) = dysI (yr [a0, a1, a2, a3, a4, a5, a6, a7, a8, a9, a10, a11, a12]) (n2 [a0, a1, a2, a3, a4, a5, a6, a7, a8, a9, a10, a11, a12] 4) := rfl
      refine push_mk ⟨7, 1, a12 - 48, yr [a0, a1, a2, a3, a4, a5, a6, a7, a8, a9, a10, a11, a12], n2 [a0, a1, a2, a3, a4, a5, a6, a7, a8, a9, a10, a11, a12] 4⟩ x _ (by simp) (by simp) hx _ (Iff.trans ?_ hs.symm) (fun hc => ?_)
      · show (((a12 - 48) * 10 + (x - 48)) * 1 ≤ 59 ∧ 0 < ((a12 - 48) * 10 + (x - 48)) * 1 + 1) ↔ _
        unfold isD at hx
        generalize dysI (yr [a0, a1, a2, a3, a4, a5, a6, a7, a8, a9, a10, a11, a12]) (n2 [a0, a1, a2, a3, a4, a5, a6, a7, a8, a9, a10, a11, a12] 4) = D at *
        exact iff_of_true (by omega) trivial
      · rfl
  · rw [push_no _ _ hp hx, if_neg (fun h => hx (by have := h.1; rw [g_last] at this; exact this))]
/-- The year's digits of a GeneralizedTime. -/
theorem wF_push24 (F : List Int) (x : Int) (h4 : F.length < 4) (hF : ∀ i, i < F.length → stepAt F i) (hY : ∀ i, i < F.length → yearAt F i) :
    wPush (wF 24 F) x = if stepAt (F ++ [x]) F.length ∧ yearAt (F ++ [x]) F.length then (wF 24 (F ++ [x]), true) else (WS.no, false) := by
  by_cases hx : isD x
  · have hd : ∀ i, i < F.length → isD (g F i) := fun i hi => (hF i hi).1
    match F, h4, hF, hd, hY with
    | [], _, hF, hd, hY =>
      have q1 : wF 24 [] = ⟨2, 4, 0, 0, 0⟩ := by simp [wF]
      have q2 : wF 24 [x] = ⟨2, 3, x - 48, 0, 0⟩ := by simp [wF, g]
      have hs : (stepAt [x] 0 ∧ yearAt [x] 0) ↔ 50 ≤ x := ⟨fun h => h.2.1 rfl, fun h => ⟨(stepAt_iff [x] 0 hx True ⟨fun _ => trivial, fun _ => by simp⟩).2 trivial, fun _ => h, fun e => absurd e (by decide)⟩⟩
      show wPush (wF 24 []) x = if stepAt [x] 0 ∧ yearAt [x] 0 then (wF 24 [x], true) else (WS.no, false)
      rw [q1, q2]
      refine push_mk ⟨2, 4, 0, 0, 0⟩ x _ (by simp) (by simp) hx _ (Iff.trans ?_ hs.symm) (fun hc => ?_)
      · show ((0 * 10 + (x - 48)) * 1000 ≤ 9999 ∧ 2050 < (0 * 10 + (x - 48)) * 1000 + 1000) ↔ _
        unfold isD at hx
        omega
      · show (⟨2, 3, 0 * 10 + (x - 48), _, _⟩ : WS) = ⟨2, 3, x - 48, _, _⟩
        rw [Int.zero_mul, Int.zero_add]
    | [a], _, hF, hd, hY =>
      have q1 : wF 24 [a] = ⟨2, 3, a - 48, 0, 0⟩ := by simp [wF, g]
      have q2 : wF 24 [a, x] = ⟨2, 2, 10 * (a - 48) + (x - 48), 0, 0⟩ := by simp [wF, n2, g]
      have hs : (stepAt [a, x] 1 ∧ yearAt [a, x] 1) ↔ True := ⟨fun _ => trivial, fun h => ⟨(stepAt_iff [a, x] 1 hx True ⟨fun _ => trivial, fun _ => by simp⟩).2 trivial, fun e => absurd e (by decide), fun e => absurd e (by decide)⟩⟩
      have h0 : 50 ≤ a := (hY 0 (by simp)).1 rfl
      have h9 : isD a := hd 0 (by simp)
      show wPush (wF 24 [a]) x = if stepAt [a, x] 1 ∧ yearAt [a, x] 1 then (wF 24 [a, x], true) else (WS.no, false)
      rw [q1, q2]
      refine push_mk ⟨2, 3, a - 48, 0, 0⟩ x _ (by simp) (by simp) hx _ (Iff.trans ?_ hs.symm) (fun hc => ?_)
      · show (((a - 48) * 10 + (x - 48)) * 100 ≤ 9999 ∧ 2050 < ((a - 48) * 10 + (x - 48)) * 100 + 100) ↔ _
        unfold isD at hx h9
        exact iff_of_true (by omega) trivial
      · show (⟨2, 2, (a - 48) * 10 + (x - 48), _, _⟩ : WS) = ⟨2, 2, 10 * (a - 48) + (x - 48), _, _⟩
        rw [Int.mul_comm]
    | [a, b], _, hF, hd, hY =>
      have q1 : wF 24 [a, b] = ⟨2, 2, 10 * (a - 48) + (b - 48), 0, 0⟩ := by simp [wF, n2, g]
      have q2 : wF 24 [a, b, x] = ⟨2, 1, (10 * (a - 48) + (b - 48)) * 10 + (x - 48), 0, 0⟩ := by simp [wF, n2, g]
      have h0 : 50 ≤ a := (hY 0 (by simp)).1 rfl
      have h9 : isD a := hd 0 (by simp)
      have h8 : isD b := hd 1 (by simp)
      have hs : (stepAt [a, b, x] 2 ∧ yearAt [a, b, x] 2) ↔ (50 < a ∨ 48 < b ∨ 53 ≤ x) := ⟨fun h => h.2.2 rfl, fun h => ⟨(stepAt_iff [a, b, x] 2 hx True ⟨fun _ => trivial, fun _ => by simp⟩).2 trivial, fun e => absurd e (by decide), fun _ => h⟩⟩
      show wPush (wF 24 [a, b]) x = if stepAt [a, b, x] 2 ∧ yearAt [a, b, x] 2 then (wF 24 [a, b, x], true) else (WS.no, false)
      rw [q1, q2]
      refine push_mk ⟨2, 2, 10 * (a - 48) + (b - 48), 0, 0⟩ x _ (by simp) (by simp) hx _ (Iff.trans ?_ hs.symm) (fun hc => rfl)
      show (((10 * (a - 48) + (b - 48)) * 10 + (x - 48)) * 10 ≤ 9999 ∧ 2050 < ((10 * (a - 48) + (b - 48)) * 10 + (x - 48)) * 10 + 10) ↔ _
      unfold isD at hx h9 h8
      omega
    | [a, b, c], _, hF, hd, hY =>
      have q1 : wF 24 [a, b, c] = ⟨2, 1, (10 * (a - 48) + (b - 48)) * 10 + (c - 48), 0, 0⟩ := by simp [wF, n2, g]
      have q2 : wF 24 [a, b, c, x] = ⟨3, 2, 0, 100 * (10 * (a - 48) + (b - 48)) + (10 * (c - 48) + (x - 48)), 0⟩ := by simp [wF, yr, n2, g]
      have h0 : 50 ≤ a := (hY 0 (by simp)).1 rfl
      have h2 : 50 < a ∨ 48 < b ∨ 53 ≤ c := (hY 2 (by simp)).2 rfl
      have h9 : isD a := hd 0 (by simp)
      have h8 : isD b := hd 1 (by simp)
      have h7 : isD c := hd 2 (by simp)
      have hs : (stepAt [a, b, c, x] 3 ∧ yearAt [a, b, c, x] 3) ↔ True := ⟨fun _ => trivial, fun h => ⟨(stepAt_iff [a, b, c, x] 3 hx True ⟨fun _ => trivial, fun _ => by simp⟩).2 trivial, fun e => absurd e (by decide), fun e => absurd e (by decide)⟩⟩
      show wPush (wF 24 [a, b, c]) x = if stepAt [a, b, c, x] 3 ∧ yearAt [a, b, c, x] 3 then (wF 24 [a, b, c, x], true) else (WS.no, false)
      rw [q1, q2]
      refine push_mk ⟨2, 1, (10 * (a - 48) + (b - 48)) * 10 + (c - 48), 0, 0⟩ x _ (by simp) (by simp) hx _ (Iff.trans ?_ hs.symm) (fun hc => ?_)
      · show ((((10 * (a - 48) + (b - 48)) * 10 + (c - 48)) * 10 + (x - 48)) * 1 ≤ 9999 ∧ 2050 < (((10 * (a - 48) + (b - 48)) * 10 + (c - 48)) * 10 + (x - 48)) * 1 + 1) ↔ _
        unfold isD at hx h9 h8 h7
        exact iff_of_true (by omega) trivial
      · show (⟨3, 2, 0, ((10 * (a - 48) + (b - 48)) * 10 + (c - 48)) * 10 + (x - 48), 0⟩ : WS) = _
        congr 1
        omega
  · rw [push_no _ _ (by unfold wF; split <;> simp; omega) hx, if_neg (fun h => hx (by have := h.1.1; rw [g_last] at this; exact this))]
/-- The year's digits of an UTCTime. -/
theorem wF_push23a (x : Int) : wPush (wF 23 (cent 0)) x = if stepAt (cent x ++ [x]) 2 then (wF 23 (cent x ++ [x]), true) else (WS.no, false) := by
  have q1 : wF 23 (cent 0) = ⟨1, 2, 0, 0, 0⟩ := by simp [wF, cent]
  have q2 : wF 23 (cent x ++ [x]) = ⟨1, 1, x - 48, 0, 0⟩ := by unfold wF cent; split <;> simp [g]
  rw [q1, q2]
  by_cases hx : isD x
  · have hg : g (cent x ++ [x]) 2 = x := by unfold cent; split <;> simp [g]
    have hs : stepAt (cent x ++ [x]) 2 ↔ True := stepAt_iff (cent x ++ [x]) 2 (by rw [hg]; exact hx) True ⟨fun _ => trivial, fun _ => by simp⟩
    refine push_mk ⟨1, 2, 0, 0, 0⟩ x _ (by simp) (by simp) hx _ (Iff.trans ?_ hs.symm) (fun hc => ?_)
    · show ((0 * 10 + (x - 48)) * 10 ≤ 99 ∧ 0 < (0 * 10 + (x - 48)) * 10 + 10) ↔ _
      unfold isD at hx
      exact iff_of_true (by omega) trivial
    · show (⟨1, 1, 0 * 10 + (x - 48), _, _⟩ : WS) = ⟨1, 1, x - 48, _, _⟩
      rw [Int.zero_mul, Int.zero_add]
  · have hg : g (cent x ++ [x]) 2 = x := by unfold cent; split <;> simp [g]
    rw [push_no _ _ (by simp) hx, if_neg (fun h => hx (by have := h.1; rw [hg] at this; exact this))]
theorem wF_push23b (a x : Int) (ha : isD a) : wPush (wF 23 (cent a ++ [a])) x = if stepAt (cent a ++ [a, x]) 3 then (wF 23 (cent a ++ [a, x]), true) else (WS.no, false) := by
  have q1 : wF 23 (cent a ++ [a]) = ⟨1, 1, a - 48, 0, 0⟩ := by unfold wF cent; split <;> simp [g]
  have q2 : wF 23 (cent a ++ [a, x]) = ⟨3, 2, 0, if a < 53 then 2000 + (10 * (a - 48) + (x - 48)) else 1900 + (10 * (a - 48) + (x - 48)), 0⟩ := by unfold wF cent; split <;> simp [g, yr, n2]
  rw [q1, q2]
  by_cases hx : isD x
  · have hg : g (cent a ++ [a, x]) 3 = x := by unfold cent; split <;> simp [g]
    have hs : stepAt (cent a ++ [a, x]) 3 ↔ True := stepAt_iff (cent a ++ [a, x]) 3 (by rw [hg]; exact hx) True ⟨fun _ => trivial, fun _ => by simp⟩
    refine push_mk ⟨1, 1, a - 48, 0, 0⟩ x _ (by simp) (by simp) hx _ (Iff.trans ?_ hs.symm) (fun hc => ?_)
    · show (((a - 48) * 10 + (x - 48)) * 1 ≤ 99 ∧ 0 < ((a - 48) * 10 + (x - 48)) * 1 + 1) ↔ _
      unfold isD at hx ha
      exact iff_of_true (by omega) trivial
    · show (⟨3, 2, 0, wYear ((a - 48) * 10 + (x - 48)), 0⟩ : WS) = _
      unfold isD at hx ha
      congr 1
      unfold wYear
      split <;> split <;> omega
  · have hg : g (cent a ++ [a, x]) 3 = x := by unfold cent; split <;> simp [g]
    rw [push_no _ _ (by simp) hx, if_neg (fun h => hx (by have := h.1; rw [hg] at this; exact this))]
theorem wF_zone (tag : Int) (F : List Int) (h : F.length = 14) (x : Int) : wPush (wF tag F) x = if x = 90 then (wF tag (F ++ [x]), true) else (WS.no, false) := by
  have q1 : wF tag F = ⟨8, 0, 0, yr F, n2 F 4⟩ := by unfold wF; simp [h]
  have q2 : wF tag (F ++ [x]) = ⟨0, 0, 0, yr F, n2 F 4⟩ := by unfold wF; rw [yr_snoc F x (by omega), n2_snoc F x (by omega)]; simp [h]
  rw [q1, q2]
  unfold wPush
  by_cases hx : x = 90
  · rw [if_pos ⟨rfl, hx⟩, if_pos hx]
  · rw [if_neg (fun h => hx h.2), if_neg hx, if_pos (.inl (show (0 : Int) < 1 by decide))]
theorem wF_end (tag : Int) (F : List Int) (h : F.length = 15) (x : Int) : wPush (wF tag F) x = (WS.no, false) := by
  have q1 : wF tag F = ⟨0, 0, 0, yr F, n2 F 4⟩ := by unfold wF; simp [h]
  rw [q1]
  unfold wPush
  rw [if_neg (fun h => absurd (show (0 : Int) = 8 from h.1) (by decide)), if_pos (.inl (show (0 : Int) < 1 by decide))]
/-- Each byte's step tells just whether a right content can begin so. -/
theorem w_push {tag n : Int} {l : List Int} (hc : canP tag n l) (x : Int) :
    wPush (wSt tag l) x = if canP tag n (l ++ [x]) then (wSt tag (l ++ [x]), true) else (WS.no, false) := by
  have ho := typ_off hc.1
  have hL := fullP_length tag l
  have hcl : (l.length : Int) < n → (canP tag n (l ++ [x]) ↔ stepC tag n (l ++ [x]) l.length) := fun h => by
    refine ⟨fun hh => ((okC_snoc ..).1 hh.2.2).2, fun hh => ⟨hc.1, by rw [List.length_append, List.length_singleton]; omega, (okC_snoc ..).2 ⟨hc.2.2, hh⟩⟩⟩
  have hgl : g (l ++ [x]) l.length = x := g_last l x
  rcases Int.lt_or_le (l.length : Int) n with hn | hn
  · have hcl := hcl hn
    rcases Int.lt_or_le (l.length : Int) (n - 1) with h1 | h1
    · have hst : stepC tag n (l ++ [x]) l.length ↔ stepAt (fullP tag (l ++ [x])) (l.length + offT tag) ∧ (tag = 24 → yearAt (l ++ [x]) l.length) := by
        unfold stepC; exact ⟨fun h => h.2 (by omega), fun h => ⟨fun e => by omega, fun _ => h⟩⟩
      have hF := full_ok hc hn
      have hYr : tag = 24 → ∀ i, i < l.length → yearAt l i := fun ht i hi => ((hc.2.2 i hi).2 (by omega)).2 ht
      by_cases h4 : 4 ≤ (fullP tag l).length
      · have h1l : 1 ≤ l.length := by
          rw [hL] at h4; unfold offT at h4
          split at h4 <;> omega
        have hsn := fullP_snoc tag x h1l
        have hp := wF_push4 tag (fullP tag l) x h4 (by omega) hF
        have hy : stepC tag n (l ++ [x]) l.length ↔ stepAt (fullP tag l ++ [x]) (fullP tag l).length := by
          rw [hst, hsn, hL]
          refine ⟨fun h => h.1, fun h => ⟨h, fun ht => ⟨fun e => ?_, fun e => ?_⟩⟩⟩
          all_goals
            rw [hL] at h4; unfold offT at h4
            rw [if_pos ht] at h4
            omega
        unfold wSt
        rw [hsn, hp]
        exact (if_iff (hcl.trans hy) _ _).symm
      · rcases hc.1 with ⟨rfl, rfl⟩ | ⟨rfl, rfl⟩
        · have hL2 : (fullP 23 l).length = l.length + 2 := hL
          have h23 : ∀ m : List Int, fullP 23 m = cent (g m 0) ++ m := fun m => by unfold fullP; rw [if_neg (by decide)]
          have hst2 : canP 23 13 (l ++ [x]) ↔ stepAt (fullP 23 (l ++ [x])) (l.length + 2) := hcl.trans (hst.trans ⟨fun h => h.1, fun h => ⟨h, fun e => absurd e (by decide)⟩⟩)
          unfold wSt
          rw [show (if canP 23 13 (l ++ [x]) then (wF 23 (fullP 23 (l ++ [x])), true) else (WS.no, false)) = if stepAt (fullP 23 (l ++ [x])) (l.length + 2) then (wF 23 (fullP 23 (l ++ [x])), true) else (WS.no, false) from if_iff hst2 _ _]
          rw [h23, h23]
          match l, h4, hF with
          | [], _, _ => exact wF_push23a x
          | [a], _, hF => exact wF_push23b a x (by
              have := (hF 2 (by rw [h23]; unfold cent; split <;> simp)).1
              rw [h23] at this
              unfold cent at this
              revert this
              show isD (g ((if a < 53 then [50, 48] else [49, 57]) ++ [a]) 2) → isD a
              split <;> exact fun h => h)
          | a :: b :: r, h4, _ => exact absurd (show 4 ≤ (fullP 23 (a :: b :: r)).length by rw [fullP_length]; simp [offT]) h4
        · have h24 : ∀ m : List Int, fullP 24 m = m := fun m => by unfold fullP; rw [if_pos rfl]
          have hp := wF_push24 l x (by rw [h24] at h4; omega) (by rw [h24] at hF; exact hF) (hYr rfl)
          unfold wSt
          rw [h24, h24, hp]
          refine if_iff ?_ _ _
          rw [hcl, hst, h24]
          exact ⟨fun h => ⟨h.1, fun _ => h.2⟩, fun h => ⟨h.1, h.2 rfl⟩⟩
    · have h14 : (fullP tag l).length = 14 := by omega
      have h1l : 1 ≤ l.length := by have := hc.1; unfold typ at this; omega
      unfold wSt
      rw [wF_zone tag _ h14, fullP_snoc tag x h1l]
      refine if_iff ?_ _ _
      rw [hcl]
      unfold stepC
      rw [hgl]
      exact ⟨fun h => ⟨fun _ => h, fun e => absurd (show (l.length : Int) = n - 1 by omega) e⟩, fun h => h.1 (by omega)⟩
  · have h15 : (fullP tag l).length = 15 := by have := hc.2.1; omega
    unfold wSt
    rw [wF_end tag _ h15, if_neg (fun h => by have := h.2.1; rw [List.length_append, List.length_singleton] at this; omega)]
theorem w_start (tag n : Int) : wStart tag n = if typ tag n then (wSt tag [], true) else (WS.no, false) := by
  unfold wStart
  by_cases h1 : tag = 23 ∧ n = 13
  · rw [if_pos h1, if_pos (.inl h1)]
    obtain ⟨rfl, rfl⟩ := h1
    have : wSt 23 [] = ⟨1, 2, 0, 0, 0⟩ := by simp [wSt, wF, fullP, cent, g]
    rw [this]
  · rw [if_neg h1]
    by_cases h2 : tag = 24 ∧ n = 15
    · rw [if_pos h2, if_pos (.inr h2)]
      obtain ⟨rfl, rfl⟩ := h2
      have : wSt 24 [] = ⟨2, 4, 0, 0, 0⟩ := by simp [wSt, wF, fullP]
      rw [this]
    · rw [if_neg h2, if_neg (fun h => h.elim h1 h2)]
end Go.Proofs.YthjncfpgmfbehaaDoor
