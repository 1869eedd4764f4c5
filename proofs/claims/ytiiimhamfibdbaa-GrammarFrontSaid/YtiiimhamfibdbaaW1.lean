/- What when's isLeap and Days give: the landed code's contracts. Of every year and month. -/
import Derived.Test.YtiiimhamfibdbaaW3
import Derived.Test.YtiiimhamfibdbaaP0
import Derived.Test.YtiiimhamfibdbaaB0
import Derived.Handy
namespace Go.Proofs.Ytiiimhamfibdbaa
open Go.RowKit Go.PlainAid
set_option linter.unusedVariables false
set_option maxHeartbeats 1600000 in
theorem isLeap_any (y : Int) (hy : 0 ≤ y ∧ y ≤ 9999) (w : World) :
  Calls Try.prog 98 #[.int .i64 y] w fun e w' => e = .returned (.bool (leapI y)) ∧ w' = w := by
 have t4 : y.tmod 4 = y % 4 := Int.tmod_eq_emod_of_nonneg (by omega)
 have t1 : y.tmod 100 = y % 100 := Int.tmod_eq_emod_of_nonneg (by omega)
 have t3 : y.tmod 400 = y % 400 := Int.tmod_eq_emod_of_nonneg (by omega)
 have HF : Hid (leapI y = decide (y % 400 = 0 ∨ (y % 4 = 0 ∧ y % 100 ≠ 0))) := Lib.hid rfl
 generalize leapI y = R at *
 by_cases l2 : y % 4 = 0
 ·by_cases l1 : y % 100 = 0
  ·by_cases l4 : y % 400 = 0
   ·have HR : Hid (true = R) := Lib.hid (by rw [HF.out, decide_eq_true (.inl l4)])
    have lb1 : (y % 100 != 0) = false := by simpa using l1
    clear HF
    go_enter Try.func98, Try.ntmps98
    go_wp2
    go_returns
    exact ⟨rets1 (congrArg Value.bool HR.out), rfl⟩
   ·have HR : Hid (false = R) := Lib.hid (by rw [HF.out, decide_eq_false (by omega)])
    have lb1 : (y % 100 != 0) = false := by simpa using l1
    have lb4 : (y % 400 == 0) = false := by simpa using l4
    clear HF l4
    go_enter Try.func98, Try.ntmps98
    go_wp2
    go_returns
    exact ⟨rets1 (congrArg Value.bool HR.out), rfl⟩
  ·have HR : Hid (true = R) := Lib.hid (by rw [HF.out, decide_eq_true (.inr ⟨l2, l1⟩)])
   have lb1 : (y % 100 != 0) = true := by simpa using l1
   clear HF l1
   go_enter Try.func98, Try.ntmps98
   go_wp2
   go_returns
   exact ⟨rets1 (congrArg Value.bool HR.out), rfl⟩
 ·have HR : Hid (false = R) := Lib.hid (by rw [HF.out, decide_eq_false (by omega)])
  have lb2 : (y % 4 == 0) = false := by simpa using l2
  clear HF l2
  go_enter Try.func98, Try.ntmps98
  go_wp2
  go_returns
  exact ⟨rets1 (congrArg Value.bool HR.out), rfl⟩
set_option maxHeartbeats 4000000 in
theorem whenDays_q (y m : Int) (hy : -9223372036854775808 ≤ y ∧ y ≤ 9223372036854775807) (w : World) :
  Calls Try.prog 97 #[.int .i64 y, .int .i64 m] w fun e w' => e = .returned (.int .i64 (dysI y m)) ∧ w' = w := by
 have HF : Hid (dysI y m = _) := Lib.hid (by unfold dysI; rfl)
 generalize dysI y m = R at *
 by_cases h0 : y < 0
 ·have HR : Hid (0 = R) := Lib.hid (by rw [HF.out, if_pos (.inl h0)])
  clear HF
  go_enter Try.func97, Try.ntmps97
  go_wp2
  go_returns
  exact ⟨rets1 (congrArg (Value.int .i64) HR.out), rfl⟩
 ·by_cases h1 : 9999 < y
  ·have HR : Hid (0 = R) := Lib.hid (by rw [HF.out, if_pos (.inr h1)])
   clear HF
   go_enter Try.func97, Try.ntmps97
   go_wp2
   go_returns
   exact ⟨rets1 (congrArg (Value.int .i64) HR.out), rfl⟩
  ·have HM : Hid (R = if m = 1 ∨ m = 3 ∨ m = 5 ∨ m = 7 ∨ m = 8 ∨ m = 10 ∨ m = 12 then 31 else if m = 4 ∨ m = 6 ∨ m = 9 ∨ m = 11 then 30 else if m = 2 then (if y % 400 = 0 ∨ (y % 4 = 0 ∧ y % 100 ≠ 0) then 29 else 28) else 0) := Lib.hid (by rw [HF.out, if_neg (by omega)])
   clear HF
   by_cases hm : 1 ≤ m ∧ m ≤ 12
   ·obtain ⟨m0, m1⟩ := hm
    rcases (by omega : m = 2 ∨ m = 1 ∨ m = 3 ∨ m = 4 ∨ m = 5 ∨ m = 6 ∨ m = 7 ∨ m = 8 ∨ m = 9 ∨ m = 10 ∨ m = 11 ∨ m = 12) with rfl | rfl | rfl | rfl | rfl | rfl | rfl | rfl | rfl | rfl | rfl | rfl
    ·have HL := Lib.hid (isLeap_any y (by omega))
     have HR : Hid ((if leapI y = true then (29 : Int) else 28) = R) := Lib.hid (by
      rw [HM.out, if_neg (show ¬ ((2 : Int) = 1 ∨ (2 : Int) = 3 ∨ (2 : Int) = 5 ∨ (2 : Int) = 7 ∨ (2 : Int) = 8 ∨ (2 : Int) = 10 ∨ (2 : Int) = 12) by decide), if_neg (show ¬ ((2 : Int) = 4 ∨ (2 : Int) = 6 ∨ (2 : Int) = 9 ∨ (2 : Int) = 11) by decide), if_pos (show (2 : Int) = 2 from rfl)]
      unfold leapI
      by_cases hh : y % 400 = 0 ∨ (y % 4 = 0 ∧ y % 100 ≠ 0)
      ·rw [if_pos hh, if_pos (decide_eq_true hh)]
      ·rw [if_neg hh, if_neg (by rw [decide_eq_true_eq]; exact hh)])
     clear HM
     generalize leapI y = lp at *
     cases lp
     all_goals
      go_enter Try.func97, Try.ntmps97
      go_wp2_with fail
      refine (HL.out _).mono ?_
      rintro e w1 ⟨rfl, rfl⟩
      go_wp2
      go_returns
      exact ⟨rets1 (congrArg (Value.int .i64) HR.out), rfl⟩
    all_goals
     have HR := HM.out
     simp at HR
     subst HR
     clear HM
     go_enter Try.func97, Try.ntmps97
     go_wp2
     go_returns
     exact ⟨rfl, rfl⟩
   ·have HR : Hid (0 = R) := Lib.hid (by rw [HM.out, if_neg (by omega), if_neg (by omega), if_neg (by omega)])
    have c1 : (m == 1) = false := by simp; omega
    have c2 : (m == 2) = false := by simp; omega
    have c3 : (m == 3) = false := by simp; omega
    have c4 : (m == 4) = false := by simp; omega
    have c5 : (m == 5) = false := by simp; omega
    have c6 : (m == 6) = false := by simp; omega
    have c7 : (m == 7) = false := by simp; omega
    have c8 : (m == 8) = false := by simp; omega
    have c9 : (m == 9) = false := by simp; omega
    have c10 : (m == 10) = false := by simp; omega
    have c11 : (m == 11) = false := by simp; omega
    have c12 : (m == 12) = false := by simp; omega
    clear HM hm
    go_enter Try.func97, Try.ntmps97
    go_wp2
    go_returns
    exact ⟨rets1 (congrArg (Value.int .i64) HR.out), rfl⟩
end Go.Proofs.Ytiiimhamfibdbaa
/- What a time's content says so far, in plain words: the part that the next byte is of, how many digits of it are left, its number so far, the year and the month. It is shown that each byte's step tells just whether a right content can begin so. These hold of lists of numbers alone, under no condition on the program. -/
namespace Go.Proofs.Ytiiimhamfibdbaa
open Go.PlainAid
set_option linter.unusedVariables false
structure WS where
 p : Int
 l : Int
 v : Int
 y : Int
 m : Int
def WS.no : WS := ⟨0, 0, 0, 0, 0⟩
def wLo (p : Int) : Int := if p = 2 then 2050 else if p = 3 ∨ p = 4 then 1 else 0
def wHi (p y m : Int) : Int := if p = 1 then 99 else if p = 2 then 9999 else if p = 3 then 12 else if p = 4 then dysI y m else if p = 5 then 23 else 59
def ten (l : Int) : Int := if l = 3 then 1000 else if l = 2 then 100 else if l = 1 then 10 else 1
def wCan (p l v y m : Int) : Bool := decide (v * ten l ≤ wHi p y m ∧ wLo p < v * ten l + ten l)
def wYear (v : Int) : Int := if v < 50 then 2000 + v else 1900 + v
def wNext (p v y m : Int) : WS :=
 if p = 1 then ⟨3, 2, 0, wYear v, m⟩ else if p = 2 then ⟨3, 2, 0, v, m⟩ else if p = 3 then ⟨4, 2, 0, y, v⟩ else ⟨p + 1, if p + 1 = 8 then 0 else 2, 0, y, m⟩
def wPush (s : WS) (b : Int) : WS × Bool :=
 if s.p = 8 ∧ b = 90 then (⟨0, s.l, s.v, s.y, s.m⟩, true)
 else if s.l < 1 ∨ b < 48 ∨ 57 < b then (WS.no, false)
 else if wCan s.p (s.l - 1) (s.v * 10 + (b - 48)) s.y s.m = true then
  (if s.l - 1 = 0 then wNext s.p (s.v * 10 + (b - 48)) s.y s.m else ⟨s.p, s.l - 1, s.v * 10 + (b - 48), s.y, s.m⟩, true)
 else (WS.no, false)
def wStart (tag n : Int) : WS × Bool := if tag = 23 ∧ n = 13 then (⟨1, 2, 0, 0, 0⟩, true) else if tag = 24 ∧ n = 15 then (⟨2, 4, 0, 0, 0⟩, true) else (WS.no, false)
def wF (tag : Int) (F : List Int) : WS :=
 if 4 ≤ F.length then ⟨if F.length = 15 then 0 else (F.length : Int) / 2 + 1, if F.length < 14 then 2 - (F.length : Int) % 2 else 0, if F.length < 14 ∧ F.length % 2 = 1 then g F (F.length - 1) - 48 else 0, yr F, if 6 ≤ F.length then n2 F 4 else 0⟩
 else if tag = 24 then ⟨2, 4 - (F.length : Int), if F.length = 0 then 0 else if F.length = 1 then g F 0 - 48 else if F.length = 2 then n2 F 0 else n2 F 0 * 10 + (g F 2 - 48), 0, 0⟩
 else ⟨1, 4 - (F.length : Int), if F.length ≤ 2 then 0 else g F 2 - 48, 0, 0⟩
def wSt (tag : Int) (l : List Int) : WS := wF tag (fullP tag l)
theorem if_iff {α : Type} {a b : Prop} [Decidable a] [Decidable b] (h : a ↔ b) (x y : α) : (if a then x else y) = if b then x else y := by
 by_cases ha : a
 ·rw [if_pos ha, if_pos (h.1 ha)]
 ·rw [if_neg ha, if_neg (fun hb => ha (h.2 hb))]
theorem push_no (s : WS) (b : Int) (hp : s.p ≠ 8) (hb : ¬ isD b) : wPush s b = (WS.no, false) := by
 unfold isD at hb
 unfold wPush
 rw [if_neg (fun h => hp h.1), if_pos (by omega)]
theorem push_mk (s : WS) (b : Int) (C : Prop) [Decidable C] (hp : s.p ≠ 8) (hl : 1 ≤ s.l) (hb : isD b) (S : WS)
  (hC : ((s.v * 10 + (b - 48)) * ten (s.l - 1) ≤ wHi s.p s.y s.m ∧ wLo s.p < (s.v * 10 + (b - 48)) * ten (s.l - 1) + ten (s.l - 1)) ↔ C)
  (hS : C → (if s.l - 1 = 0 then wNext s.p (s.v * 10 + (b - 48)) s.y s.m else ⟨s.p, s.l - 1, s.v * 10 + (b - 48), s.y, s.m⟩) = S) :
  wPush s b = if C then (S, true) else (WS.no, false) := by
 unfold isD at hb
 unfold wPush
 have e : wCan s.p (s.l - 1) (s.v * 10 + (b - 48)) s.y s.m = true ↔ C := by unfold wCan; rw [decide_eq_true_eq]; exact hC
 rw [if_neg (fun h => hp h.1), if_neg (by omega)]
 by_cases h : C
 ·rw [if_pos (e.2 h), if_pos h, hS h]
 ·rw [if_neg (fun hh => h (e.1 hh)), if_neg h]
theorem stepAt_iff (l : List Int) (i : Nat) (hd : isD (g l i)) (C : Prop) (h : ((i = 4 → g l 4 ≤ 49) ∧ (i = 5 → 1 ≤ n2 l 4 ∧ n2 l 4 ≤ 12) ∧ (i = 6 → g l 6 - 48 ≤ dysI (yr l) (n2 l 4) / 10) ∧ (i = 7 → 1 ≤ n2 l 6 ∧ n2 l 6 ≤ dysI (yr l) (n2 l 4))
  ∧ (i = 8 → g l 8 ≤ 50) ∧ (i = 9 → n2 l 8 < 24) ∧ (i = 10 → g l 10 ≤ 53) ∧ (i = 12 → g l 12 ≤ 53)) ↔ C) : stepAt l i ↔ C := by
 unfold stepAt
 exact ⟨fun hh => h.1 hh.2, fun c => ⟨hd, h.2 c⟩⟩
set_option maxHeartbeats 4000000 in
theorem wF_push4 (tag : Int) (F : List Int) (x : Int) (h4 : 4 ≤ F.length) (h14 : F.length < 14) (hF : ∀ i, i < F.length → stepAt F i) :
  wPush (wF tag F) x = if stepAt (F ++ [x]) F.length then (wF tag (F ++ [x]), true) else (WS.no, false) := by
 have hp : (wF tag F).p ≠ 8 := by
  unfold wF; rw [if_pos h4]; show (if F.length = 15 then (0 : Int) else (F.length : Int) / 2 + 1) ≠ 8
  rw [if_neg (by omega)]; omega
 by_cases hx : isD x
 ·have hl : 1 ≤ (wF tag F).l := by
   unfold wF; rw [if_pos h4]; show 1 ≤ if F.length < 14 then 2 - (F.length : Int) % 2 else (0 : Int)
   rw [if_pos h14]; omega
  have hd : ∀ i, i < F.length → isD (g F i) := fun i hi => (hF i hi).1
  have hD := fun h : 6 ≤ F.length => dys_least (y := yr F) (m := n2 F 4) (yr_range (fun i hi => hd i (by omega))).1 (yr_range (fun i hi => hd i (by omega))).2 (((hF 5 (by omega)).2.2.1 rfl).1) (((hF 5 (by omega)).2.2.1 rfl).2)
  have hD2 := dys_range (yr F) (n2 F 4)
  match F, h4, h14, hF, hd, hp, hl, hD, hD2 with
  |[a0, a1, a2, a3], _, _, hF, hd, hp, hl, hD, hD2 =>
   have hy : yr [a0, a1, a2, a3, x] = yr [a0, a1, a2, a3] := rfl
   have q1 : wF tag [a0, a1, a2, a3] = ⟨3, 2, 0, yr [a0, a1, a2, a3], 0⟩ := by simp [wF]
   have q2 : wF tag [a0, a1, a2, a3, x] = ⟨3, 1, x - 48, yr [a0, a1, a2, a3, x], 0⟩ := by simp [wF, g]
   rw [show [a0, a1, a2, a3] ++ [x] = [a0, a1, a2, a3, x] from rfl, show [a0, a1, a2, a3].length = 4 from rfl, q1, q2]
   have hs : stepAt [a0, a1, a2, a3, x] 4 ↔ x ≤ 49 := stepAt_iff [a0, a1, a2, a3, x] 4 hx _ ⟨fun h => h.1 rfl, fun h => ⟨fun _ => h, fun e => absurd e (by decide), fun e => absurd e (by decide), fun e => absurd e (by decide), fun e => absurd e (by decide), fun e => absurd e (by decide), fun e => absurd e (by decide), fun e => absurd e (by decide)⟩⟩
   refine push_mk ⟨3, 2, 0, yr [a0, a1, a2, a3], 0⟩ x _ (by simp) (by simp) hx _ (Iff.trans ?_ hs.symm) (fun hc => ?_)
   ·show ((0 * 10 + (x - 48)) * 10 ≤ 12 ∧ 1 < (0 * 10 + (x - 48)) * 10 + 10) ↔ _
    unfold isD at hx
    omega
   ·show (⟨3, 1, 0 * 10 + (x - 48), _, _⟩ : WS) = ⟨3, 1, x - 48, _, _⟩
    rw [Int.zero_mul, Int.zero_add]; rfl
  |[a0, a1, a2, a3, a4], _, _, hF, hd, hp, hl, hD, hD2 =>
   have hy : yr [a0, a1, a2, a3, a4, x] = yr [a0, a1, a2, a3, a4] := rfl
   have q1 : wF tag [a0, a1, a2, a3, a4] = ⟨3, 1, a4 - 48, yr [a0, a1, a2, a3, a4], 0⟩ := by simp [wF, g]
   have q2 : wF tag [a0, a1, a2, a3, a4, x] = ⟨4, 2, 0, yr [a0, a1, a2, a3, a4, x], n2 [a0, a1, a2, a3, a4, x] 4⟩ := by simp [wF]
   rw [show [a0, a1, a2, a3, a4] ++ [x] = [a0, a1, a2, a3, a4, x] from rfl, show [a0, a1, a2, a3, a4].length = 5 from rfl, q1, q2]
   have e4 := (hF 4 (by simp)).2.1 rfl
   have hdl := hd 4 (by simp)
   have hs : stepAt [a0, a1, a2, a3, a4, x] 5 ↔ 1 ≤ 10 * (a4 - 48) + (x - 48) ∧ 10 * (a4 - 48) + (x - 48) ≤ 12 := stepAt_iff [a0, a1, a2, a3, a4, x] 5 hx _ ⟨fun h => h.2.1 rfl, fun h => ⟨fun e => absurd e (by decide), fun _ => h, fun e => absurd e (by decide), fun e => absurd e (by decide), fun e => absurd e (by decide), fun e => absurd e (by decide), fun e => absurd e (by decide), fun e => absurd e (by decide)⟩⟩
   unfold isD at hdl
   have hdl2 : 48 ≤ a4 ∧ a4 ≤ 57 := hdl
   clear hdl
   have e4 : a4 ≤ 49 := e4
   refine push_mk ⟨3, 1, a4 - 48, yr [a0, a1, a2, a3, a4], 0⟩ x _ (by simp) (by simp) hx _ (Iff.trans ?_ hs.symm) (fun hc => ?_)
   ·show (((a4 - 48) * 10 + (x - 48)) * 1 ≤ 12 ∧ 1 < ((a4 - 48) * 10 + (x - 48)) * 1 + 1) ↔ _
    unfold isD at hx
    omega
   ·show (⟨4, 2, 0, _, (a4 - 48) * 10 + (x - 48)⟩ : WS) = ⟨4, 2, 0, _, 10 * (a4 - 48) + (x - 48)⟩
    rw [Int.mul_comm]; rfl
  |[a0, a1, a2, a3, a4, a5], _, _, hF, hd, hp, hl, hD, hD2 =>
   have hy : yr [a0, a1, a2, a3, a4, a5, x] = yr [a0, a1, a2, a3, a4, a5] := rfl
   have q1 : wF tag [a0, a1, a2, a3, a4, a5] = ⟨4, 2, 0, yr [a0, a1, a2, a3, a4, a5], n2 [a0, a1, a2, a3, a4, a5] 4⟩ := by simp [wF]
   have q2 : wF tag [a0, a1, a2, a3, a4, a5, x] = ⟨4, 1, x - 48, yr [a0, a1, a2, a3, a4, a5, x], n2 [a0, a1, a2, a3, a4, a5, x] 4⟩ := by simp [wF, g]
   rw [show [a0, a1, a2, a3, a4, a5] ++ [x] = [a0, a1, a2, a3, a4, a5, x] from rfl, show [a0, a1, a2, a3, a4, a5].length = 6 from rfl, q1, q2]
   have hm : n2 [a0, a1, a2, a3, a4, a5, x] 4 = n2 [a0, a1, a2, a3, a4, a5] 4 := rfl
   have hD := hD (by simp)
   have hs : stepAt [a0, a1, a2, a3, a4, a5, x] 6 ↔ x - 48 ≤ dysI (yr [a0, a1, a2, a3, a4, a5]) (n2 [a0, a1, a2, a3, a4, a5] 4) / 10 := stepAt_iff [a0, a1, a2, a3, a4, a5, x] 6 hx _ ⟨fun h => h.2.2.1 rfl, fun h => ⟨fun e => absurd e (by decide), fun e => absurd e (by decide), fun _ => h, fun e => absurd e (by decide), fun e => absurd e (by decide), fun e => absurd e (by decide), fun e => absurd e (by decide), fun e => absurd e (by decide)⟩⟩
   have hhi : wHi 4 (yr [a0, a1, a2, a3, a4, a5]) (n2 [a0, a1, a2, a3, a4, a5] 4) = dysI (yr [a0, a1, a2, a3, a4, a5]) (n2 [a0, a1, a2, a3, a4, a5] 4) := rfl
   refine push_mk ⟨4, 2, 0, yr [a0, a1, a2, a3, a4, a5], n2 [a0, a1, a2, a3, a4, a5] 4⟩ x _ (by simp) (by simp) hx _ (Iff.trans ?_ hs.symm) (fun hc => ?_)
   ·show ((0 * 10 + (x - 48)) * 10 ≤ dysI (yr [a0, a1, a2, a3, a4, a5]) (n2 [a0, a1, a2, a3, a4, a5] 4) ∧ 1 < (0 * 10 + (x - 48)) * 10 + 10) ↔ _
    unfold isD at hx
    generalize dysI (yr [a0, a1, a2, a3, a4, a5]) (n2 [a0, a1, a2, a3, a4, a5] 4) = D at *
    omega
   ·show (⟨4, 1, 0 * 10 + (x - 48), _, _⟩ : WS) = ⟨4, 1, x - 48, _, _⟩
    rw [Int.zero_mul, Int.zero_add]; rfl
  |[a0, a1, a2, a3, a4, a5, a6], _, _, hF, hd, hp, hl, hD, hD2 =>
   have hy : yr [a0, a1, a2, a3, a4, a5, a6, x] = yr [a0, a1, a2, a3, a4, a5, a6] := rfl
   have q1 : wF tag [a0, a1, a2, a3, a4, a5, a6] = ⟨4, 1, a6 - 48, yr [a0, a1, a2, a3, a4, a5, a6], n2 [a0, a1, a2, a3, a4, a5, a6] 4⟩ := by simp [wF, g]
   have q2 : wF tag [a0, a1, a2, a3, a4, a5, a6, x] = ⟨5, 2, 0, yr [a0, a1, a2, a3, a4, a5, a6, x], n2 [a0, a1, a2, a3, a4, a5, a6, x] 4⟩ := by simp [wF]
   rw [show [a0, a1, a2, a3, a4, a5, a6] ++ [x] = [a0, a1, a2, a3, a4, a5, a6, x] from rfl, show [a0, a1, a2, a3, a4, a5, a6].length = 7 from rfl, q1, q2]
   have e6 := (hF 6 (by simp)).2.2.2.1 rfl
   have hdl := hd 6 (by simp)
   have hm : n2 [a0, a1, a2, a3, a4, a5, a6, x] 4 = n2 [a0, a1, a2, a3, a4, a5, a6] 4 := rfl
   have hD := hD (by simp)
   have hs : stepAt [a0, a1, a2, a3, a4, a5, a6, x] 7 ↔ 1 ≤ 10 * (a6 - 48) + (x - 48) ∧ 10 * (a6 - 48) + (x - 48) ≤ dysI (yr [a0, a1, a2, a3, a4, a5, a6]) (n2 [a0, a1, a2, a3, a4, a5, a6] 4) := stepAt_iff [a0, a1, a2, a3, a4, a5, a6, x] 7 hx _ ⟨fun h => h.2.2.2.1 rfl, fun h => ⟨fun e => absurd e (by decide), fun e => absurd e (by decide), fun e => absurd e (by decide), fun _ => h, fun e => absurd e (by decide), fun e => absurd e (by decide), fun e => absurd e (by decide), fun e => absurd e (by decide)⟩⟩
   unfold isD at hdl
   have hdl2 : 48 ≤ a6 ∧ a6 ≤ 57 := hdl
   clear hdl
   have e6 : a6 - 48 ≤ dysI (yr [a0, a1, a2, a3, a4, a5, a6]) (n2 [a0, a1, a2, a3, a4, a5, a6] 4) / 10 := e6
   have hhi : wHi 4 (yr [a0, a1, a2, a3, a4, a5, a6]) (n2 [a0, a1, a2, a3, a4, a5, a6] 4) = dysI (yr [a0, a1, a2, a3, a4, a5, a6]) (n2 [a0, a1, a2, a3, a4, a5, a6] 4) := rfl
   refine push_mk ⟨4, 1, a6 - 48, yr [a0, a1, a2, a3, a4, a5, a6], n2 [a0, a1, a2, a3, a4, a5, a6] 4⟩ x _ (by simp) (by simp) hx _ (Iff.trans ?_ hs.symm) (fun hc => ?_)
   ·show (((a6 - 48) * 10 + (x - 48)) * 1 ≤ dysI (yr [a0, a1, a2, a3, a4, a5, a6]) (n2 [a0, a1, a2, a3, a4, a5, a6] 4) ∧ 1 < ((a6 - 48) * 10 + (x - 48)) * 1 + 1) ↔ _
    unfold isD at hx
    generalize dysI (yr [a0, a1, a2, a3, a4, a5, a6]) (n2 [a0, a1, a2, a3, a4, a5, a6] 4) = D at *
    omega
   ·rfl
  |[a0, a1, a2, a3, a4, a5, a6, a7], _, _, hF, hd, hp, hl, hD, hD2 =>
   have hy : yr [a0, a1, a2, a3, a4, a5, a6, a7, x] = yr [a0, a1, a2, a3, a4, a5, a6, a7] := rfl
   have q1 : wF tag [a0, a1, a2, a3, a4, a5, a6, a7] = ⟨5, 2, 0, yr [a0, a1, a2, a3, a4, a5, a6, a7], n2 [a0, a1, a2, a3, a4, a5, a6, a7] 4⟩ := by simp [wF]
   have q2 : wF tag [a0, a1, a2, a3, a4, a5, a6, a7, x] = ⟨5, 1, x - 48, yr [a0, a1, a2, a3, a4, a5, a6, a7, x], n2 [a0, a1, a2, a3, a4, a5, a6, a7, x] 4⟩ := by simp [wF, g]
   rw [show [a0, a1, a2, a3, a4, a5, a6, a7] ++ [x] = [a0, a1, a2, a3, a4, a5, a6, a7, x] from rfl, show [a0, a1, a2, a3, a4, a5, a6, a7].length = 8 from rfl, q1, q2]
   have hm : n2 [a0, a1, a2, a3, a4, a5, a6, a7, x] 4 = n2 [a0, a1, a2, a3, a4, a5, a6, a7] 4 := rfl
   have hD := hD (by simp)
   have hs : stepAt [a0, a1, a2, a3, a4, a5, a6, a7, x] 8 ↔ x ≤ 50 := stepAt_iff [a0, a1, a2, a3, a4, a5, a6, a7, x] 8 hx _ ⟨fun h => h.2.2.2.2.1 rfl, fun h => ⟨fun e => absurd e (by decide), fun e => absurd e (by decide), fun e => absurd e (by decide), fun e => absurd e (by decide), fun _ => h, fun e => absurd e (by decide), fun e => absurd e (by decide), fun e => absurd e (by decide)⟩⟩
   have hhi : wHi 4 (yr [a0, a1, a2, a3, a4, a5, a6, a7]) (n2 [a0, a1, a2, a3, a4, a5, a6, a7] 4) = dysI (yr [a0, a1, a2, a3, a4, a5, a6, a7]) (n2 [a0, a1, a2, a3, a4, a5, a6, a7] 4) := rfl
   refine push_mk ⟨5, 2, 0, yr [a0, a1, a2, a3, a4, a5, a6, a7], n2 [a0, a1, a2, a3, a4, a5, a6, a7] 4⟩ x _ (by simp) (by simp) hx _ (Iff.trans ?_ hs.symm) (fun hc => ?_)
   ·show ((0 * 10 + (x - 48)) * 10 ≤ 23 ∧ 0 < (0 * 10 + (x - 48)) * 10 + 10) ↔ _
    unfold isD at hx
    generalize dysI (yr [a0, a1, a2, a3, a4, a5, a6, a7]) (n2 [a0, a1, a2, a3, a4, a5, a6, a7] 4) = D at *
    omega
   ·show (⟨5, 1, 0 * 10 + (x - 48), _, _⟩ : WS) = ⟨5, 1, x - 48, _, _⟩
    rw [Int.zero_mul, Int.zero_add]; rfl
  |[a0, a1, a2, a3, a4, a5, a6, a7, a8], _, _, hF, hd, hp, hl, hD, hD2 =>
   have hy : yr [a0, a1, a2, a3, a4, a5, a6, a7, a8, x] = yr [a0, a1, a2, a3, a4, a5, a6, a7, a8] := rfl
   have q1 : wF tag [a0, a1, a2, a3, a4, a5, a6, a7, a8] = ⟨5, 1, a8 - 48, yr [a0, a1, a2, a3, a4, a5, a6, a7, a8], n2 [a0, a1, a2, a3, a4, a5, a6, a7, a8] 4⟩ := by simp [wF, g]
   have q2 : wF tag [a0, a1, a2, a3, a4, a5, a6, a7, a8, x] = ⟨6, 2, 0, yr [a0, a1, a2, a3, a4, a5, a6, a7, a8, x], n2 [a0, a1, a2, a3, a4, a5, a6, a7, a8, x] 4⟩ := by simp [wF]
   rw [show [a0, a1, a2, a3, a4, a5, a6, a7, a8] ++ [x] = [a0, a1, a2, a3, a4, a5, a6, a7, a8, x] from rfl, show [a0, a1, a2, a3, a4, a5, a6, a7, a8].length = 9 from rfl, q1, q2]
   have e8 := (hF 8 (by simp)).2.2.2.2.2.1 rfl
   have hdl := hd 8 (by simp)
   have hm : n2 [a0, a1, a2, a3, a4, a5, a6, a7, a8, x] 4 = n2 [a0, a1, a2, a3, a4, a5, a6, a7, a8] 4 := rfl
   have hD := hD (by simp)
   have hs : stepAt [a0, a1, a2, a3, a4, a5, a6, a7, a8, x] 9 ↔ 10 * (a8 - 48) + (x - 48) < 24 := stepAt_iff [a0, a1, a2, a3, a4, a5, a6, a7, a8, x] 9 hx _ ⟨fun h => h.2.2.2.2.2.1 rfl, fun h => ⟨fun e => absurd e (by decide), fun e => absurd e (by decide), fun e => absurd e (by decide), fun e => absurd e (by decide), fun e => absurd e (by decide), fun _ => h, fun e => absurd e (by decide), fun e => absurd e (by decide)⟩⟩
   unfold isD at hdl
   have hdl2 : 48 ≤ a8 ∧ a8 ≤ 57 := hdl
   clear hdl
   have e8 : a8 ≤ 50 := e8
   have hhi : wHi 4 (yr [a0, a1, a2, a3, a4, a5, a6, a7, a8]) (n2 [a0, a1, a2, a3, a4, a5, a6, a7, a8] 4) = dysI (yr [a0, a1, a2, a3, a4, a5, a6, a7, a8]) (n2 [a0, a1, a2, a3, a4, a5, a6, a7, a8] 4) := rfl
   refine push_mk ⟨5, 1, a8 - 48, yr [a0, a1, a2, a3, a4, a5, a6, a7, a8], n2 [a0, a1, a2, a3, a4, a5, a6, a7, a8] 4⟩ x _ (by simp) (by simp) hx _ (Iff.trans ?_ hs.symm) (fun hc => ?_)
   ·show (((a8 - 48) * 10 + (x - 48)) * 1 ≤ 23 ∧ 0 < ((a8 - 48) * 10 + (x - 48)) * 1 + 1) ↔ _
    unfold isD at hx
    generalize dysI (yr [a0, a1, a2, a3, a4, a5, a6, a7, a8]) (n2 [a0, a1, a2, a3, a4, a5, a6, a7, a8] 4) = D at *
    omega
   ·rfl
  |[a0, a1, a2, a3, a4, a5, a6, a7, a8, a9], _, _, hF, hd, hp, hl, hD, hD2 =>
   have hy : yr [a0, a1, a2, a3, a4, a5, a6, a7, a8, a9, x] = yr [a0, a1, a2, a3, a4, a5, a6, a7, a8, a9] := rfl
   have q1 : wF tag [a0, a1, a2, a3, a4, a5, a6, a7, a8, a9] = ⟨6, 2, 0, yr [a0, a1, a2, a3, a4, a5, a6, a7, a8, a9], n2 [a0, a1, a2, a3, a4, a5, a6, a7, a8, a9] 4⟩ := by simp [wF]
   have q2 : wF tag [a0, a1, a2, a3, a4, a5, a6, a7, a8, a9, x] = ⟨6, 1, x - 48, yr [a0, a1, a2, a3, a4, a5, a6, a7, a8, a9, x], n2 [a0, a1, a2, a3, a4, a5, a6, a7, a8, a9, x] 4⟩ := by simp [wF, g]
   rw [show [a0, a1, a2, a3, a4, a5, a6, a7, a8, a9] ++ [x] = [a0, a1, a2, a3, a4, a5, a6, a7, a8, a9, x] from rfl, show [a0, a1, a2, a3, a4, a5, a6, a7, a8, a9].length = 10 from rfl, q1, q2]
   have hm : n2 [a0, a1, a2, a3, a4, a5, a6, a7, a8, a9, x] 4 = n2 [a0, a1, a2, a3, a4, a5, a6, a7, a8, a9] 4 := rfl
   have hD := hD (by simp)
   have hs : stepAt [a0, a1, a2, a3, a4, a5, a6, a7, a8, a9, x] 10 ↔ x ≤ 53 := stepAt_iff [a0, a1, a2, a3, a4, a5, a6, a7, a8, a9, x] 10 hx _ ⟨fun h => h.2.2.2.2.2.2.1 rfl, fun h => ⟨fun e => absurd e (by decide), fun e => absurd e (by decide), fun e => absurd e (by decide), fun e => absurd e (by decide), fun e => absurd e (by decide), fun e => absurd e (by decide), fun _ => h, fun e => absurd e (by decide)⟩⟩
   have hhi : wHi 4 (yr [a0, a1, a2, a3, a4, a5, a6, a7, a8, a9]) (n2 [a0, a1, a2, a3, a4, a5, a6, a7, a8, a9] 4) = dysI (yr [a0, a1, a2, a3, a4, a5, a6, a7, a8, a9]) (n2 [a0, a1, a2, a3, a4, a5, a6, a7, a8, a9] 4) := rfl
   refine push_mk ⟨6, 2, 0, yr [a0, a1, a2, a3, a4, a5, a6, a7, a8, a9], n2 [a0, a1, a2, a3, a4, a5, a6, a7, a8, a9] 4⟩ x _ (by simp) (by simp) hx _ (Iff.trans ?_ hs.symm) (fun hc => ?_)
   ·show ((0 * 10 + (x - 48)) * 10 ≤ 59 ∧ 0 < (0 * 10 + (x - 48)) * 10 + 10) ↔ _
    unfold isD at hx
    generalize dysI (yr [a0, a1, a2, a3, a4, a5, a6, a7, a8, a9]) (n2 [a0, a1, a2, a3, a4, a5, a6, a7, a8, a9] 4) = D at *
    omega
   ·show (⟨6, 1, 0 * 10 + (x - 48), _, _⟩ : WS) = ⟨6, 1, x - 48, _, _⟩
    rw [Int.zero_mul, Int.zero_add]; rfl
  |[a0, a1, a2, a3, a4, a5, a6, a7, a8, a9, a10], _, _, hF, hd, hp, hl, hD, hD2 =>
   have hy : yr [a0, a1, a2, a3, a4, a5, a6, a7, a8, a9, a10, x] = yr [a0, a1, a2, a3, a4, a5, a6, a7, a8, a9, a10] := rfl
   have q1 : wF tag [a0, a1, a2, a3, a4, a5, a6, a7, a8, a9, a10] = ⟨6, 1, a10 - 48, yr [a0, a1, a2, a3, a4, a5, a6, a7, a8, a9, a10], n2 [a0, a1, a2, a3, a4, a5, a6, a7, a8, a9, a10] 4⟩ := by simp [wF, g]
   have q2 : wF tag [a0, a1, a2, a3, a4, a5, a6, a7, a8, a9, a10, x] = ⟨7, 2, 0, yr [a0, a1, a2, a3, a4, a5, a6, a7, a8, a9, a10, x], n2 [a0, a1, a2, a3, a4, a5, a6, a7, a8, a9, a10, x] 4⟩ := by simp [wF]
   rw [show [a0, a1, a2, a3, a4, a5, a6, a7, a8, a9, a10] ++ [x] = [a0, a1, a2, a3, a4, a5, a6, a7, a8, a9, a10, x] from rfl, show [a0, a1, a2, a3, a4, a5, a6, a7, a8, a9, a10].length = 11 from rfl, q1, q2]
   have e10 := (hF 10 (by simp)).2.2.2.2.2.2.2.1 rfl
   have hdl := hd 10 (by simp)
   have hm : n2 [a0, a1, a2, a3, a4, a5, a6, a7, a8, a9, a10, x] 4 = n2 [a0, a1, a2, a3, a4, a5, a6, a7, a8, a9, a10] 4 := rfl
   have hD := hD (by simp)
   have hs : stepAt [a0, a1, a2, a3, a4, a5, a6, a7, a8, a9, a10, x] 11 ↔ True := stepAt_iff [a0, a1, a2, a3, a4, a5, a6, a7, a8, a9, a10, x] 11 hx _ ⟨fun _ => trivial, fun _ => ⟨fun e => absurd e (by decide), fun e => absurd e (by decide), fun e => absurd e (by decide), fun e => absurd e (by decide), fun e => absurd e (by decide), fun e => absurd e (by decide), fun e => absurd e (by decide), fun e => absurd e (by decide)⟩⟩
   unfold isD at hdl
   have hdl2 : 48 ≤ a10 ∧ a10 ≤ 57 := hdl
   clear hdl
   have e10 : a10 ≤ 53 := e10
   have hhi : wHi 4 (yr [a0, a1, a2, a3, a4, a5, a6, a7, a8, a9, a10]) (n2 [a0, a1, a2, a3, a4, a5, a6, a7, a8, a9, a10] 4) = dysI (yr [a0, a1, a2, a3, a4, a5, a6, a7, a8, a9, a10]) (n2 [a0, a1, a2, a3, a4, a5, a6, a7, a8, a9, a10] 4) := rfl
   refine push_mk ⟨6, 1, a10 - 48, yr [a0, a1, a2, a3, a4, a5, a6, a7, a8, a9, a10], n2 [a0, a1, a2, a3, a4, a5, a6, a7, a8, a9, a10] 4⟩ x _ (by simp) (by simp) hx _ (Iff.trans ?_ hs.symm) (fun hc => ?_)
   ·show (((a10 - 48) * 10 + (x - 48)) * 1 ≤ 59 ∧ 0 < ((a10 - 48) * 10 + (x - 48)) * 1 + 1) ↔ _
    unfold isD at hx
    generalize dysI (yr [a0, a1, a2, a3, a4, a5, a6, a7, a8, a9, a10]) (n2 [a0, a1, a2, a3, a4, a5, a6, a7, a8, a9, a10] 4) = D at *
    exact iff_of_true (by omega) trivial
   ·rfl
  |[a0, a1, a2, a3, a4, a5, a6, a7, a8, a9, a10, a11], _, _, hF, hd, hp, hl, hD, hD2 =>
   have hy : yr [a0, a1, a2, a3, a4, a5, a6, a7, a8, a9, a10, a11, x] = yr [a0, a1, a2, a3, a4, a5, a6, a7, a8, a9, a10, a11] := rfl
   have q1 : wF tag [a0, a1, a2, a3, a4, a5, a6, a7, a8, a9, a10, a11] = ⟨7, 2, 0, yr [a0, a1, a2, a3, a4, a5, a6, a7, a8, a9, a10, a11], n2 [a0, a1, a2, a3, a4, a5, a6, a7, a8, a9, a10, a11] 4⟩ := by simp [wF]
   have q2 : wF tag [a0, a1, a2, a3, a4, a5, a6, a7, a8, a9, a10, a11, x] = ⟨7, 1, x - 48, yr [a0, a1, a2, a3, a4, a5, a6, a7, a8, a9, a10, a11, x], n2 [a0, a1, a2, a3, a4, a5, a6, a7, a8, a9, a10, a11, x] 4⟩ := by simp [wF, g]
   rw [show [a0, a1, a2, a3, a4, a5, a6, a7, a8, a9, a10, a11] ++ [x] = [a0, a1, a2, a3, a4, a5, a6, a7, a8, a9, a10, a11, x] from rfl, show [a0, a1, a2, a3, a4, a5, a6, a7, a8, a9, a10, a11].length = 12 from rfl, q1, q2]
   have hm : n2 [a0, a1, a2, a3, a4, a5, a6, a7, a8, a9, a10, a11, x] 4 = n2 [a0, a1, a2, a3, a4, a5, a6, a7, a8, a9, a10, a11] 4 := rfl
   have hD := hD (by simp)
   have hs : stepAt [a0, a1, a2, a3, a4, a5, a6, a7, a8, a9, a10, a11, x] 12 ↔ x ≤ 53 := stepAt_iff [a0, a1, a2, a3, a4, a5, a6, a7, a8, a9, a10, a11, x] 12 hx _ ⟨fun h => h.2.2.2.2.2.2.2 rfl, fun h => ⟨fun e => absurd e (by decide), fun e => absurd e (by decide), fun e => absurd e (by decide), fun e => absurd e (by decide), fun e => absurd e (by decide), fun e => absurd e (by decide), fun e => absurd e (by decide), fun _ => h⟩⟩
   have hhi : wHi 4 (yr [a0, a1, a2, a3, a4, a5, a6, a7, a8, a9, a10, a11]) (n2 [a0, a1, a2, a3, a4, a5, a6, a7, a8, a9, a10, a11] 4) = dysI (yr [a0, a1, a2, a3, a4, a5, a6, a7, a8, a9, a10, a11]) (n2 [a0, a1, a2, a3, a4, a5, a6, a7, a8, a9, a10, a11] 4) := rfl
   refine push_mk ⟨7, 2, 0, yr [a0, a1, a2, a3, a4, a5, a6, a7, a8, a9, a10, a11], n2 [a0, a1, a2, a3, a4, a5, a6, a7, a8, a9, a10, a11] 4⟩ x _ (by simp) (by simp) hx _ (Iff.trans ?_ hs.symm) (fun hc => ?_)
   ·show ((0 * 10 + (x - 48)) * 10 ≤ 59 ∧ 0 < (0 * 10 + (x - 48)) * 10 + 10) ↔ _
    unfold isD at hx
    generalize dysI (yr [a0, a1, a2, a3, a4, a5, a6, a7, a8, a9, a10, a11]) (n2 [a0, a1, a2, a3, a4, a5, a6, a7, a8, a9, a10, a11] 4) = D at *
    omega
   ·show (⟨7, 1, 0 * 10 + (x - 48), _, _⟩ : WS) = ⟨7, 1, x - 48, _, _⟩
    rw [Int.zero_mul, Int.zero_add]; rfl
  |[a0, a1, a2, a3, a4, a5, a6, a7, a8, a9, a10, a11, a12], _, _, hF, hd, hp, hl, hD, hD2 =>
   have hy : yr [a0, a1, a2, a3, a4, a5, a6, a7, a8, a9, a10, a11, a12, x] = yr [a0, a1, a2, a3, a4, a5, a6, a7, a8, a9, a10, a11, a12] := rfl
   have q1 : wF tag [a0, a1, a2, a3, a4, a5, a6, a7, a8, a9, a10, a11, a12] = ⟨7, 1, a12 - 48, yr [a0, a1, a2, a3, a4, a5, a6, a7, a8, a9, a10, a11, a12], n2 [a0, a1, a2, a3, a4, a5, a6, a7, a8, a9, a10, a11, a12] 4⟩ := by simp [wF, g]
   have q2 : wF tag [a0, a1, a2, a3, a4, a5, a6, a7, a8, a9, a10, a11, a12, x] = ⟨8, 0, 0, yr [a0, a1, a2, a3, a4, a5, a6, a7, a8, a9, a10, a11, a12, x], n2 [a0, a1, a2, a3, a4, a5, a6, a7, a8, a9, a10, a11, a12, x] 4⟩ := by simp [wF]
   rw [show [a0, a1, a2, a3, a4, a5, a6, a7, a8, a9, a10, a11, a12] ++ [x] = [a0, a1, a2, a3, a4, a5, a6, a7, a8, a9, a10, a11, a12, x] from rfl, show [a0, a1, a2, a3, a4, a5, a6, a7, a8, a9, a10, a11, a12].length = 13 from rfl, q1, q2]
   have e12 := (hF 12 (by simp)).2.2.2.2.2.2.2.2 rfl
   have hdl := hd 12 (by simp)
   have hm : n2 [a0, a1, a2, a3, a4, a5, a6, a7, a8, a9, a10, a11, a12, x] 4 = n2 [a0, a1, a2, a3, a4, a5, a6, a7, a8, a9, a10, a11, a12] 4 := rfl
   have hD := hD (by simp)
   have hs : stepAt [a0, a1, a2, a3, a4, a5, a6, a7, a8, a9, a10, a11, a12, x] 13 ↔ True := stepAt_iff [a0, a1, a2, a3, a4, a5, a6, a7, a8, a9, a10, a11, a12, x] 13 hx _ ⟨fun _ => trivial, fun _ => ⟨fun e => absurd e (by decide), fun e => absurd e (by decide), fun e => absurd e (by decide), fun e => absurd e (by decide), fun e => absurd e (by decide), fun e => absurd e (by decide), fun e => absurd e (by decide), fun e => absurd e (by decide)⟩⟩
   unfold isD at hdl
   have hdl2 : 48 ≤ a12 ∧ a12 ≤ 57 := hdl
   clear hdl
   have e12 : a12 ≤ 53 := e12
   have hhi : wHi 4 (yr [a0, a1, a2, a3, a4, a5, a6, a7, a8, a9, a10, a11, a12]) (n2 [a0, a1, a2, a3, a4, a5, a6, a7, a8, a9, a10, a11, a12] 4) = dysI (yr [a0, a1, a2, a3, a4, a5, a6, a7, a8, a9, a10, a11, a12]) (n2 [a0, a1, a2, a3, a4, a5, a6, a7, a8, a9, a10, a11, a12] 4) := rfl
   refine push_mk ⟨7, 1, a12 - 48, yr [a0, a1, a2, a3, a4, a5, a6, a7, a8, a9, a10, a11, a12], n2 [a0, a1, a2, a3, a4, a5, a6, a7, a8, a9, a10, a11, a12] 4⟩ x _ (by simp) (by simp) hx _ (Iff.trans ?_ hs.symm) (fun hc => ?_)
   ·show (((a12 - 48) * 10 + (x - 48)) * 1 ≤ 59 ∧ 0 < ((a12 - 48) * 10 + (x - 48)) * 1 + 1) ↔ _
    unfold isD at hx
    generalize dysI (yr [a0, a1, a2, a3, a4, a5, a6, a7, a8, a9, a10, a11, a12]) (n2 [a0, a1, a2, a3, a4, a5, a6, a7, a8, a9, a10, a11, a12] 4) = D at *
    exact iff_of_true (by omega) trivial
   ·rfl
 ·rw [push_no _ _ hp hx, if_neg (fun h => hx (by have := h.1; rw [g_last] at this; exact this))]
theorem wF_push24 (F : List Int) (x : Int) (h4 : F.length < 4) (hF : ∀ i, i < F.length → stepAt F i) (hY : ∀ i, i < F.length → yearAt F i) :
  wPush (wF 24 F) x = if stepAt (F ++ [x]) F.length ∧ yearAt (F ++ [x]) F.length then (wF 24 (F ++ [x]), true) else (WS.no, false) := by
 by_cases hx : isD x
 ·have hd : ∀ i, i < F.length → isD (g F i) := fun i hi => (hF i hi).1
  match F, h4, hF, hd, hY with
  |[], _, hF, hd, hY =>
   have q1 : wF 24 [] = ⟨2, 4, 0, 0, 0⟩ := by simp [wF]
   have q2 : wF 24 [x] = ⟨2, 3, x - 48, 0, 0⟩ := by simp [wF, g]
   have hs : (stepAt [x] 0 ∧ yearAt [x] 0) ↔ 50 ≤ x := ⟨fun h => h.2.1 rfl, fun h => ⟨(stepAt_iff [x] 0 hx True ⟨fun _ => trivial, fun _ => by simp⟩).2 trivial, fun _ => h, fun e => absurd e (by decide)⟩⟩
   show wPush (wF 24 []) x = if stepAt [x] 0 ∧ yearAt [x] 0 then (wF 24 [x], true) else (WS.no, false)
   rw [q1, q2]
   refine push_mk ⟨2, 4, 0, 0, 0⟩ x _ (by simp) (by simp) hx _ (Iff.trans ?_ hs.symm) (fun hc => ?_)
   ·show ((0 * 10 + (x - 48)) * 1000 ≤ 9999 ∧ 2050 < (0 * 10 + (x - 48)) * 1000 + 1000) ↔ _
    unfold isD at hx
    omega
   ·show (⟨2, 3, 0 * 10 + (x - 48), _, _⟩ : WS) = ⟨2, 3, x - 48, _, _⟩
    rw [Int.zero_mul, Int.zero_add]
  |[a], _, hF, hd, hY =>
   have q1 : wF 24 [a] = ⟨2, 3, a - 48, 0, 0⟩ := by simp [wF, g]
   have q2 : wF 24 [a, x] = ⟨2, 2, 10 * (a - 48) + (x - 48), 0, 0⟩ := by simp [wF, n2, g]
   have hs : (stepAt [a, x] 1 ∧ yearAt [a, x] 1) ↔ True := ⟨fun _ => trivial, fun h => ⟨(stepAt_iff [a, x] 1 hx True ⟨fun _ => trivial, fun _ => by simp⟩).2 trivial, fun e => absurd e (by decide), fun e => absurd e (by decide)⟩⟩
   have h0 : 50 ≤ a := (hY 0 (by simp)).1 rfl
   have h9 : isD a := hd 0 (by simp)
   show wPush (wF 24 [a]) x = if stepAt [a, x] 1 ∧ yearAt [a, x] 1 then (wF 24 [a, x], true) else (WS.no, false)
   rw [q1, q2]
   refine push_mk ⟨2, 3, a - 48, 0, 0⟩ x _ (by simp) (by simp) hx _ (Iff.trans ?_ hs.symm) (fun hc => ?_)
   ·show (((a - 48) * 10 + (x - 48)) * 100 ≤ 9999 ∧ 2050 < ((a - 48) * 10 + (x - 48)) * 100 + 100) ↔ _
    unfold isD at hx h9
    exact iff_of_true (by omega) trivial
   ·show (⟨2, 2, (a - 48) * 10 + (x - 48), _, _⟩ : WS) = ⟨2, 2, 10 * (a - 48) + (x - 48), _, _⟩
    rw [Int.mul_comm]
  |[a, b], _, hF, hd, hY =>
   have q1 : wF 24 [a, b] = ⟨2, 2, 10 * (a - 48) + (b - 48), 0, 0⟩ := by simp [wF, n2, g]
   have q2 : wF 24 [a, b, x] = ⟨2, 1, (10 * (a - 48) + (b - 48)) * 10 + (x - 48), 0, 0⟩ := by simp [wF, n2, g]
   have h0 : 50 ≤ a := (hY 0 (by simp)).1 rfl
   have h9 : isD a := hd 0 (by simp)
   have h8 : isD b := hd 1 (by simp)
   have hs : (stepAt [a, b, x] 2 ∧ yearAt [a, b, x] 2) ↔ (50 < a ∨ 48 < b ∨ 53 ≤ x) := ⟨fun h => h.2.2 rfl, fun h => ⟨(stepAt_iff [a, b, x] 2 hx True ⟨fun _ => trivial, fun _ => by simp⟩).2 trivial, fun e => absurd e (by decide), fun _ => h⟩⟩
   show wPush (wF 24 [a, b]) x = if stepAt [a, b, x] 2 ∧ yearAt [a, b, x] 2 then (wF 24 [a, b, x], true) else (WS.no, false)
   rw [q1, q2]
   refine push_mk ⟨2, 2, 10 * (a - 48) + (b - 48), 0, 0⟩ x _ (by simp) (by simp) hx _ (Iff.trans ?_ hs.symm) (fun hc => rfl)
   show (((10 * (a - 48) + (b - 48)) * 10 + (x - 48)) * 10 ≤ 9999 ∧ 2050 < ((10 * (a - 48) + (b - 48)) * 10 + (x - 48)) * 10 + 10) ↔ _
   unfold isD at hx h9 h8
   omega
  |[a, b, c], _, hF, hd, hY =>
   have q1 : wF 24 [a, b, c] = ⟨2, 1, (10 * (a - 48) + (b - 48)) * 10 + (c - 48), 0, 0⟩ := by simp [wF, n2, g]
   have q2 : wF 24 [a, b, c, x] = ⟨3, 2, 0, 100 * (10 * (a - 48) + (b - 48)) + (10 * (c - 48) + (x - 48)), 0⟩ := by simp [wF, yr, n2, g]
   have h0 : 50 ≤ a := (hY 0 (by simp)).1 rfl
   have h2 : 50 < a ∨ 48 < b ∨ 53 ≤ c := (hY 2 (by simp)).2 rfl
   have h9 : isD a := hd 0 (by simp)
   have h8 : isD b := hd 1 (by simp)
   have h7 : isD c := hd 2 (by simp)
   have hs : (stepAt [a, b, c, x] 3 ∧ yearAt [a, b, c, x] 3) ↔ True := ⟨fun _ => trivial, fun h => ⟨(stepAt_iff [a, b, c, x] 3 hx True ⟨fun _ => trivial, fun _ => by simp⟩).2 trivial, fun e => absurd e (by decide), fun e => absurd e (by decide)⟩⟩
   show wPush (wF 24 [a, b, c]) x = if stepAt [a, b, c, x] 3 ∧ yearAt [a, b, c, x] 3 then (wF 24 [a, b, c, x], true) else (WS.no, false)
   rw [q1, q2]
   refine push_mk ⟨2, 1, (10 * (a - 48) + (b - 48)) * 10 + (c - 48), 0, 0⟩ x _ (by simp) (by simp) hx _ (Iff.trans ?_ hs.symm) (fun hc => ?_)
   ·show ((((10 * (a - 48) + (b - 48)) * 10 + (c - 48)) * 10 + (x - 48)) * 1 ≤ 9999 ∧ 2050 < (((10 * (a - 48) + (b - 48)) * 10 + (c - 48)) * 10 + (x - 48)) * 1 + 1) ↔ _
    unfold isD at hx h9 h8 h7
    exact iff_of_true (by omega) trivial
   ·show (⟨3, 2, 0, ((10 * (a - 48) + (b - 48)) * 10 + (c - 48)) * 10 + (x - 48), 0⟩ : WS) = _
    congr 1
    omega
 ·rw [push_no _ _ (by unfold wF; split <;> simp; omega) hx, if_neg (fun h => hx (by have := h.1.1; rw [g_last] at this; exact this))]
theorem wF_push23a (x : Int) : wPush (wF 23 (cent 0)) x = if stepAt (cent x ++ [x]) 2 then (wF 23 (cent x ++ [x]), true) else (WS.no, false) := by
 have q1 : wF 23 (cent 0) = ⟨1, 2, 0, 0, 0⟩ := by simp [wF, cent]
 have q2 : wF 23 (cent x ++ [x]) = ⟨1, 1, x - 48, 0, 0⟩ := by unfold wF cent; split <;> simp [g]
 rw [q1, q2]
 by_cases hx : isD x
 ·have hg : g (cent x ++ [x]) 2 = x := by unfold cent; split <;> simp [g]
  have hs : stepAt (cent x ++ [x]) 2 ↔ True := stepAt_iff (cent x ++ [x]) 2 (by rw [hg]; exact hx) True ⟨fun _ => trivial, fun _ => by simp⟩
  refine push_mk ⟨1, 2, 0, 0, 0⟩ x _ (by simp) (by simp) hx _ (Iff.trans ?_ hs.symm) (fun hc => ?_)
  ·show ((0 * 10 + (x - 48)) * 10 ≤ 99 ∧ 0 < (0 * 10 + (x - 48)) * 10 + 10) ↔ _
   unfold isD at hx
   exact iff_of_true (by omega) trivial
  ·show (⟨1, 1, 0 * 10 + (x - 48), _, _⟩ : WS) = ⟨1, 1, x - 48, _, _⟩
   rw [Int.zero_mul, Int.zero_add]
 ·have hg : g (cent x ++ [x]) 2 = x := by unfold cent; split <;> simp [g]
  rw [push_no _ _ (by simp) hx, if_neg (fun h => hx (by have := h.1; rw [hg] at this; exact this))]
theorem wF_push23b (a x : Int) (ha : isD a) : wPush (wF 23 (cent a ++ [a])) x = if stepAt (cent a ++ [a, x]) 3 then (wF 23 (cent a ++ [a, x]), true) else (WS.no, false) := by
 have q1 : wF 23 (cent a ++ [a]) = ⟨1, 1, a - 48, 0, 0⟩ := by unfold wF cent; split <;> simp [g]
 have q2 : wF 23 (cent a ++ [a, x]) = ⟨3, 2, 0, if a < 53 then 2000 + (10 * (a - 48) + (x - 48)) else 1900 + (10 * (a - 48) + (x - 48)), 0⟩ := by unfold wF cent; split <;> simp [g, yr, n2]
 rw [q1, q2]
 by_cases hx : isD x
 ·have hg : g (cent a ++ [a, x]) 3 = x := by unfold cent; split <;> simp [g]
  have hs : stepAt (cent a ++ [a, x]) 3 ↔ True := stepAt_iff (cent a ++ [a, x]) 3 (by rw [hg]; exact hx) True ⟨fun _ => trivial, fun _ => by simp⟩
  refine push_mk ⟨1, 1, a - 48, 0, 0⟩ x _ (by simp) (by simp) hx _ (Iff.trans ?_ hs.symm) (fun hc => ?_)
  ·show (((a - 48) * 10 + (x - 48)) * 1 ≤ 99 ∧ 0 < ((a - 48) * 10 + (x - 48)) * 1 + 1) ↔ _
   unfold isD at hx ha
   exact iff_of_true (by omega) trivial
  ·show (⟨3, 2, 0, wYear ((a - 48) * 10 + (x - 48)), 0⟩ : WS) = _
   unfold isD at hx ha
   congr 1
   unfold wYear
   split <;> split <;> omega
 ·have hg : g (cent a ++ [a, x]) 3 = x := by unfold cent; split <;> simp [g]
  rw [push_no _ _ (by simp) hx, if_neg (fun h => hx (by have := h.1; rw [hg] at this; exact this))]
theorem wF_zone (tag : Int) (F : List Int) (h : F.length = 14) (x : Int) : wPush (wF tag F) x = if x = 90 then (wF tag (F ++ [x]), true) else (WS.no, false) := by
 have q1 : wF tag F = ⟨8, 0, 0, yr F, n2 F 4⟩ := by unfold wF; simp [h]
 have q2 : wF tag (F ++ [x]) = ⟨0, 0, 0, yr F, n2 F 4⟩ := by unfold wF; rw [yr_snoc F x (by omega), n2_snoc F x (by omega)]; simp [h]
 rw [q1, q2]
 unfold wPush
 by_cases hx : x = 90
 ·rw [if_pos ⟨rfl, hx⟩, if_pos hx]
 ·rw [if_neg (fun h => hx h.2), if_neg hx, if_pos (.inl (show (0 : Int) < 1 by decide))]
theorem wF_end (tag : Int) (F : List Int) (h : F.length = 15) (x : Int) : wPush (wF tag F) x = (WS.no, false) := by
 have q1 : wF tag F = ⟨0, 0, 0, yr F, n2 F 4⟩ := by unfold wF; simp [h]
 rw [q1]
 unfold wPush
 rw [if_neg (fun h => absurd (show (0 : Int) = 8 from h.1) (by decide)), if_pos (.inl (show (0 : Int) < 1 by decide))]
theorem w_push {tag n : Int} {l : List Int} (hc : canP tag n l) (x : Int) :
  wPush (wSt tag l) x = if canP tag n (l ++ [x]) then (wSt tag (l ++ [x]), true) else (WS.no, false) := by
 have ho := typ_off hc.1
 have hL := fullP_length tag l
 have hcl : (l.length : Int) < n → (canP tag n (l ++ [x]) ↔ stepC tag n (l ++ [x]) l.length) := fun h => by
  refine ⟨fun hh => ((okC_snoc ..).1 hh.2.2).2, fun hh => ⟨hc.1, by rw [List.length_append, List.length_singleton]; omega, (okC_snoc ..).2 ⟨hc.2.2, hh⟩⟩⟩
 have hgl : g (l ++ [x]) l.length = x := g_last l x
 rcases Int.lt_or_le (l.length : Int) n with hn | hn
 ·have hcl := hcl hn
  rcases Int.lt_or_le (l.length : Int) (n - 1) with h1 | h1
  ·have hst : stepC tag n (l ++ [x]) l.length ↔ stepAt (fullP tag (l ++ [x])) (l.length + offT tag) ∧ (tag = 24 → yearAt (l ++ [x]) l.length) := by
    unfold stepC; exact ⟨fun h => h.2 (by omega), fun h => ⟨fun e => by omega, fun _ => h⟩⟩
   have hF := full_ok hc hn
   have hYr : tag = 24 → ∀ i, i < l.length → yearAt l i := fun ht i hi => ((hc.2.2 i hi).2 (by omega)).2 ht
   by_cases h4 : 4 ≤ (fullP tag l).length
   ·have h1l : 1 ≤ l.length := by
     rw [hL] at h4; unfold offT at h4
     split at h4 <;> omega
    have hsn := fullP_snoc tag x h1l
    have hp := wF_push4 tag (fullP tag l) x h4 (by omega) hF
    have hy : stepC tag n (l ++ [x]) l.length ↔ stepAt (fullP tag l ++ [x]) (fullP tag l).length := by
     rw [hst, hsn, hL]
     refine ⟨fun h => h.1, fun h => ⟨h, fun ht => ⟨fun e => ?_, fun e => ?_⟩⟩⟩
     all_goals
      rw [hL] at h4; unfold offT at h4
      rw [if_pos ht] at h4
      omega
    unfold wSt
    rw [hsn, hp]
    exact (if_iff (hcl.trans hy) _ _).symm
   ·rcases hc.1 with ⟨rfl, rfl⟩ | ⟨rfl, rfl⟩
    ·have hL2 : (fullP 23 l).length = l.length + 2 := hL
     have h23 : ∀ m : List Int, fullP 23 m = cent (g m 0) ++ m := fun m => by unfold fullP; rw [if_neg (by decide)]
     have hst2 : canP 23 13 (l ++ [x]) ↔ stepAt (fullP 23 (l ++ [x])) (l.length + 2) := hcl.trans (hst.trans ⟨fun h => h.1, fun h => ⟨h, fun e => absurd e (by decide)⟩⟩)
     unfold wSt
     rw [show (if canP 23 13 (l ++ [x]) then (wF 23 (fullP 23 (l ++ [x])), true) else (WS.no, false)) = if stepAt (fullP 23 (l ++ [x])) (l.length + 2) then (wF 23 (fullP 23 (l ++ [x])), true) else (WS.no, false) from if_iff hst2 _ _]
     rw [h23, h23]
     match l, h4, hF with
     |[], _, _ => exact wF_push23a x
     |[a], _, hF => exact wF_push23b a x (by
       have := (hF 2 (by rw [h23]; unfold cent; split <;> simp)).1
       rw [h23] at this
       unfold cent at this
       revert this
       show isD (g ((if a < 53 then [50, 48] else [49, 57]) ++ [a]) 2) → isD a
       split <;> exact fun h => h)
     |a :: b :: r, h4, _ => exact absurd (show 4 ≤ (fullP 23 (a :: b :: r)).length by rw [fullP_length]; simp [offT]) h4
    ·have h24 : ∀ m : List Int, fullP 24 m = m := fun m => by unfold fullP; rw [if_pos rfl]
     have hp := wF_push24 l x (by rw [h24] at h4; omega) (by rw [h24] at hF; exact hF) (hYr rfl)
     unfold wSt
     rw [h24, h24, hp]
     refine if_iff ?_ _ _
     rw [hcl, hst, h24]
     exact ⟨fun h => ⟨h.1, fun _ => h.2⟩, fun h => ⟨h.1, h.2 rfl⟩⟩
  ·have h14 : (fullP tag l).length = 14 := by omega
   have h1l : 1 ≤ l.length := by have := hc.1; unfold typ at this; omega
   unfold wSt
   rw [wF_zone tag _ h14, fullP_snoc tag x h1l]
   refine if_iff ?_ _ _
   rw [hcl]
   unfold stepC
   rw [hgl]
   exact ⟨fun h => ⟨fun _ => h, fun e => absurd (show (l.length : Int) = n - 1 by omega) e⟩, fun h => h.1 (by omega)⟩
 ·have h15 : (fullP tag l).length = 15 := by have := hc.2.1; omega
  unfold wSt
  rw [wF_end tag _ h15, if_neg (fun h => by have := h.2.1; rw [List.length_append, List.length_singleton] at this; omega)]
theorem w_start (tag n : Int) : wStart tag n = if typ tag n then (wSt tag [], true) else (WS.no, false) := by
 unfold wStart
 by_cases h1 : tag = 23 ∧ n = 13
 ·rw [if_pos h1, if_pos (.inl h1)]
  obtain ⟨rfl, rfl⟩ := h1
  have : wSt 23 [] = ⟨1, 2, 0, 0, 0⟩ := by simp [wSt, wF, fullP, cent, g]
  rw [this]
 ·rw [if_neg h1]
  by_cases h2 : tag = 24 ∧ n = 15
  ·rw [if_pos h2, if_pos (.inr h2)]
   obtain ⟨rfl, rfl⟩ := h2
   have : wSt 24 [] = ⟨2, 4, 0, 0, 0⟩ := by simp [wSt, wF, fullP]
   rw [this]
  ·rw [if_neg h2, if_neg (fun h => h.elim h1 h2)]
end Go.Proofs.Ytiiimhamfibdbaa
/- What when's bounds, canBe, fullYear, behindPart, Start and Push give: the landed code's contracts. Of every state that a content can leave, and every byte. -/
namespace Go.Proofs.Ytiiimhamfibdbaa
open Go.RowKit Go.PlainAid
set_option linter.unusedVariables false
set_option maxHeartbeats 1600000 in
theorem bounds_any (p l v y m : Int) (hp : 0 ≤ p ∧ p ≤ 8) (hy : -9223372036854775808 ≤ y ∧ y ≤ 9223372036854775807) (w : World) :
  Calls Try.prog 95 #[.agg #[.int .u8 p, .int .i64 l, .int .i64 v, .int .i64 y, .int .i64 m]] w fun e w' => e = .returned (.tuple #[.int .i64 (wLo p), .int .i64 (wHi p y m)]) ∧ Below w.heap.size w w' := by
 have HD := Lib.hid (whenDays_q y m hy)
 have HF : Hid (wHi 4 y m = dysI y m) := Lib.hid rfl
 obtain ⟨p0, p1⟩ := hp
 rcases (by omega : p = 4 ∨ p = 1 ∨ p = 2 ∨ p = 3 ∨ p = 5 ∨ p = 6 ∨ p = 7 ∨ p = 8 ∨ p = 0) with rfl | rfl | rfl | rfl | rfl | rfl | rfl | rfl | rfl
 ·generalize dysI y m = D at *
  go_enter Try.func95, Try.ntmps95
  go_wp2_with fail
  refine (HD.out _).mono ?_
  rintro e w1 ⟨rfl, rfl⟩
  go_wp2
  go_returns
  exact ⟨rets2 rfl (congrArg (Value.int .i64) HF.out.symm), by go_grown⟩
 all_goals
  clear HD HF
  go_enter Try.func95, Try.ntmps95
  go_wp2
  go_returns
  exact ⟨rfl, by go_grown⟩
theorem ten_cases (L : Nat) (h : L ≤ 3) : (L = 0 ∧ ten (L : Int) = 1) ∨ (L = 1 ∧ ten (L : Int) = 10) ∨ (L = 2 ∧ ten (L : Int) = 100) ∨ (L = 3 ∧ ten (L : Int) = 1000) := by
 rcases (by omega : L = 0 ∨ L = 1 ∨ L = 2 ∨ L = 3) with rfl | rfl | rfl | rfl
 ·exact .inl ⟨rfl, rfl⟩
 ·exact .inr (.inl ⟨rfl, rfl⟩)
 ·exact .inr (.inr (.inl ⟨rfl, rfl⟩))
 ·exact .inr (.inr (.inr ⟨rfl, rfl⟩))
theorem wBounds (p y m : Int) : 0 ≤ wLo p ∧ wLo p ≤ 2050 ∧ 0 ≤ wHi p y m ∧ wHi p y m ≤ 9999 := by
 have := dys_range y m
 unfold wLo wHi
 refine ⟨?_, ?_, ?_, ?_⟩
 all_goals
  repeat' split
  all_goals omega
set_option maxHeartbeats 4000000 in
theorem canBe_any (p : Int) (L : Nat) (v y m : Int) (hp : 0 ≤ p ∧ p ≤ 8) (hL : L ≤ 3) (hv : 0 ≤ v ∧ v ≤ 9999) (hy : -9223372036854775808 ≤ y ∧ y ≤ 9223372036854775807) (w : World) :
  Calls Try.prog 93 #[.agg #[.int .u8 p, .int .i64 (L : Int), .int .i64 v, .int .i64 y, .int .i64 m]] w fun e w' => e = .returned (.bool (wCan p L v y m)) ∧ Below w.heap.size w w' := by
 have HB := Lib.hid (bounds_any p L v y m hp hy)
 have HF : Hid (wCan p L v y m = decide (v * ten L ≤ wHi p y m ∧ wLo p < v * ten L + ten L)) := Lib.hid rfl
 obtain ⟨l0, l1, h0, h1⟩ := wBounds p y m
 generalize wLo p = lo at *
 generalize wHi p y m = hi at *
 generalize wCan p L v y m = R at *
 go_enter Try.func93, Try.ntmps93
 go_wp2_with fail
 refine (HB.out _).mono ?_
 rintro e w1 ⟨rfl, hb⟩
 have HR := Lib.hid ((Row.new w 111 [.int .u8 p, .int .i64 (L : Int), .int .i64 v, .int .i64 y, .int .i64 m]).below hb (by simp))
 have HW := Lib.hid (((Below.refl w.heap.size w).alloc (Nat.le_refl _) (.cells #[.int .u8 p, .int .i64 (L : Int), .int .i64 v, .int .i64 y, .int .i64 m] 111)).trans (hb.mono (by simp)))
 have c1 : w1.cell? ⟨w.heap.size, 1, none⟩ = some (.int .i64 (L : Int)) := HR.out.cell 1
 have c2 : w1.cell? ⟨w.heap.size, 2, none⟩ = some (.int .i64 v) := HR.out.cell 2
 clear HB hb HR
 go_wp2
 have HT := Lib.hid (ten_cases)
 have hT0 : ten ((0 : Nat) : Int) = 1 := rfl
 go_loopw [5, 6, 16] (fun lv nv iv wr => ∃ (k : Nat) (q t : Int), lv = .int .i64 q ∧ nv = .int .i64 t ∧ iv = .int .i64 (k : Int) ∧ k ≤ L ∧ wr = w1 ∧ Hid (q = v * ten (k : Int) ∧ t = ten (k : Int))) (fun _ _ iv _ => L - (intOf iv).toNat)
 case atStart => exact ⟨0, v, 1, rfl, rfl, rfl, by omega, rfl, Lib.hid ⟨by rw [hT0]; omega, hT0.symm⟩⟩
 case round =>
  obtain ⟨k, q, t, rfl, rfl, rfl, hk, rfl, HQ⟩ := hrel
  obtain ⟨e1, e2⟩ := HQ.out
  by_cases hlt : k < L
  ·have HQ2 : Hid (q * 10 = v * ten ((k + 1 : Nat) : Int) ∧ t * 10 = ten ((k + 1 : Nat) : Int)) := Lib.hid (by
    rw [e1, e2]
    rcases (by omega : k = 0 ∨ k = 1 ∨ k = 2) with rfl | rfl | rfl
    ·exact ⟨by show v * 1 * 10 = v * 10; omega, rfl⟩
    ·exact ⟨by show v * 10 * 10 = v * 100; omega, rfl⟩
    ·exact ⟨by show v * 100 * 10 = v * 1000; omega, rfl⟩)
   have hb : 0 ≤ q ∧ q ≤ 999900 ∧ 0 ≤ t ∧ t ≤ 100 := by
    rw [e1, e2]
    rcases HT.out k (by omega) with ⟨rfl, h⟩ | ⟨rfl, h⟩ | ⟨rfl, h⟩ | ⟨rfl, h⟩
    all_goals rw [h]; omega
   obtain ⟨b0, b1, b2, b3⟩ := hb
   have hlti : (k : Int) < (L : Int) := by omega
   clear e1 e2 HQ
   go_wp2
   go_roundw
   case rel => exact ⟨k + 1, q * 10, t * 10, rfl, rfl, by simp, by omega, trivial, HQ2⟩
   case measure => simp [intOf]; omega
  ·obtain rfl : k = L := by omega
   have hb : 0 ≤ q ∧ q ≤ 9999000 ∧ 0 ≤ t ∧ t ≤ 1000 := by
    rw [e1, e2]
    rcases HT.out k (by omega) with ⟨rfl, h⟩ | ⟨rfl, h⟩ | ⟨rfl, h⟩ | ⟨rfl, h⟩
    all_goals rw [h]; omega
   obtain ⟨b0, b1, b2, b3⟩ := hb
   have HF2 : Hid (R = decide (q ≤ hi ∧ lo < q + t)) := Lib.hid (by rw [HF.out, e1, e2])
   clear e1 e2 HQ HF HT hT0 c1 c2
   by_cases g1 : q ≤ hi
   ·by_cases g2 : lo < q + t
    ·have HO : Hid (true = R) := Lib.hid (by rw [HF2.out, decide_eq_true ⟨g1, g2⟩])
     clear HF2
     go_wp2
     go_returns
     exact ⟨rets1 (congrArg Value.bool HO.out), HW.out⟩
    ·have HO : Hid (false = R) := Lib.hid (by rw [HF2.out, decide_eq_false (fun h => g2 h.2)])
     clear HF2
     go_wp2
     go_returns
     exact ⟨rets1 (congrArg Value.bool HO.out), HW.out⟩
   ·have HO : Hid (false = R) := Lib.hid (by rw [HF2.out, decide_eq_false (fun h => g1 h.1)])
    clear HF2
    go_wp2
    go_returns
    exact ⟨rets1 (congrArg Value.bool HO.out), HW.out⟩
theorem fullYear_any (v : Int) (hv : 0 ≤ v ∧ v ≤ 9999) (w : World) :
  Calls Try.prog 96 #[.int .i64 v] w fun e w' => e = .returned (.int .i64 (wYear v)) ∧ w' = w := by
 by_cases h : v < 50
 ·have HF : Hid (2000 + v = wYear v) := Lib.hid (by unfold wYear; rw [if_pos h])
  go_enter Try.func96, Try.ntmps96
  go_wp2
  go_returns
  exact ⟨rets1 (congrArg (Value.int .i64) HF.out), rfl⟩
 ·have HF : Hid (1900 + v = wYear v) := Lib.hid (by unfold wYear; rw [if_neg h])
  go_enter Try.func96, Try.ntmps96
  go_wp2
  go_returns
  exact ⟨rets1 (congrArg (Value.int .i64) HF.out), rfl⟩
def wC5 (p l v y m : Int) : List Value := [.int .u8 p, .int .i64 l, .int .i64 v, .int .i64 y, .int .i64 m]
theorem wC5_one (p l v y m : Int) : ∀ u ∈ wC5 p l v y m, u.oneCell' = true := by intro u hu; simp [wC5] at hu; rcases hu with rfl | rfl | rfl | rfl | rfl <;> rfl
theorem infoWst : (Try.prog.info? 111).map (·.size) = some 5 := by kernel_rfl
theorem wst_load {W : World} {g : Nat} {p l v y m : Int} (h : Row W g 111 (wC5 p l v y m)) : (loadVar 111 ⟨g, 0, none⟩).run Try.prog W = .ok (.agg #[.int .u8 p, .int .i64 l, .int .i64 v, .int .i64 y, .int .i64 m]) W :=
 run_loadVar_mid _ _ 0 _ (wC5 p l v y m) _ h.whole Try.underlying111 rfl infoWst
set_option maxHeartbeats 4000000 in
theorem behind_any (p v y m : Int) (hp : 1 ≤ p ∧ p ≤ 7) (hv : 0 ≤ v ∧ v ≤ 9999) (w : World) :
  Calls Try.prog 94 #[.agg #[.int .u8 p, .int .i64 0, .int .i64 v, .int .i64 y, .int .i64 m]] w fun e w' => e = .returned (.agg #[.int .u8 (wNext p v y m).p, .int .i64 (wNext p v y m).l, .int .i64 (wNext p v y m).v, .int .i64 (wNext p v y m).y, .int .i64 (wNext p v y m).m]) ∧ Below w.heap.size w w' := by
 have HY := Lib.hid (fullYear_any v hv)
 obtain ⟨p0, p1⟩ := hp
 rcases (by omega : p = 1 ∨ p = 2 ∨ p = 3 ∨ p = 4 ∨ p = 5 ∨ p = 6 ∨ p = 7) with rfl | rfl | rfl | rfl | rfl | rfl | rfl
 ·go_enter Try.func94, Try.ntmps94
  go_wp2_with fail
  refine (HY.out _).mono ?_
  rintro e w1 ⟨rfl, rfl⟩
  go_wp2
  exact bodyPost_ret (results_cell Try.results94 _ (ad := ⟨w.heap.size + 1, 0, none⟩) rfl (wst_load (row_new2 w _ 111 (wC5 3 2 0 (wYear v) m)))) rfl ⟨rfl, by go_grown⟩
 ·clear HY
  go_enter Try.func94, Try.ntmps94
  go_wp2
  exact bodyPost_ret (results_cell Try.results94 _ (ad := ⟨w.heap.size + 1, 0, none⟩) rfl (wst_load (row_new2 w _ 111 (wC5 3 2 0 v m)))) rfl ⟨rfl, by go_grown⟩
 ·clear HY
  go_enter Try.func94, Try.ntmps94
  go_wp2
  exact bodyPost_ret (results_cell Try.results94 _ (ad := ⟨w.heap.size + 1, 0, none⟩) rfl (wst_load (row_new2 w _ 111 (wC5 4 2 0 y v)))) rfl ⟨rfl, by go_grown⟩
 ·clear HY
  go_enter Try.func94, Try.ntmps94
  go_wp2
  exact bodyPost_ret (results_cell Try.results94 _ (ad := ⟨w.heap.size + 1, 0, none⟩) rfl (wst_load (row_new2 w _ 111 (wC5 5 2 0 y m)))) rfl ⟨rfl, by go_grown⟩
 ·clear HY
  go_enter Try.func94, Try.ntmps94
  go_wp2
  exact bodyPost_ret (results_cell Try.results94 _ (ad := ⟨w.heap.size + 1, 0, none⟩) rfl (wst_load (row_new2 w _ 111 (wC5 6 2 0 y m)))) rfl ⟨rfl, by go_grown⟩
 ·clear HY
  go_enter Try.func94, Try.ntmps94
  go_wp2
  exact bodyPost_ret (results_cell Try.results94 _ (ad := ⟨w.heap.size + 1, 0, none⟩) rfl (wst_load (row_new2 w _ 111 (wC5 7 2 0 y m)))) rfl ⟨rfl, by go_grown⟩
 ·clear HY
  go_enter Try.func94, Try.ntmps94
  go_wp2
  exact bodyPost_ret (results_cell Try.results94 _ (ad := ⟨w.heap.size + 1, 0, none⟩) rfl (wst_load (row_new2 w _ 111 (wC5 8 0 0 y m)))) rfl ⟨rfl, by go_grown⟩
theorem row5 {w : World} {g : Nat} {t : TypeId} {a b c d e : Value} (h : Row w g t [a, b, c, d, e]) (a' b' c' d' e' : Value) :
  Row (((((w.setCell ⟨g, 0, none⟩ a').setCell ⟨g, 1, none⟩ b').setCell ⟨g, 2, none⟩ c').setCell ⟨g, 3, none⟩ d').setCell ⟨g, 4, none⟩ e') g t [a', b', c', d', e'] :=
 ((((h.set 0 a').set 1 b').set 2 c').set 3 d').set 4 e'
theorem row5_far {w : World} {g k : Nat} {t : TypeId} {l : List Value} (h : Row w g t l) (hg : g ≠ k) (a' b' c' d' e' : Value) :
  Row (((((w.setCell ⟨k, 0, none⟩ a').setCell ⟨k, 1, none⟩ b').setCell ⟨k, 2, none⟩ c').setCell ⟨k, 3, none⟩ d').setCell ⟨k, 4, none⟩ e') g t l :=
 ((((h.far (p := ⟨k, 0, none⟩) hg a').far (p := ⟨k, 1, none⟩) hg b').far (p := ⟨k, 2, none⟩) hg c').far (p := ⟨k, 3, none⟩) hg d').far (p := ⟨k, 4, none⟩) hg e'
theorem below5 {a w : World} {B k : Nat} (h : Below B a w) (hg : B ≤ k) (a' b' c' d' e' : Value) :
  Below B a (((((w.setCell ⟨k, 0, none⟩ a').setCell ⟨k, 1, none⟩ b').setCell ⟨k, 2, none⟩ c').setCell ⟨k, 3, none⟩ d').setCell ⟨k, 4, none⟩ e') :=
 ((((h.setCell (p := ⟨k, 0, none⟩) hg a').setCell (p := ⟨k, 1, none⟩) hg b').setCell (p := ⟨k, 2, none⟩) hg c').setCell (p := ⟨k, 3, none⟩) hg d').setCell (p := ⟨k, 4, none⟩) hg e'
structure WS.Ok (s : WS) : Prop where
 p0 : 0 ≤ s.p
 p1 : s.p ≤ 8
 l0 : 0 ≤ s.l
 l1 : s.l ≤ 4
 v0 : 0 ≤ s.v
 v1 : s.v ≤ 999
 y0 : 0 ≤ s.y
 y1 : s.y ≤ 9999
 m0 : 0 ≤ s.m
 m1 : s.m ≤ 99
 lp : 1 ≤ s.l → 1 ≤ s.p ∧ s.p ≤ 7
theorem wStart_any (tag n : Int) (w : World) :
  Calls Try.prog 53 #[.int .i64 tag, .int .i64 n] w fun e w' => e = .returned (.tuple #[.agg #[.int .u8 (wStart tag n).1.p, .int .i64 (wStart tag n).1.l, .int .i64 (wStart tag n).1.v, .int .i64 (wStart tag n).1.y, .int .i64 (wStart tag n).1.m], .bool (wStart tag n).2]) ∧ Below w.heap.size w w' := by
 by_cases h1 : tag = 23 ∧ n = 13
 ·obtain ⟨rfl, rfl⟩ := h1
  go_enter Try.func53, Try.ntmps53
  go_wp2
  exact bodyPost_ret (results_cell_one Try.results53 _ (ad := ⟨w.heap.size, 0, none⟩) rfl rfl (wst_load (Row.new w 111 (wC5 1 2 0 0 0)))) rfl ⟨rfl, by go_grown⟩
 ·by_cases h2 : tag = 24 ∧ n = 15
  ·obtain ⟨rfl, rfl⟩ := h2
   clear h1
   go_enter Try.func53, Try.ntmps53
   go_wp2
   exact bodyPost_ret (results_cell_one Try.results53 _ (ad := ⟨w.heap.size, 0, none⟩) rfl rfl (wst_load (Row.new w 111 (wC5 2 4 0 0 0)))) rfl ⟨rfl, by go_grown⟩
  ·have HO : Hid (wStart tag n = (WS.no, false)) := Lib.hid (by unfold wStart; rw [if_neg h1, if_neg h2])
   by_cases t3 : tag = 23
   ·subst t3
    have hn : (n == 13) = false := by simpa using h1
    clear h1 h2
    go_enter Try.func53, Try.ntmps53
    go_wp2
    exact bodyPost_ret (results_cell_one Try.results53 _ (ad := ⟨w.heap.size, 0, none⟩) rfl rfl (wst_load (Row.new w 111 (wC5 0 0 0 0 0)))) rfl ⟨by rw [HO.out]; rfl, by go_grown⟩
   ·have ht3 : (tag == 23) = false := by simpa using t3
    by_cases t4 : tag = 24
    ·subst t4
     have hn : (n == 15) = false := by simpa using h2
     clear h1 h2 t3
     go_enter Try.func53, Try.ntmps53
     go_wp2
     exact bodyPost_ret (results_cell_one Try.results53 _ (ad := ⟨w.heap.size, 0, none⟩) rfl rfl (wst_load (Row.new w 111 (wC5 0 0 0 0 0)))) rfl ⟨by rw [HO.out]; rfl, by go_grown⟩
    ·have ht4 : (tag == 24) = false := by simpa using t4
     clear h1 h2 t3 t4
     go_enter Try.func53, Try.ntmps53
     go_wp2
     exact bodyPost_ret (results_cell_one Try.results53 _ (ad := ⟨w.heap.size, 0, none⟩) rfl rfl (wst_load (Row.new w 111 (wC5 0 0 0 0 0)))) rfl ⟨by rw [HO.out]; rfl, by go_grown⟩
theorem n2_rangeS {F : List Int} {i : Nat} (h : isD (g F i)) (h2 : isD (g F (i + 1))) : 0 ≤ n2 F i ∧ n2 F i ≤ 99 := by
 unfold isD at h h2
 unfold n2
 omega
theorem wF_ok {tag : Int} {F : List Int} (h15 : F.length ≤ 15) (hd : ∀ i, i < F.length → i < 14 → isD (g F i)) : WS.Ok (wF tag F) := by
 unfold wF
 by_cases h4 : 4 ≤ F.length
 ·rw [if_pos h4]
  have hy := yr_range (L := F) (fun i hi => hd i (by omega) (by omega))
  have hm : 6 ≤ F.length → 0 ≤ n2 F 4 ∧ n2 F 4 ≤ 99 := fun h => n2_rangeS (hd 4 (by omega) (by omega)) (hd 5 (by omega) (by omega))
  have hv : F.length < 14 → 0 ≤ g F (F.length - 1) - 48 ∧ g F (F.length - 1) - 48 ≤ 9 := fun h => by
   have := hd (F.length - 1) (by omega) (by omega)
   unfold isD at this
   omega
  refine ⟨?_, ?_, ?_, ?_, ?_, ?_, hy.1, hy.2, ?_, ?_, ?_⟩
  ·show 0 ≤ if F.length = 15 then (0 : Int) else (F.length : Int) / 2 + 1
   split <;> omega
  ·show (if F.length = 15 then (0 : Int) else (F.length : Int) / 2 + 1) ≤ 8
   split <;> omega
  ·show 0 ≤ if F.length < 14 then 2 - (F.length : Int) % 2 else (0 : Int)
   split <;> omega
  ·show (if F.length < 14 then 2 - (F.length : Int) % 2 else (0 : Int)) ≤ 4
   split <;> omega
  ·show 0 ≤ if F.length < 14 ∧ F.length % 2 = 1 then g F (F.length - 1) - 48 else 0
   split
   ·rename_i h; exact (hv h.1).1
   ·omega
  ·show (if F.length < 14 ∧ F.length % 2 = 1 then g F (F.length - 1) - 48 else 0) ≤ 999
   split
   ·rename_i h; have := (hv h.1).2; omega
   ·omega
  ·show 0 ≤ if 6 ≤ F.length then n2 F 4 else 0
   split
   ·rename_i h; exact (hm h).1
   ·omega
  ·show (if 6 ≤ F.length then n2 F 4 else 0) ≤ 99
   split
   ·rename_i h; exact (hm h).2
   ·omega
  ·show 1 ≤ (if F.length < 14 then 2 - (F.length : Int) % 2 else (0 : Int)) → 1 ≤ (if F.length = 15 then (0 : Int) else (F.length : Int) / 2 + 1) ∧ (if F.length = 15 then (0 : Int) else (F.length : Int) / 2 + 1) ≤ 7
   intro hh
   by_cases h14 : F.length < 14
   ·rw [if_neg (by omega)]; omega
   ·rw [if_neg h14] at hh; omega
 ·rw [if_neg h4]
  have e01 : g F (0 + 1) = g F 1 := rfl
  have h0 : 1 ≤ F.length → 0 ≤ g F 0 - 48 ∧ g F 0 - 48 ≤ 9 := fun h => by have := hd 0 (by omega) (by omega); unfold isD at this; omega
  have h1 : 2 ≤ F.length → 0 ≤ g F 1 - 48 ∧ g F 1 - 48 ≤ 9 := fun h => by have := hd 1 (by omega) (by omega); unfold isD at this; omega
  have h2 : 3 ≤ F.length → 0 ≤ g F 2 - 48 ∧ g F 2 - 48 ≤ 9 := fun h => by have := hd 2 (by omega) (by omega); unfold isD at this; omega
  by_cases ht : tag = 24
  ·rw [if_pos ht]
   refine ⟨show (0 : Int) ≤ 2 by decide, show (2 : Int) ≤ 8 by decide, show 0 ≤ 4 - (F.length : Int) by omega, show 4 - (F.length : Int) ≤ 4 by omega, ?_, ?_, show (0 : Int) ≤ 0 by decide, show (0 : Int) ≤ 9999 by decide, show (0 : Int) ≤ 0 by decide, show (0 : Int) ≤ 99 by decide, fun _ => ⟨show (1 : Int) ≤ 2 by decide, show (2 : Int) ≤ 7 by decide⟩⟩
   ·show 0 ≤ if F.length = 0 then (0 : Int) else if F.length = 1 then g F 0 - 48 else if F.length = 2 then n2 F 0 else n2 F 0 * 10 + (g F 2 - 48)
    unfold n2
    repeat' split
    all_goals omega
   ·show (if F.length = 0 then (0 : Int) else if F.length = 1 then g F 0 - 48 else if F.length = 2 then n2 F 0 else n2 F 0 * 10 + (g F 2 - 48)) ≤ 999
    unfold n2
    repeat' split
    all_goals omega
  ·rw [if_neg ht]
   refine ⟨show (0 : Int) ≤ 1 by decide, show (1 : Int) ≤ 8 by decide, show 0 ≤ 4 - (F.length : Int) by omega, show 4 - (F.length : Int) ≤ 4 by omega, ?_, ?_, show (0 : Int) ≤ 0 by decide, show (0 : Int) ≤ 9999 by decide, show (0 : Int) ≤ 0 by decide, show (0 : Int) ≤ 99 by decide, fun _ => ⟨show (1 : Int) ≤ 1 by decide, show (1 : Int) ≤ 7 by decide⟩⟩
   ·show 0 ≤ if F.length ≤ 2 then (0 : Int) else g F 2 - 48
    split <;> omega
   ·show (if F.length ≤ 2 then (0 : Int) else g F 2 - 48) ≤ 999
    split <;> omega
theorem wSt_ok {tag n : Int} {l : List Int} (hc : canP tag n l) : WS.Ok (wSt tag l) := by
 have ho := typ_off hc.1
 have hL := fullP_length tag l
 have h2 := hc.2.1
 refine wF_ok (by omega) (fun i hi h14 => ?_)
 by_cases hn : (l.length : Int) < n
 ·exact (full_ok hc hn i hi).1
 ·-- behind the last byte: that of its front
  by_cases hi2 : i < offT tag
  ·have ht : ¬ tag = 24 := by intro e; unfold offT at hi2; rw [if_pos e] at hi2; omega
   have hi3 : i < 2 := by unfold offT at hi2; rw [if_neg ht] at hi2; exact hi2
   unfold fullP; rw [if_neg ht, g_left (by rw [cent_length]; exact hi3)]; exact cent_isD _ _ hi3
  ·have := ((hc.2.2 (i - offT tag) (by omega)).2 (by omega)).1.1
   rwa [show i - offT tag + offT tag = i by omega] at this
end Go.Proofs.Ytiiimhamfibdbaa
