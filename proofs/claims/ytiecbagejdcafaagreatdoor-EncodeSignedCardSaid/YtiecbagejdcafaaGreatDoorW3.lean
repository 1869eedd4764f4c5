/- What the reference's Days, two, plain and year of times give. Of every number, and every text of at most a million bytes. -/
import Derived.Test.YtiecbagejdcafaaGreatDoorB0
import Derived.Test.YtiecbagejdcafaaGreatDoorP0
import Derived.Lib.Strings
import Derived.Laws.Cover1
import Derived.Handy
import Derived.Laws.BytesArg
namespace Go.Proofs.YtiecbagejdcafaaGreatDoor
open Go.RowKit Go.PlainAid
set_option linter.unusedVariables false
def twoI (l : List Int) (i : Nat) : Int := if isD (g l i) ∧ isD (g l (i + 1)) then n2 l i else -1
set_option maxHeartbeats 1600000 in
theorem refTwo_any (s : ByteArray) (i : Nat) (hs : s.size ≤ 1000000) (hi : i + 1 < s.size) (w : World) :
  Calls Tryz.prog 81 #[.string s, .int .i64 (i : Int)] w fun e w' => e = .returned (.int .i64 (twoI (bl s) i)) ∧ w' = w := by
 have hii : (i : Int) < (s.size : Int) := by omega
 have hii1 : (i : Int) + 1 < (s.size : Int) := by omega
 have hin : ((i : Int) + 1).toNat = i + 1 := by omega
 have gx := get_bt s i (by omega)
 have gy := get_bt s (i + 1) hi
 have x0 := bt_nonneg s i
 have x1 := bt_le s i
 have y0 := bt_nonneg s (i + 1)
 have y1 := bt_le s (i + 1)
 have HF : Hid (twoI (bl s) i = if (48 ≤ bt s i ∧ bt s i ≤ 57) ∧ (48 ≤ bt s (i + 1) ∧ bt s (i + 1) ≤ 57) then 10 * (bt s i - 48) + (bt s (i + 1) - 48) else -1) := Lib.hid (by
  rw [bt_g, bt_g]; rfl)
 generalize twoI (bl s) i = R at *
 generalize bt s i = x at *
 generalize bt s (i + 1) = y at *
 by_cases a0 : x - 48 < 0
 ·have HR : Hid (-1 = R) := Lib.hid (by rw [HF.out, if_neg (by omega)])
  clear HF
  go_enter Tryz.func81, Tryz.ntmps81
  go_wp2
  go_returns
  exact ⟨rets1 (congrArg (Value.int .i64) HR.out), rfl⟩
 ·by_cases a9 : 9 < x - 48
  ·have HR : Hid (-1 = R) := Lib.hid (by rw [HF.out, if_neg (by omega)])
   clear HF
   go_enter Tryz.func81, Tryz.ntmps81
   go_wp2
   go_returns
   exact ⟨rets1 (congrArg (Value.int .i64) HR.out), rfl⟩
  ·by_cases b0 : y - 48 < 0
   ·have HR : Hid (-1 = R) := Lib.hid (by rw [HF.out, if_neg (by omega)])
    clear HF
    go_enter Tryz.func81, Tryz.ntmps81
    go_wp2
    go_returns
    exact ⟨rets1 (congrArg (Value.int .i64) HR.out), rfl⟩
   ·by_cases b9 : 9 < y - 48
    ·have HR : Hid (-1 = R) := Lib.hid (by rw [HF.out, if_neg (by omega)])
     clear HF
     go_enter Tryz.func81, Tryz.ntmps81
     go_wp2
     go_returns
     exact ⟨rets1 (congrArg (Value.int .i64) HR.out), rfl⟩
    ·have HR : Hid (10 * (x - 48) + (y - 48) = R) := Lib.hid (by rw [HF.out, if_pos (by omega)])
     clear HF
     go_enter Tryz.func81, Tryz.ntmps81
     go_wp2
     go_returns
     exact ⟨rets1 (congrArg (Value.int .i64) HR.out), rfl⟩
def leapI (y : Int) : Bool := decide (y % 400 = 0 ∨ (y % 4 = 0 ∧ y % 100 ≠ 0))
set_option maxHeartbeats 4000000 in
theorem refDays_any (y m : Int) (hy : -9223372036854775808 ≤ y ∧ y ≤ 9223372036854775807) (w : World) :
  Calls Tryz.prog 82 #[.int .i64 y, .int .i64 m] w fun e w' => e = .returned (.int .i64 (dysI y m)) ∧ w' = w := by
 have HF : Hid (dysI y m = _) := Lib.hid (by unfold dysI; rfl)
 generalize dysI y m = R at *
 by_cases h0 : y < 0
 ·have HR : Hid (0 = R) := Lib.hid (by rw [HF.out, if_pos (.inl h0)])
  clear HF
  go_enter Tryz.func82, Tryz.ntmps82
  go_wp2
  go_returns
  exact ⟨rets1 (congrArg (Value.int .i64) HR.out), rfl⟩
 ·by_cases h1 : 9999 < y
  ·have HR : Hid (0 = R) := Lib.hid (by rw [HF.out, if_pos (.inr h1)])
   clear HF
   go_enter Tryz.func82, Tryz.ntmps82
   go_wp2
   go_returns
   exact ⟨rets1 (congrArg (Value.int .i64) HR.out), rfl⟩
  ·have HM : Hid (R = if m = 1 ∨ m = 3 ∨ m = 5 ∨ m = 7 ∨ m = 8 ∨ m = 10 ∨ m = 12 then 31 else if m = 4 ∨ m = 6 ∨ m = 9 ∨ m = 11 then 30 else if m = 2 then (if y % 400 = 0 ∨ (y % 4 = 0 ∧ y % 100 ≠ 0) then 29 else 28) else 0) := Lib.hid (by rw [HF.out, if_neg (by omega)])
   clear HF
   by_cases hm : 1 ≤ m ∧ m ≤ 12
   ·obtain ⟨m0, m1⟩ := hm
    rcases (by omega : m = 2 ∨ m = 1 ∨ m = 3 ∨ m = 4 ∨ m = 5 ∨ m = 6 ∨ m = 7 ∨ m = 8 ∨ m = 9 ∨ m = 10 ∨ m = 11 ∨ m = 12) with rfl | rfl | rfl | rfl | rfl | rfl | rfl | rfl | rfl | rfl | rfl | rfl
    ·have t4 : y.tmod 4 = y % 4 := Int.tmod_eq_emod_of_nonneg (by omega)
     have t1 : y.tmod 100 = y % 100 := Int.tmod_eq_emod_of_nonneg (by omega)
     have t3 : y.tmod 400 = y % 400 := Int.tmod_eq_emod_of_nonneg (by omega)
     have HL : Hid (R = if y % 400 = 0 ∨ (y % 4 = 0 ∧ y % 100 ≠ 0) then 29 else 28) := Lib.hid (by rw [HM.out, if_neg (by decide), if_neg (by decide), if_pos rfl])
     clear HM
     by_cases l4 : y % 400 = 0
     ·have HR : Hid (29 = R) := Lib.hid (by rw [HL.out, if_pos (.inl l4)])
      clear HL
      go_enter Tryz.func82, Tryz.ntmps82
      go_wp2
      go_returns
      exact ⟨rets1 (congrArg (Value.int .i64) HR.out), rfl⟩
     ·have lb4 : (y % 400 == 0) = false := by simpa using l4
      by_cases l2 : y % 4 = 0
      ·by_cases l1 : y % 100 = 0
       ·have HR : Hid (28 = R) := Lib.hid (by rw [HL.out, if_neg (by omega)])
        clear HL l4
        go_enter Tryz.func82, Tryz.ntmps82
        go_wp2
        go_returns
        exact ⟨rets1 (congrArg (Value.int .i64) HR.out), rfl⟩
       ·have HR : Hid (29 = R) := Lib.hid (by rw [HL.out, if_pos (.inr ⟨l2, l1⟩)])
        have lb1 : (y % 100 != 0) = true := by simpa using l1
        clear HL l4 l1
        go_enter Tryz.func82, Tryz.ntmps82
        go_wp2
        go_returns
        exact ⟨rets1 (congrArg (Value.int .i64) HR.out), rfl⟩
      ·have HR : Hid (28 = R) := Lib.hid (by rw [HL.out, if_neg (by omega)])
       have lb2 : (y % 4 == 0) = false := by simpa using l2
       clear HL l4 l2
       go_enter Tryz.func82, Tryz.ntmps82
       go_wp2
       go_returns
       exact ⟨rets1 (congrArg (Value.int .i64) HR.out), rfl⟩
    all_goals
     have HR := HM.out
     simp at HR
     subst HR
     clear HM
     go_enter Tryz.func82, Tryz.ntmps82
     go_wp2
     go_returns
     exact ⟨rfl, rfl⟩
   ·have HR : Hid (0 = R) := Lib.hid (by rw [HM.out, if_neg (by omega), if_neg (by omega), if_neg (by omega)])
    have c1 : (m == 1) = false := by simp; omega
    have c2 : (m == 2) = false := by simp; omega
    have c3 : (m == 3) = false := by simp; omega
    have c4 : (m == 4) = false := by simp; omega
    have c5 : (m == 5) = false := by simp; omega
    have c6 : (m == 6) = false := by simp; omega
    have c7 : (m == 7) = false := by simp; omega
    have c8 : (m == 8) = false := by simp; omega
    have c9 : (m == 9) = false := by simp; omega
    have c10 : (m == 10) = false := by simp; omega
    have c11 : (m == 11) = false := by simp; omega
    have c12 : (m == 12) = false := by simp; omega
    clear HM hm
    go_enter Tryz.func82, Tryz.ntmps82
    go_wp2
    go_returns
    exact ⟨rets1 (congrArg (Value.int .i64) HR.out), rfl⟩
end Go.Proofs.YtiecbagejdcafaaGreatDoor
/- What the reference's plain, year, Date, Full and Right of times give. Of every text of at most a million bytes. -/
namespace Go.Proofs.YtiecbagejdcafaaGreatDoor
open Go.RowKit Go.PlainAid
set_option linter.unusedVariables false
def plainP (l : List Int) : Prop := ∀ i, i < l.length → isD (g l i)
instance (l : List Int) : Decidable (plainP l) := by unfold plainP; infer_instance
theorem u8_lt (a b : UInt8) : (a < b) ↔ (a.toNat : Int) < (b.toNat : Int) := by
 rw [UInt8.lt_iff_toNat_lt]; omega
theorem u8_eq (a b : UInt8) : (a = b) ↔ (a.toNat : Int) = (b.toNat : Int) := by
 rw [← UInt8.toNat_inj]; omega
end Go.Proofs.YtiecbagejdcafaaGreatDoor
/- What the reference's Date, Full and Right of times give. Of every text of at most a million bytes. -/
namespace Go.Proofs.YtiecbagejdcafaaGreatDoor
open Go.RowKit Go.PlainAid
set_option linter.unusedVariables false
theorem n2_range {l : List Int} {i : Nat} (h : isD (g l i)) (h2 : isD (g l (i + 1))) : 0 ≤ n2 l i ∧ n2 l i ≤ 99 := by
 unfold isD at *; unfold n2; omega
theorem two_is {l : List Int} {i : Nat} (h : isD (g l i)) (h2 : isD (g l (i + 1))) : twoI l i = n2 l i := if_pos ⟨h, h2⟩
theorem two_neg (l : List Int) (i : Nat) : twoI l i < 0 ↔ ¬ (isD (g l i) ∧ isD (g l (i + 1))) := by
 unfold twoI
 by_cases h : isD (g l i) ∧ isD (g l (i + 1))
 ·rw [if_pos h]
  have := n2_range h.1 h.2
  exact ⟨fun h2 => by omega, fun h2 => absurd h h2⟩
 ·rw [if_neg h]
  exact ⟨fun _ => h, fun _ => by decide⟩
set_option maxRecDepth 100000 in
set_option maxHeartbeats 4000000 in
theorem refDate_any (s : ByteArray) (hs : s.size ≤ 1000000) (w : World) :
  Calls Tryz.prog 57 #[.string s] w fun e w' => e = .returned (.bool (decide (dateP (bl s)))) ∧ w' = w := by
 by_cases h14 : s.size = 14
 ·have hi14 : (s.size : Int) = 14 := by omega
  have HT := Lib.hid (fun (i : Nat) (hi : i + 1 < s.size) => refTwo_any s i hs hi)
  have HN := Lib.hid (two_neg (bl s))
  have HI := Lib.hid (fun (i : Nat) => n2_range (l := bl s) (i := i))
  have HW := Lib.hid (fun (i : Nat) => two_is (l := bl s) (i := i))
  have HD := Lib.hid (date_iff (bl s) (by rw [bl_length]; exact h14))
  have HB : Hid (decide (dateP (bl s)) = true ↔ okD (bl s)) := Lib.hid (by rw [decide_eq_true_eq]; unfold dateP; rw [bl_length]; exact ⟨fun h => h.2, fun h => ⟨h14, h⟩⟩)
  generalize hB : decide (dateP (bl s)) = B at *
  clear hB
  generalize bl s = l at *
  go_enter Tryz.func57, Tryz.ntmps57
  go_wp2
  go_loopw [3] (fun iv wr => ∃ (j : Nat), iv = .int .i64 ((2 * j : Nat) : Int) ∧ j ≤ 7 ∧ wr = w ∧ Hid (∀ k, k < 2 * j → isD (g l k))) (fun iv _ => 14 - (intOf iv).toNat)
  case atStart => exact ⟨0, rfl, by omega, rfl, Lib.hid (by intro j hj; omega)⟩
  case round =>
   obtain ⟨j, rfl, hj, rfl, HK⟩ := hrel
   by_cases hlt : j < 7
   ·have hlti : ((2 * j : Nat) : Int) < 14 := by omega
    have HC := Lib.hid (HT.out (2 * j) (by omega))
    have hn := HN.out (2 * j)
    have HX : Hid (¬ (isD (g l (2 * j)) ∧ isD (g l (2 * j + 1))) → false = B) := Lib.hid (by
     intro h
     cases hb : B
     ·rfl
     ·have := (HD.out.1 (HB.out.1 hb)).1
      exact absurd ⟨this _ (by omega), this _ (by omega)⟩ h)
    have HY : Hid ((isD (g l (2 * j)) ∧ isD (g l (2 * j + 1))) → ∀ k, k < 2 * (j + 1) → isD (g l k)) := Lib.hid (by
     intro h k hk
     by_cases h1 : k < 2 * j
     ·exact HK.out k h1
     ·by_cases h2 : k = 2 * j
      ·rw [h2]; exact h.1
      ·rw [show k = 2 * j + 1 by omega]; exact h.2)
    obtain ⟨q, hq⟩ : ∃ q : Nat, 2 * j = q := ⟨_, rfl⟩
    have HQ : Hid (((q : Nat) : Int) + 2 = ((2 * (j + 1) : Nat) : Int)) := Lib.hid (by omega)
    rw [hq] at HC hn HX HY hlti
    simp only [hq]
    have hq9 : q ≤ 14 := by omega
    generalize twoI l q = t at *
    go_wp2_with fail
    refine (HC.out _).mono ?_
    rintro e w' ⟨rfl, rfl⟩
    by_cases ht : t < 0
    ·have HR := Lib.hid (HX.out (hn.1 ht))
     clear hn HX HY
     go_wp2
     go_returns
     exact ⟨rets1 (congrArg Value.bool HR.out), rfl⟩
    ·have HZ := Lib.hid (HY.out (Classical.byContradiction (fun h => ht (hn.2 h))))
     clear hn HX HY
     go_wp2
     go_roundw
     case rel => exact ⟨j + 1, by rw [HQ.out], by omega, by trivial, HZ⟩
     case measure => simp [intOf]; omega
   ·have hj7 : j = 7 := by omega
    subst hj7
    have hne : ¬ ((2 * 7 : Nat) : Int) < 14 := by decide
    have hd : ∀ k, k < 14 → isD (g l k) := HK.out
    have C : ∀ i : Nat, i + 1 < 14 → ∀ w, Calls Tryz.prog 81 #[.string s, .int .i64 (i : Int)] w fun e w' => e = .returned (.int .i64 (n2 l i)) ∧ w' = w := fun i hi w => by
     have := HT.out i (by omega) w
     rwa [HW.out i (hd i (by omega)) (hd (i + 1) (by omega))] at this
    have C0 : Hid (∀ w, Calls Tryz.prog 81 #[.string s, .int .i64 0] w fun e w' => e = .returned (.int .i64 (n2 l 0)) ∧ w' = w) := Lib.hid (C 0 (by decide))
    have C2 : Hid (∀ w, Calls Tryz.prog 81 #[.string s, .int .i64 2] w fun e w' => e = .returned (.int .i64 (n2 l 2)) ∧ w' = w) := Lib.hid (C 2 (by decide))
    have C4 : Hid (∀ w, Calls Tryz.prog 81 #[.string s, .int .i64 4] w fun e w' => e = .returned (.int .i64 (n2 l 4)) ∧ w' = w) := Lib.hid (C 4 (by decide))
    have C6 : Hid (∀ w, Calls Tryz.prog 81 #[.string s, .int .i64 6] w fun e w' => e = .returned (.int .i64 (n2 l 6)) ∧ w' = w) := Lib.hid (C 6 (by decide))
    have C8 : Hid (∀ w, Calls Tryz.prog 81 #[.string s, .int .i64 8] w fun e w' => e = .returned (.int .i64 (n2 l 8)) ∧ w' = w) := Lib.hid (C 8 (by decide))
    have C10 : Hid (∀ w, Calls Tryz.prog 81 #[.string s, .int .i64 10] w fun e w' => e = .returned (.int .i64 (n2 l 10)) ∧ w' = w) := Lib.hid (C 10 (by decide))
    have C12 : Hid (∀ w, Calls Tryz.prog 81 #[.string s, .int .i64 12] w fun e w' => e = .returned (.int .i64 (n2 l 12)) ∧ w' = w) := Lib.hid (C 12 (by decide))
    have r0 := HI.out 0 (hd 0 (by decide)) (hd 1 (by decide))
    have r2 := HI.out 2 (hd 2 (by decide)) (hd 3 (by decide))
    have HDY := Lib.hid (refDays_any (100 * n2 l 0 + n2 l 2) (n2 l 4) (by omega))
    have HF : Hid (B = true ↔ 1 ≤ n2 l 6 ∧ n2 l 6 ≤ dysI (100 * n2 l 0 + n2 l 2) (n2 l 4) ∧ n2 l 8 < 24 ∧ n2 l 10 < 60 ∧ n2 l 12 < 60) := Lib.hid (by
     rw [HB.out, HD.out]; exact ⟨fun h => h.2, fun h => ⟨hd, h⟩⟩)
    clear C HT HN HI HW HD HB HK hd
    generalize dysI (100 * n2 l 0 + n2 l 2) (n2 l 4) = D at *
    generalize n2 l 0 = a0 at *
    generalize n2 l 2 = a2 at *
    generalize n2 l 4 = a4 at *
    generalize n2 l 6 = a6 at *
    generalize n2 l 8 = a8 at *
    generalize n2 l 10 = a10 at *
    generalize n2 l 12 = a12 at *
    go_wp2_with fail
    refine (C6.out _).mono ?_
    rintro e w' ⟨rfl, rfl⟩
    by_cases h1 : a6 < 1
    ·have HR : Hid (false = B) := Lib.hid (by cases hb : B; rfl; have := HF.out.1 hb; omega)
     clear HF
     go_wp2
     go_returns
     exact ⟨rets1 (congrArg Value.bool HR.out), rfl⟩
    ·go_wp2_with fail
     refine (C0.out _).mono ?_
     rintro e w' ⟨rfl, rfl⟩
     go_wp2_with fail
     refine (C2.out _).mono ?_
     rintro e w' ⟨rfl, rfl⟩
     go_wp2_with fail
     refine (C4.out _).mono ?_
     rintro e w' ⟨rfl, rfl⟩
     go_wp2_with fail
     refine (HDY.out _).mono ?_
     rintro e w' ⟨rfl, rfl⟩
     by_cases hD : D < a6
     ·have HR : Hid (false = B) := Lib.hid (by cases hb : B; rfl; have := HF.out.1 hb; omega)
      clear HF
      go_wp2
      go_returns
      exact ⟨rets1 (congrArg Value.bool HR.out), rfl⟩
     ·go_wp2_with fail
      refine (C8.out _).mono ?_
      rintro e w' ⟨rfl, rfl⟩
      by_cases h8 : a8 < 24
      ·go_wp2_with fail
       refine (C10.out _).mono ?_
       rintro e w' ⟨rfl, rfl⟩
       by_cases h10 : a10 < 60
       ·go_wp2_with fail
        refine (C12.out _).mono ?_
        rintro e w' ⟨rfl, rfl⟩
        have HR : Hid (decide (a12 < 60) = B) := Lib.hid (by
         cases hb : B
         ·exact decide_eq_false (fun h12 => by have := HF.out.2 ⟨by omega, by omega, h8, h10, h12⟩; rw [hb] at this; cases this)
         ·exact decide_eq_true (HF.out.1 hb).2.2.2.2)
        clear HF
        go_wp2
        go_returns
        exact ⟨rets1 (congrArg Value.bool HR.out), rfl⟩
       ·have HR : Hid (false = B) := Lib.hid (by cases hb : B; rfl; have := HF.out.1 hb; omega)
        clear HF
        go_wp2
        go_returns
        exact ⟨rets1 (congrArg Value.bool HR.out), rfl⟩
      ·have HR : Hid (false = B) := Lib.hid (by cases hb : B; rfl; have := HF.out.1 hb; omega)
       clear HF
       go_wp2
       go_returns
       exact ⟨rets1 (congrArg Value.bool HR.out), rfl⟩
 ·have hb : ((s.size : Int) != 14) = true := by simp; omega
  have HR : Hid (false = decide (dateP (bl s))) := Lib.hid (decide_eq_false (fun h => h14 (by rw [← bl_length]; exact h.1))).symm
  clear h14
  go_enter Tryz.func57, Tryz.ntmps57
  go_wp2
  go_returns
  exact ⟨rets1 (congrArg Value.bool HR.out), rfl⟩
end Go.Proofs.YtiecbagejdcafaaGreatDoor
/- What the reference's Full and Right of times give. Of every tag, and every text of at most a million bytes. -/
namespace Go.Proofs.YtiecbagejdcafaaGreatDoor
open Go.RowKit Go.PlainAid
set_option linter.unusedVariables false
def centS (x : Int) : ByteArray := if x < 53 then ⟨#[50, 48]⟩ else ⟨#[49, 57]⟩
theorem centS_bl (x : Int) : bl (centS x) = cent x := by unfold centS cent; split <;> rfl
def fullS (tag : Int) (s : ByteArray) : ByteArray := if tag = 24 then s.extract 0 14 else centS (bt s 0) ++ s.extract 0 12
theorem fullS_bl (tag : Int) (s : ByteArray) (h : 12 ≤ s.size) (h2 : tag = 24 → 14 ≤ s.size) : bl (fullS tag s) = fullC tag (bl s) := by
 unfold fullS fullC
 split
 ·rename_i e; rw [bl_extract _ _ _ (h2 e)]; simp
 ·rw [bl_append, centS_bl, bl_extract _ _ _ h, bt_g]; simp
theorem fullS_size (tag : Int) (s : ByteArray) (h : 12 ≤ s.size) (h2 : tag = 24 → 14 ≤ s.size) : (fullS tag s).size = 14 := by
 rw [← bl_length, fullS_bl tag s h h2]
 unfold fullC
 split
 ·rename_i e; rw [List.length_take, bl_length]; have := h2 e; omega
 ·rw [List.length_append, cent_length, List.length_take, bl_length]; omega
end Go.Proofs.YtiecbagejdcafaaGreatDoor
/- What the reference's grow gives. Of every text of at most a million bytes that has the whole year. -/
namespace Go.Proofs.YtiecbagejdcafaaGreatDoor
open Go.RowKit Go.PlainAid
set_option linter.unusedVariables false
end Go.Proofs.YtiecbagejdcafaaGreatDoor
/- What the reference's Can and Wrong of times give. Of every tag and length, and every text of at most a million bytes. -/
namespace Go.Proofs.YtiecbagejdcafaaGreatDoor
open Go.RowKit Go.PlainAid
set_option linter.unusedVariables false
/-! ### With which byte -/
def whF (tag n : Int) (l : List Int) : Nat → Nat → Int
 |0, _ => -1
 |k + 1, i => if canP tag n (l.take i) then whF tag n l k (i + 1) else i
def whW (tag n : Int) (l : List Int) : Int := whF tag n l (l.length + 1) 0
theorem whF_spec (tag n : Int) (l : List Int) : ∀ k i, (whF tag n l k i = -1 ∧ ∀ j, i ≤ j → j < i + k → canP tag n (l.take j)) ∨ (∃ m : Nat, i ≤ m ∧ m < i + k ∧ whF tag n l k i = (m : Int) ∧ ¬ canP tag n (l.take m) ∧ ∀ j, i ≤ j → j < m → canP tag n (l.take j)) := by
 intro k
 induction k with
 |zero => intro i; exact .inl ⟨rfl, fun j h1 h2 => by omega⟩
 |succ k ih =>
  intro i
  by_cases h : canP tag n (l.take i)
  ·have e : whF tag n l (k + 1) i = whF tag n l k (i + 1) := by rw [whF, if_pos h]
   rw [e]
   rcases ih (i + 1) with ⟨h1, h2⟩ | ⟨m, h1, h2, h3, h4, h5⟩
   ·refine .inl ⟨h1, fun j hj hk => ?_⟩
    by_cases hji : j = i
    ·rw [hji]; exact h
    ·exact h2 j (by omega) (by omega)
   ·refine .inr ⟨m, by omega, by omega, h3, h4, fun j hj hk => ?_⟩
    by_cases hji : j = i
    ·rw [hji]; exact h
    ·exact h5 j (by omega) hk
  ·exact .inr ⟨i, Nat.le_refl _, by omega, by rw [whF, if_neg h], h, fun j h1 h2 => by omega⟩
theorem wh_range (tag n : Int) (l : List Int) : -1 ≤ whW tag n l ∧ whW tag n l ≤ l.length := by
 unfold whW
 rcases whF_spec tag n l (l.length + 1) 0 with ⟨h, _⟩ | ⟨m, _, h2, h3, _⟩
 ·rw [h]; omega
 ·rw [h3]; omega
theorem can_nil {tag n : Int} : canP tag n [] ↔ typ tag n := by
 refine ⟨fun h => h.1, fun h => ⟨h, ?_, fun i hi => by simp at hi⟩⟩
 rcases h with ⟨_, h⟩ | ⟨_, h⟩ <;> rw [h] <;> decide
theorem wh_zero (tag n : Int) (l : List Int) : whW tag n l = 0 ↔ ¬ typ tag n := by
 unfold whW
 rcases whF_spec tag n l (l.length + 1) 0 with ⟨h, h2⟩ | ⟨m, _, h2, h3, h4, h5⟩
 ·rw [h]
  refine ⟨fun e => by omega, fun e => ?_⟩
  have := h2 0 (Nat.le_refl _) (by omega)
  exact absurd (can_nil.1 this) e
 ·rw [h3]
  refine ⟨fun e => ?_, fun e => ?_⟩
  ·have : m = 0 := by omega
   rw [this] at h4
   exact fun ht => h4 (can_nil.2 ht)
  ·by_cases hm : m = 0
   ·rw [hm]; rfl
   ·exact absurd (can_nil.1 (h5 0 (Nat.le_refl _) (by omega))) e
theorem wh_right (tag : Int) (l : List Int) : rightP tag l ↔ whW tag l.length l = -1 := by
 unfold whW
 rcases whF_spec tag l.length l (l.length + 1) 0 with ⟨h1, h2⟩ | ⟨m, _, h2, h3, h4, h5⟩
 ·have := h2 l.length (by omega) (by omega)
  rw [List.take_length] at this
  exact ⟨fun _ => h1, fun _ => this⟩
 ·rw [h3]
  refine ⟨fun hr => ?_, fun e => by omega⟩
  refine absurd ?_ h4
  obtain ⟨r1, r2, r3⟩ := hr
  refine ⟨r1, by rw [List.length_take]; omega, (okC_take _ _ _ _ (by omega)).2 (fun i hi => r3 i (by omega))⟩
end Go.Proofs.YtiecbagejdcafaaGreatDoor
