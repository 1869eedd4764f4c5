/- What the reference's Days, two, plain and year of times give. Of every number, and every text of at most a million bytes. -/
import Derived.Test.YtiiimhamfibdbaaGreatB0
import Derived.Test.YtiiimhamfibdbaaGreatP0
import Derived.Lib.Strings
import Derived.Laws.Cover1
import Derived.Handy
import Derived.Laws.BytesArg
namespace Go.Proofs.YtiiimhamfibdbaaGreat
open Go.RowKit Go.PlainAid
set_option linter.unusedVariables false
def twoI (l : List Int) (i : Nat) : Int := if isD (g l i) ∧ isD (g l (i + 1)) then n2 l i else -1
set_option maxHeartbeats 1600000 in
theorem refTwo_any (s : ByteArray) (i : Nat) (hs : s.size ≤ 1000000) (hi : i + 1 < s.size) (w : World) :
  Calls Tryz.prog 89 #[.string s, .int .i64 (i : Int)] w fun e w' => e = .returned (.int .i64 (twoI (bl s) i)) ∧ w' = w := by
 have hii : (i : Int) < (s.size : Int) := by omega
 have hii1 : (i : Int) + 1 < (s.size : Int) := by omega
 have hin : ((i : Int) + 1).toNat = i + 1 := by omega
 have gx := get_bt s i (by omega)
 have gy := get_bt s (i + 1) hi
 have x0 := bt_nonneg s i
 have x1 := bt_le s i
 have y0 := bt_nonneg s (i + 1)
 have y1 := bt_le s (i + 1)
 have HF : Hid (twoI (bl s) i = if (48 ≤ bt s i ∧ bt s i ≤ 57) ∧ (48 ≤ bt s (i + 1) ∧ bt s (i + 1) ≤ 57) then 10 * (bt s i - 48) + (bt s (i + 1) - 48) else -1) := Lib.hid (by
  rw [bt_g, bt_g]; rfl)
 generalize twoI (bl s) i = R at *
 generalize bt s i = x at *
 generalize bt s (i + 1) = y at *
 by_cases a0 : x - 48 < 0
 ·have HR : Hid (-1 = R) := Lib.hid (by rw [HF.out, if_neg (by omega)])
  clear HF
  go_enter Tryz.func89, Tryz.ntmps89
  go_wp2
  go_returns
  exact ⟨rets1 (congrArg (Value.int .i64) HR.out), rfl⟩
 ·by_cases a9 : 9 < x - 48
  ·have HR : Hid (-1 = R) := Lib.hid (by rw [HF.out, if_neg (by omega)])
   clear HF
   go_enter Tryz.func89, Tryz.ntmps89
   go_wp2
   go_returns
   exact ⟨rets1 (congrArg (Value.int .i64) HR.out), rfl⟩
  ·by_cases b0 : y - 48 < 0
   ·have HR : Hid (-1 = R) := Lib.hid (by rw [HF.out, if_neg (by omega)])
    clear HF
    go_enter Tryz.func89, Tryz.ntmps89
    go_wp2
    go_returns
    exact ⟨rets1 (congrArg (Value.int .i64) HR.out), rfl⟩
   ·by_cases b9 : 9 < y - 48
    ·have HR : Hid (-1 = R) := Lib.hid (by rw [HF.out, if_neg (by omega)])
     clear HF
     go_enter Tryz.func89, Tryz.ntmps89
     go_wp2
     go_returns
     exact ⟨rets1 (congrArg (Value.int .i64) HR.out), rfl⟩
    ·have HR : Hid (10 * (x - 48) + (y - 48) = R) := Lib.hid (by rw [HF.out, if_pos (by omega)])
     clear HF
     go_enter Tryz.func89, Tryz.ntmps89
     go_wp2
     go_returns
     exact ⟨rets1 (congrArg (Value.int .i64) HR.out), rfl⟩
def leapI (y : Int) : Bool := decide (y % 400 = 0 ∨ (y % 4 = 0 ∧ y % 100 ≠ 0))
set_option maxHeartbeats 4000000 in
theorem refDays_any (y m : Int) (hy : -9223372036854775808 ≤ y ∧ y ≤ 9223372036854775807) (w : World) :
  Calls Tryz.prog 90 #[.int .i64 y, .int .i64 m] w fun e w' => e = .returned (.int .i64 (dysI y m)) ∧ w' = w := by
 have HF : Hid (dysI y m = _) := Lib.hid (by unfold dysI; rfl)
 generalize dysI y m = R at *
 by_cases h0 : y < 0
 ·have HR : Hid (0 = R) := Lib.hid (by rw [HF.out, if_pos (.inl h0)])
  clear HF
  go_enter Tryz.func90, Tryz.ntmps90
  go_wp2
  go_returns
  exact ⟨rets1 (congrArg (Value.int .i64) HR.out), rfl⟩
 ·by_cases h1 : 9999 < y
  ·have HR : Hid (0 = R) := Lib.hid (by rw [HF.out, if_pos (.inr h1)])
   clear HF
   go_enter Tryz.func90, Tryz.ntmps90
   go_wp2
   go_returns
   exact ⟨rets1 (congrArg (Value.int .i64) HR.out), rfl⟩
  ·have HM : Hid (R = if m = 1 ∨ m = 3 ∨ m = 5 ∨ m = 7 ∨ m = 8 ∨ m = 10 ∨ m = 12 then 31 else if m = 4 ∨ m = 6 ∨ m = 9 ∨ m = 11 then 30 else if m = 2 then (if y % 400 = 0 ∨ (y % 4 = 0 ∧ y % 100 ≠ 0) then 29 else 28) else 0) := Lib.hid (by rw [HF.out, if_neg (by omega)])
   clear HF
   by_cases hm : 1 ≤ m ∧ m ≤ 12
   ·obtain ⟨m0, m1⟩ := hm
    rcases (by omega : m = 2 ∨ m = 1 ∨ m = 3 ∨ m = 4 ∨ m = 5 ∨ m = 6 ∨ m = 7 ∨ m = 8 ∨ m = 9 ∨ m = 10 ∨ m = 11 ∨ m = 12) with rfl | rfl | rfl | rfl | rfl | rfl | rfl | rfl | rfl | rfl | rfl | rfl
    ·have t4 : y.tmod 4 = y % 4 := Int.tmod_eq_emod_of_nonneg (by omega)
     have t1 : y.tmod 100 = y % 100 := Int.tmod_eq_emod_of_nonneg (by omega)
     have t3 : y.tmod 400 = y % 400 := Int.tmod_eq_emod_of_nonneg (by omega)
     have HL : Hid (R = if y % 400 = 0 ∨ (y % 4 = 0 ∧ y % 100 ≠ 0) then 29 else 28) := Lib.hid (by rw [HM.out, if_neg (by decide), if_neg (by decide), if_pos rfl])
     clear HM
     by_cases l4 : y % 400 = 0
     ·have HR : Hid (29 = R) := Lib.hid (by rw [HL.out, if_pos (.inl l4)])
      clear HL
      go_enter Tryz.func90, Tryz.ntmps90
      go_wp2
      go_returns
      exact ⟨rets1 (congrArg (Value.int .i64) HR.out), rfl⟩
     ·have lb4 : (y % 400 == 0) = false := by simpa using l4
      by_cases l2 : y % 4 = 0
      ·by_cases l1 : y % 100 = 0
       ·have HR : Hid (28 = R) := Lib.hid (by rw [HL.out, if_neg (by omega)])
        clear HL l4
        go_enter Tryz.func90, Tryz.ntmps90
        go_wp2
        go_returns
        exact ⟨rets1 (congrArg (Value.int .i64) HR.out), rfl⟩
       ·have HR : Hid (29 = R) := Lib.hid (by rw [HL.out, if_pos (.inr ⟨l2, l1⟩)])
        have lb1 : (y % 100 != 0) = true := by simpa using l1
        clear HL l4 l1
        go_enter Tryz.func90, Tryz.ntmps90
        go_wp2
        go_returns
        exact ⟨rets1 (congrArg (Value.int .i64) HR.out), rfl⟩
      ·have HR : Hid (28 = R) := Lib.hid (by rw [HL.out, if_neg (by omega)])
       have lb2 : (y % 4 == 0) = false := by simpa using l2
       clear HL l4 l2
       go_enter Tryz.func90, Tryz.ntmps90
       go_wp2
       go_returns
       exact ⟨rets1 (congrArg (Value.int .i64) HR.out), rfl⟩
    all_goals
     have HR := HM.out
     simp at HR
     subst HR
     clear HM
     go_enter Tryz.func90, Tryz.ntmps90
     go_wp2
     go_returns
     exact ⟨rfl, rfl⟩
   ·have HR : Hid (0 = R) := Lib.hid (by rw [HM.out, if_neg (by omega), if_neg (by omega), if_neg (by omega)])
    have c1 : (m == 1) = false := by simp; omega
    have c2 : (m == 2) = false := by simp; omega
    have c3 : (m == 3) = false := by simp; omega
    have c4 : (m == 4) = false := by simp; omega
    have c5 : (m == 5) = false := by simp; omega
    have c6 : (m == 6) = false := by simp; omega
    have c7 : (m == 7) = false := by simp; omega
    have c8 : (m == 8) = false := by simp; omega
    have c9 : (m == 9) = false := by simp; omega
    have c10 : (m == 10) = false := by simp; omega
    have c11 : (m == 11) = false := by simp; omega
    have c12 : (m == 12) = false := by simp; omega
    clear HM hm
    go_enter Tryz.func90, Tryz.ntmps90
    go_wp2
    go_returns
    exact ⟨rets1 (congrArg (Value.int .i64) HR.out), rfl⟩
end Go.Proofs.YtiiimhamfibdbaaGreat
/- What the reference's plain, year, Date, Full and Right of times give. Of every text of at most a million bytes. -/
namespace Go.Proofs.YtiiimhamfibdbaaGreat
open Go.RowKit Go.PlainAid
set_option linter.unusedVariables false
def plainP (l : List Int) : Prop := ∀ i, i < l.length → isD (g l i)
instance (l : List Int) : Decidable (plainP l) := by unfold plainP; infer_instance
theorem refPlain_any (s : ByteArray) (hs : s.size ≤ 1000000) (w : World) :
  Calls Tryz.prog 109 #[.string s] w fun e w' => e = .returned (.bool (decide (plainP (bl s)))) ∧ w' = w := by
 have hb9 : (s.size : Int) ≤ 9223372036854775807 := by omega
 have HGB := Lib.hid (get_bt s)
 have HB := Lib.hid (fun i => bt_g s i)
 have HP : Hid (decide (plainP (bl s)) = true ↔ ∀ i, i < s.size → isD (bt s i)) := Lib.hid (by rw [decide_eq_true_eq]; unfold plainP; rw [bl_length]; exact ⟨fun h i hi => by rw [bt_g]; exact h i hi, fun h i hi => by rw [← bt_g]; exact h i hi⟩)
 generalize decide (plainP (bl s)) = P at *
 go_enter Tryz.func109, Tryz.ntmps109
 go_wp2
 go_loopw [3] (fun iv wr => ∃ (i : Nat), iv = .int .i64 (i : Int) ∧ i ≤ s.size ∧ wr = w ∧ Hid (∀ j, j < i → isD (bt s j))) (fun iv _ => s.size - (intOf iv).toNat)
 case atStart => exact ⟨0, rfl, by omega, rfl, Lib.hid (by intro j hj; omega)⟩
 case round =>
  obtain ⟨i, rfl, hi, rfl, HT⟩ := hrel
  by_cases hlt : i < s.size
  ·have hlti : (i : Int) < (s.size : Int) := by omega
   have gx := HGB.out i hlt
   have HX : Hid (¬ isD (bt s i) → false = P) := Lib.hid (fun h => by cases hp : P; rfl; exact absurd (HP.out.1 hp i hlt) h)
   have HY : Hid (isD (bt s i) → ∀ j, j < i + 1 → isD (bt s j)) := Lib.hid (fun h j hj => by
    by_cases hj2 : j < i
    ·exact HT.out j hj2
    ·obtain rfl : j = i := by omega
     exact h)
   clear HP
   obtain ⟨x, hx⟩ : ∃ x, bt s i = x := ⟨_, rfl⟩
   rw [hx] at gx HX HY
   clear hx
   by_cases a0 : x < 48
   ·have HR : Hid (false = P) := Lib.hid (HX.out (fun h => by have := h.1; omega))
    clear HX HY
    go_wp2
    go_returns
    exact ⟨rets1 (congrArg Value.bool HR.out), rfl⟩
   ·by_cases a9 : 57 < x
    ·have HR : Hid (false = P) := Lib.hid (HX.out (fun h => by have := h.2; omega))
     clear HX HY
     go_wp2
     go_returns
     exact ⟨rets1 (congrArg Value.bool HR.out), rfl⟩
    ·have HZ := Lib.hid (HY.out ⟨by omega, by omega⟩)
     clear HX HY
     go_wp2
     go_roundw
     case rel => exact ⟨i + 1, by simp, by omega, by trivial, HZ⟩
     case measure => simp [intOf]; omega
  ·have hne : ¬ (i : Int) < (s.size : Int) := by omega
   have HR : Hid (true = P) := Lib.hid (HP.out.2 (fun j hj => HT.out j (by omega))).symm
   go_wp2
   go_returns
   exact ⟨rets1 (congrArg Value.bool HR.out), rfl⟩
def nines (l : List Int) : List Int := l ++ List.replicate (4 - l.length) 57
theorem nine_ext (l : List Int) (k : Nat) : (l ++ List.replicate k 57) ++ [57] = l ++ List.replicate (k + 1) (57 : Int) := by
 rw [List.append_assoc, List.replicate_succ']
theorem u8_lt (a b : UInt8) : (a < b) ↔ (a.toNat : Int) < (b.toNat : Int) := by
 rw [UInt8.lt_iff_toNat_lt]; omega
theorem u8_eq (a b : UInt8) : (a = b) ↔ (a.toNat : Int) = (b.toNat : Int) := by
 rw [← UInt8.toNat_inj]; omega
theorem less_2050 (t : ByteArray) (h : t.size = 4) : Op.bytesLess t.toList [50, 48, 53, 48] = decide (bt t 0 < 50 ∨ (bt t 0 = 50 ∧ (bt t 1 < 48 ∨ (bt t 1 = 48 ∧ (bt t 2 < 53 ∨ (bt t 2 = 53 ∧ bt t 3 < 48)))))) := by
 rw [Lib.toList_data]
 obtain ⟨⟨l⟩⟩ := t
 have hl : l.length = 4 := h
 match l, hl with
 |[a, b, c, d], _ =>
  show Op.bytesLess [a, b, c, d] _ = decide ((a.toNat : Int) < 50 ∨ ((a.toNat : Int) = 50 ∧ ((b.toNat : Int) < 48 ∨ ((b.toNat : Int) = 48 ∧ ((c.toNat : Int) < 53 ∨ ((c.toNat : Int) = 53 ∧ (d.toNat : Int) < 48))))))
  have e : Op.bytesLess [a, b, c, d] [50, 48, 53, 48] = (decide (a < 50) || (a == 50 && (decide (b < 48) || (b == 48 && (decide (c < 53) || (c == 53 && (decide (d < 48) || (d == 48 && false)))))))) := rfl
  rw [e]
  have q : ∀ x y : UInt8, (x == y) = decide ((x.toNat : Int) = (y.toNat : Int)) := fun x y => by rw [← decide_eq_decide.2 (u8_eq x y)]; rfl
  have q2 : ∀ x y : UInt8, decide (x < y) = decide ((x.toNat : Int) < (y.toNat : Int)) := fun x y => decide_eq_decide.2 (u8_lt x y)
  rw [q, q, q, q, q2, q2, q2, q2, Bool.and_false, Bool.or_false]
  simp only [Bool.decide_or, Bool.decide_and]
  rfl
theorem nines_at (l : List Int) (i : Nat) (hi : i < 4) (hl : l.length ≤ 4) : g (nines l) i = if i < l.length then g l i else 57 := by
 unfold nines
 split
 ·rename_i h; exact g_left h
 ·rename_i h
  rw [g_right (by omega), g_at (by rw [List.length_replicate]; omega), List.getElem_replicate]
theorem year_is (l : List Int) (hl : l.length ≤ 4) (hp : plainP l) : (yearAt (nines l) 0 ∧ yearAt (nines l) 2) ↔ ∀ i, i < l.length → yearAt l i := by
 have e : ∀ i, i < 4 → g (nines l) i = if i < l.length then g l i else 57 := fun i hi => nines_at l i hi hl
 constructor
 ·rintro ⟨h0, h2⟩ i hi
  refine ⟨fun e0 => ?_, fun e2 => ?_⟩
  ·have := h0.1 rfl
   rwa [e 0 (by decide), if_pos (by omega)] at this
  ·have := h2.2 rfl
   rwa [e 0 (by decide), e 1 (by decide), e 2 (by decide), if_pos (by omega), if_pos (by omega), if_pos (by omega)] at this
 ·intro h
  refine ⟨⟨fun _ => ?_, fun e2 => by omega⟩, ⟨fun e0 => by omega, fun _ => ?_⟩⟩
  ·rw [e 0 (by decide)]
   split
   ·rename_i h0; exact (h 0 h0).1 rfl
   ·decide
  ·rw [e 0 (by decide), e 1 (by decide), e 2 (by decide)]
   by_cases h2 : 2 < l.length
   ·have := (h 2 h2).2 rfl
    rwa [if_pos (by omega), if_pos (by omega), if_pos h2]
   ·rw [if_neg h2]; omega
theorem year_less (t : ByteArray) (h : t.size = 4) (hp : plainP (bl t)) : (!Op.bytesLess t.toList [50, 48, 53, 48]) = decide (yearAt (bl t) 0 ∧ yearAt (bl t) 2) := by
 rw [less_2050 t h]
 have d0 := hp 0 (by rw [bl_length]; omega)
 have d1 := hp 1 (by rw [bl_length]; omega)
 have d2 := hp 2 (by rw [bl_length]; omega)
 have d3 := hp 3 (by rw [bl_length]; omega)
 rw [← bt_g] at d0 d1 d2 d3
 unfold isD at *
 have e : (yearAt (bl t) 0 ∧ yearAt (bl t) 2) ↔ (50 ≤ bt t 0 ∧ (50 < bt t 0 ∨ 48 < bt t 1 ∨ 53 ≤ bt t 2)) := by
  unfold yearAt
  rw [← bt_g, ← bt_g, ← bt_g]
  exact ⟨fun h => ⟨h.1.1 rfl, h.2.2 rfl⟩, fun h => ⟨⟨fun _ => h.1, fun e => by omega⟩, ⟨fun e => by omega, fun _ => h.2⟩⟩⟩
 rw [← decide_not]
 exact decide_eq_decide.2 (Iff.trans (by omega) e.symm)
theorem nines_plain {l : List Int} (h : plainP l) : plainP (nines l) := by
 intro i hi
 by_cases hl : i < l.length
 ·unfold nines; rw [g_left hl]; exact h i hl
 ·unfold nines at hi ⊢
  rw [List.length_append, List.length_replicate] at hi
  rw [g_right (by omega), g_at (by rw [List.length_replicate]; omega), List.getElem_replicate]; decide
theorem refYear_any (s : ByteArray) (hs : s.size ≤ 4) (hp : plainP (bl s)) (w : World) :
  Calls Tryz.prog 110 #[.string s] w fun e w' => e = .returned (.bool (decide (∀ i, i < (bl s).length → yearAt (bl s) i))) ∧ w' = w := by
 go_enter Tryz.func110, Tryz.ntmps110
 go_wp2
 go_loopw [0] (fun tv wr => ∃ (t : ByteArray) (k : Nat), tv = .string t ∧ t.size = s.size + k ∧ t.size ≤ 4 ∧ wr = w ∧ Hid (bl t = bl s ++ List.replicate k 57)) (fun tv _ => 4 - (match tv with | .string t => t.size | _ => 0))
 case atStart => exact ⟨s, 0, rfl, by omega, hs, rfl, Lib.hid (by simp)⟩
 case round =>
  obtain ⟨t, k, rfl, ht, h4, rfl, HT⟩ := hrel
  by_cases hlt : t.size < 4
  ·have hlti : (t.size : Int) < 4 := by omega
   have hmx : ¬ 9223372036854775807 < t.size + (⟨#[57]⟩ : ByteArray).size := by rw [show (⟨#[57]⟩ : ByteArray).size = 1 from rfl]; omega
   go_wp2
   go_roundw
   case rel => exact ⟨t ++ ⟨#[57]⟩, k + 1, rfl, by rw [ByteArray.size_append]; show t.size + 1 = _; omega, by rw [ByteArray.size_append]; show t.size + 1 ≤ _; omega, by trivial, Lib.hid (by rw [bl_append, HT.out, ← nine_ext]; rfl)⟩
   case measure => simp [ByteArray.size_append]; show 4 - (t.size + 1) < _; omega
  ·have hne : ¬ (t.size : Int) < 4 := by omega
   go_wp2
   go_returns
   have h4' : t.size = 4 := by omega
   have hn : bl t = nines (bl s) := by rw [HT.out]; unfold nines; rw [bl_length, show 4 - s.size = k by omega]
   refine ⟨rets1 (congrArg Value.bool ?_), rfl⟩
   show (!Op.bytesLess t.toList [50, 48, 53, 48]) = _
   rw [year_less t h4' (by rw [hn]; exact nines_plain hp), hn]
   exact decide_eq_decide.2 (year_is (bl s) (by rw [bl_length]; exact hs) hp)
end Go.Proofs.YtiiimhamfibdbaaGreat
/- What the reference's Date, Full and Right of times give. Of every text of at most a million bytes. -/
namespace Go.Proofs.YtiiimhamfibdbaaGreat
open Go.RowKit Go.PlainAid
set_option linter.unusedVariables false
theorem n2_range {l : List Int} {i : Nat} (h : isD (g l i)) (h2 : isD (g l (i + 1))) : 0 ≤ n2 l i ∧ n2 l i ≤ 99 := by
 unfold isD at *; unfold n2; omega
theorem two_is {l : List Int} {i : Nat} (h : isD (g l i)) (h2 : isD (g l (i + 1))) : twoI l i = n2 l i := if_pos ⟨h, h2⟩
theorem two_neg (l : List Int) (i : Nat) : twoI l i < 0 ↔ ¬ (isD (g l i) ∧ isD (g l (i + 1))) := by
 unfold twoI
 by_cases h : isD (g l i) ∧ isD (g l (i + 1))
 ·rw [if_pos h]
  have := n2_range h.1 h.2
  exact ⟨fun h2 => by omega, fun h2 => absurd h h2⟩
 ·rw [if_neg h]
  exact ⟨fun _ => h, fun _ => by decide⟩
set_option maxRecDepth 100000 in
set_option maxHeartbeats 4000000 in
theorem refDate_any (s : ByteArray) (hs : s.size ≤ 1000000) (w : World) :
  Calls Tryz.prog 67 #[.string s] w fun e w' => e = .returned (.bool (decide (dateP (bl s)))) ∧ w' = w := by
 by_cases h14 : s.size = 14
 ·have hi14 : (s.size : Int) = 14 := by omega
  have HT := Lib.hid (fun (i : Nat) (hi : i + 1 < s.size) => refTwo_any s i hs hi)
  have HN := Lib.hid (two_neg (bl s))
  have HI := Lib.hid (fun (i : Nat) => n2_range (l := bl s) (i := i))
  have HW := Lib.hid (fun (i : Nat) => two_is (l := bl s) (i := i))
  have HD := Lib.hid (date_iff (bl s) (by rw [bl_length]; exact h14))
  have HB : Hid (decide (dateP (bl s)) = true ↔ okD (bl s)) := Lib.hid (by rw [decide_eq_true_eq]; unfold dateP; rw [bl_length]; exact ⟨fun h => h.2, fun h => ⟨h14, h⟩⟩)
  generalize hB : decide (dateP (bl s)) = B at *
  clear hB
  generalize bl s = l at *
  go_enter Tryz.func67, Tryz.ntmps67
  go_wp2
  go_loopw [3] (fun iv wr => ∃ (j : Nat), iv = .int .i64 ((2 * j : Nat) : Int) ∧ j ≤ 7 ∧ wr = w ∧ Hid (∀ k, k < 2 * j → isD (g l k))) (fun iv _ => 14 - (intOf iv).toNat)
  case atStart => exact ⟨0, rfl, by omega, rfl, Lib.hid (by intro j hj; omega)⟩
  case round =>
   obtain ⟨j, rfl, hj, rfl, HK⟩ := hrel
   by_cases hlt : j < 7
   ·have hlti : ((2 * j : Nat) : Int) < 14 := by omega
    have HC := Lib.hid (HT.out (2 * j) (by omega))
    have hn := HN.out (2 * j)
    have HX : Hid (¬ (isD (g l (2 * j)) ∧ isD (g l (2 * j + 1))) → false = B) := Lib.hid (by
     intro h
     cases hb : B
     ·rfl
     ·have := (HD.out.1 (HB.out.1 hb)).1
      exact absurd ⟨this _ (by omega), this _ (by omega)⟩ h)
    have HY : Hid ((isD (g l (2 * j)) ∧ isD (g l (2 * j + 1))) → ∀ k, k < 2 * (j + 1) → isD (g l k)) := Lib.hid (by
     intro h k hk
     by_cases h1 : k < 2 * j
     ·exact HK.out k h1
     ·by_cases h2 : k = 2 * j
      ·rw [h2]; exact h.1
      ·rw [show k = 2 * j + 1 by omega]; exact h.2)
    obtain ⟨q, hq⟩ : ∃ q : Nat, 2 * j = q := ⟨_, rfl⟩
    have HQ : Hid (((q : Nat) : Int) + 2 = ((2 * (j + 1) : Nat) : Int)) := Lib.hid (by omega)
    rw [hq] at HC hn HX HY hlti
    simp only [hq]
    have hq9 : q ≤ 14 := by omega
    generalize twoI l q = t at *
    go_wp2_with fail
    refine (HC.out _).mono ?_
    rintro e w' ⟨rfl, rfl⟩
    by_cases ht : t < 0
    ·have HR := Lib.hid (HX.out (hn.1 ht))
     clear hn HX HY
     go_wp2
     go_returns
     exact ⟨rets1 (congrArg Value.bool HR.out), rfl⟩
    ·have HZ := Lib.hid (HY.out (Classical.byContradiction (fun h => ht (hn.2 h))))
     clear hn HX HY
     go_wp2
     go_roundw
     case rel => exact ⟨j + 1, by rw [HQ.out], by omega, by trivial, HZ⟩
     case measure => simp [intOf]; omega
   ·have hj7 : j = 7 := by omega
    subst hj7
    have hne : ¬ ((2 * 7 : Nat) : Int) < 14 := by decide
    have hd : ∀ k, k < 14 → isD (g l k) := HK.out
    have C : ∀ i : Nat, i + 1 < 14 → ∀ w, Calls Tryz.prog 89 #[.string s, .int .i64 (i : Int)] w fun e w' => e = .returned (.int .i64 (n2 l i)) ∧ w' = w := fun i hi w => by
     have := HT.out i (by omega) w
     rwa [HW.out i (hd i (by omega)) (hd (i + 1) (by omega))] at this
    have C0 : Hid (∀ w, Calls Tryz.prog 89 #[.string s, .int .i64 0] w fun e w' => e = .returned (.int .i64 (n2 l 0)) ∧ w' = w) := Lib.hid (C 0 (by decide))
    have C2 : Hid (∀ w, Calls Tryz.prog 89 #[.string s, .int .i64 2] w fun e w' => e = .returned (.int .i64 (n2 l 2)) ∧ w' = w) := Lib.hid (C 2 (by decide))
    have C4 : Hid (∀ w, Calls Tryz.prog 89 #[.string s, .int .i64 4] w fun e w' => e = .returned (.int .i64 (n2 l 4)) ∧ w' = w) := Lib.hid (C 4 (by decide))
    have C6 : Hid (∀ w, Calls Tryz.prog 89 #[.string s, .int .i64 6] w fun e w' => e = .returned (.int .i64 (n2 l 6)) ∧ w' = w) := Lib.hid (C 6 (by decide))
    have C8 : Hid (∀ w, Calls Tryz.prog 89 #[.string s, .int .i64 8] w fun e w' => e = .returned (.int .i64 (n2 l 8)) ∧ w' = w) := Lib.hid (C 8 (by decide))
    have C10 : Hid (∀ w, Calls Tryz.prog 89 #[.string s, .int .i64 10] w fun e w' => e = .returned (.int .i64 (n2 l 10)) ∧ w' = w) := Lib.hid (C 10 (by decide))
    have C12 : Hid (∀ w, Calls Tryz.prog 89 #[.string s, .int .i64 12] w fun e w' => e = .returned (.int .i64 (n2 l 12)) ∧ w' = w) := Lib.hid (C 12 (by decide))
    have r0 := HI.out 0 (hd 0 (by decide)) (hd 1 (by decide))
    have r2 := HI.out 2 (hd 2 (by decide)) (hd 3 (by decide))
    have HDY := Lib.hid (refDays_any (100 * n2 l 0 + n2 l 2) (n2 l 4) (by omega))
    have HF : Hid (B = true ↔ 1 ≤ n2 l 6 ∧ n2 l 6 ≤ dysI (100 * n2 l 0 + n2 l 2) (n2 l 4) ∧ n2 l 8 < 24 ∧ n2 l 10 < 60 ∧ n2 l 12 < 60) := Lib.hid (by
     rw [HB.out, HD.out]; exact ⟨fun h => h.2, fun h => ⟨hd, h⟩⟩)
    clear C HT HN HI HW HD HB HK hd
    generalize dysI (100 * n2 l 0 + n2 l 2) (n2 l 4) = D at *
    generalize n2 l 0 = a0 at *
    generalize n2 l 2 = a2 at *
    generalize n2 l 4 = a4 at *
    generalize n2 l 6 = a6 at *
    generalize n2 l 8 = a8 at *
    generalize n2 l 10 = a10 at *
    generalize n2 l 12 = a12 at *
    go_wp2_with fail
    refine (C6.out _).mono ?_
    rintro e w' ⟨rfl, rfl⟩
    by_cases h1 : a6 < 1
    ·have HR : Hid (false = B) := Lib.hid (by cases hb : B; rfl; have := HF.out.1 hb; omega)
     clear HF
     go_wp2
     go_returns
     exact ⟨rets1 (congrArg Value.bool HR.out), rfl⟩
    ·go_wp2_with fail
     refine (C0.out _).mono ?_
     rintro e w' ⟨rfl, rfl⟩
     go_wp2_with fail
     refine (C2.out _).mono ?_
     rintro e w' ⟨rfl, rfl⟩
     go_wp2_with fail
     refine (C4.out _).mono ?_
     rintro e w' ⟨rfl, rfl⟩
     go_wp2_with fail
     refine (HDY.out _).mono ?_
     rintro e w' ⟨rfl, rfl⟩
     by_cases hD : D < a6
     ·have HR : Hid (false = B) := Lib.hid (by cases hb : B; rfl; have := HF.out.1 hb; omega)
      clear HF
      go_wp2
      go_returns
      exact ⟨rets1 (congrArg Value.bool HR.out), rfl⟩
     ·go_wp2_with fail
      refine (C8.out _).mono ?_
      rintro e w' ⟨rfl, rfl⟩
      by_cases h8 : a8 < 24
      ·go_wp2_with fail
       refine (C10.out _).mono ?_
       rintro e w' ⟨rfl, rfl⟩
       by_cases h10 : a10 < 60
       ·go_wp2_with fail
        refine (C12.out _).mono ?_
        rintro e w' ⟨rfl, rfl⟩
        have HR : Hid (decide (a12 < 60) = B) := Lib.hid (by
         cases hb : B
         ·exact decide_eq_false (fun h12 => by have := HF.out.2 ⟨by omega, by omega, h8, h10, h12⟩; rw [hb] at this; cases this)
         ·exact decide_eq_true (HF.out.1 hb).2.2.2.2)
        clear HF
        go_wp2
        go_returns
        exact ⟨rets1 (congrArg Value.bool HR.out), rfl⟩
       ·have HR : Hid (false = B) := Lib.hid (by cases hb : B; rfl; have := HF.out.1 hb; omega)
        clear HF
        go_wp2
        go_returns
        exact ⟨rets1 (congrArg Value.bool HR.out), rfl⟩
      ·have HR : Hid (false = B) := Lib.hid (by cases hb : B; rfl; have := HF.out.1 hb; omega)
       clear HF
       go_wp2
       go_returns
       exact ⟨rets1 (congrArg Value.bool HR.out), rfl⟩
 ·have hb : ((s.size : Int) != 14) = true := by simp; omega
  have HR : Hid (false = decide (dateP (bl s))) := Lib.hid (decide_eq_false (fun h => h14 (by rw [← bl_length]; exact h.1))).symm
  clear h14
  go_enter Tryz.func67, Tryz.ntmps67
  go_wp2
  go_returns
  exact ⟨rets1 (congrArg Value.bool HR.out), rfl⟩
end Go.Proofs.YtiiimhamfibdbaaGreat
/- What the reference's Full and Right of times give. Of every tag, and every text of at most a million bytes. -/
namespace Go.Proofs.YtiiimhamfibdbaaGreat
open Go.RowKit Go.PlainAid
set_option linter.unusedVariables false
def centS (x : Int) : ByteArray := if x < 53 then ⟨#[50, 48]⟩ else ⟨#[49, 57]⟩
theorem centS_bl (x : Int) : bl (centS x) = cent x := by unfold centS cent; split <;> rfl
def fullS (tag : Int) (s : ByteArray) : ByteArray := if tag = 24 then s.extract 0 14 else centS (bt s 0) ++ s.extract 0 12
theorem fullS_bl (tag : Int) (s : ByteArray) (h : 12 ≤ s.size) (h2 : tag = 24 → 14 ≤ s.size) : bl (fullS tag s) = fullC tag (bl s) := by
 unfold fullS fullC
 split
 ·rename_i e; rw [bl_extract _ _ _ (h2 e)]; simp
 ·rw [bl_append, centS_bl, bl_extract _ _ _ h, bt_g]; simp
theorem fullS_size (tag : Int) (s : ByteArray) (h : 12 ≤ s.size) (h2 : tag = 24 → 14 ≤ s.size) : (fullS tag s).size = 14 := by
 rw [← bl_length, fullS_bl tag s h h2]
 unfold fullC
 split
 ·rename_i e; rw [List.length_take, bl_length]; have := h2 e; omega
 ·rw [List.length_append, cent_length, List.length_take, bl_length]; omega
theorem refFull_any (tag : Int) (s : ByteArray) (hs : s.size ≤ 1000000) (h : 12 ≤ s.size) (h2 : tag = 24 → 14 ≤ s.size) (w : World) :
  Calls Tryz.prog 126 #[.int .i64 tag, .string s] w fun e w' => e = .returned (.string (fullS tag s)) ∧ w' = w := by
 by_cases ht : tag = 24
 ·subst ht
  have hl : (14 : Int) ≤ (s.size : Int) := by have := h2 rfl; omega
  have HF : Hid (s.extract 0 14 = fullS 24 s) := Lib.hid rfl
  clear h2
  go_enter Tryz.func126, Tryz.ntmps126
  go_wp2
  go_returns
  exact ⟨rets1 (congrArg Value.string HF.out), rfl⟩
 ·have htb : (tag == 24) = false := by simpa using ht
  have hl : (12 : Int) ≤ (s.size : Int) := by omega
  have hi0 : (0 : Int) < (s.size : Int) := by omega
  have gx := get_bt s 0 (by omega)
  have hsz : (s.extract 0 12).size = 12 := by rw [ByteArray.size_extract]; omega
  have HF : Hid (fullS tag s = centS (bt s 0) ++ s.extract 0 12) := Lib.hid (if_neg ht)
  generalize fullS tag s = R at *
  generalize bt s 0 = x at *
  have hm1 : ¬ 9223372036854775807 < (⟨#[50, 48]⟩ : ByteArray).size + (s.extract 0 12).size := by rw [hsz]; decide
  have hm2 : ¬ 9223372036854775807 < (⟨#[49, 57]⟩ : ByteArray).size + (s.extract 0 12).size := by rw [hsz]; decide
  clear h2 ht
  by_cases hx : x < 53
  ·have HR : Hid ((⟨#[50, 48]⟩ : ByteArray) ++ s.extract 0 12 = R) := Lib.hid (by rw [HF.out]; unfold centS; rw [if_pos hx])
   clear HF
   go_enter Tryz.func126, Tryz.ntmps126
   go_wp2
   go_returns
   exact ⟨rets1 (congrArg Value.string HR.out), rfl⟩
  ·have HR : Hid ((⟨#[49, 57]⟩ : ByteArray) ++ s.extract 0 12 = R) := Lib.hid (by rw [HF.out]; unfold centS; rw [if_neg hx])
   clear HF
   go_enter Tryz.func126, Tryz.ntmps126
   go_wp2
   go_returns
   exact ⟨rets1 (congrArg Value.string HR.out), rfl⟩
theorem dateP_plain4 {l : List Int} (h : dateP (fullC 24 l)) (hl : l.length = 15) : plainP (l.take 4) := by
 intro i hi
 rw [List.length_take, hl] at hi
 have hi : i < 4 := hi
 have hf : fullC 24 l = l.take 14 := if_pos rfl
 rw [hf] at h
 have := (h.2 i (by rw [h.1]; omega)).1
 rw [g_take (by omega)] at this ⊢
 exact this
set_option maxRecDepth 100000 in
set_option maxHeartbeats 4000000 in
theorem refRightW_any (tag : Int) (s : ByteArray) (hs : s.size ≤ 1000000) (w : World) :
  Calls Tryz.prog 125 #[.int .i64 tag, .string s] w fun e w' => e = .returned (.bool (decide (rightP tag (bl s)))) ∧ w' = w := by
 by_cases h23 : tag = 23
 ·subst h23
  have HR := Lib.hid (right_utc (bl s))
  rw [bl_length, ← bt_g] at HR
  by_cases hl : s.size = 13
  ·have hli : (s.size : Int) = 13 := by omega
   have hi : (12 : Int) < (s.size : Int) := by omega
   have hn12 : 12 < s.size := by omega
   have gx := get_bt s 12 hn12
   have HFU := Lib.hid (refFull_any 23 s hs (by omega) (fun e => absurd e (by decide)))
   have HDA := Lib.hid (refDate_any (fullS 23 s) (by rw [fullS_size _ _ (by omega) (fun e => absurd e (by decide))]; decide))
   rw [fullS_bl 23 s (by omega) (fun e => absurd e (by decide))] at HDA
   generalize fullS 23 s = F at *
   by_cases hz : bt s 12 = 90
   ·have HB : Hid (decide (rightP 23 (bl s)) = decide (dateP (fullC 23 (bl s)))) := Lib.hid (decide_eq_decide.2 ⟨fun h => (HR.out.1 h).2.2, fun h => HR.out.2 ⟨hl, hz, h⟩⟩)
    generalize decide (dateP (fullC 23 (bl s))) = D at *
    rw [HB.out]
    rw [hz] at gx
    clear HB HR hz hl
    go_enter Tryz.func125, Tryz.ntmps125
    go_wp2_with fail
    refine (HFU.out _).mono ?_
    rintro e w' ⟨rfl, rfl⟩
    go_wp2_with fail
    refine (HDA.out _).mono ?_
    rintro e w' ⟨rfl, rfl⟩
    go_wp2
    go_returns
    exact ⟨rfl, rfl⟩
   ·have HB : Hid (false = decide (rightP 23 (bl s))) := Lib.hid (decide_eq_false (fun h => hz (HR.out.1 h).2.1)).symm
    have hzb : (bt s 12 == 90) = false := by simpa using hz
    generalize decide (rightP 23 (bl s)) = B at *
    clear HR hz hl HDA HFU
    go_enter Tryz.func125, Tryz.ntmps125
    go_wp2
    go_returns
    exact ⟨rets1 (congrArg Value.bool HB.out), rfl⟩
  ·have hlb : ((s.size : Int) == 13) = false := by simp; omega
   have HB : Hid (false = decide (rightP 23 (bl s))) := Lib.hid (decide_eq_false (fun h => hl (HR.out.1 h).1)).symm
   generalize decide (rightP 23 (bl s)) = B at *
   clear HR hl
   go_enter Tryz.func125, Tryz.ntmps125
   go_wp2
   go_returns
   exact ⟨rets1 (congrArg Value.bool HB.out), rfl⟩
 ·have hb23 : (tag == 23) = false := by simpa using h23
  by_cases h24 : tag = 24
  ·subst h24
   have HR := Lib.hid (right_gen (bl s))
   rw [bl_length, ← bt_g] at HR
   clear h23 hb23
   by_cases hl : s.size = 15
   ·have hli : (s.size : Int) = 15 := by omega
    have hi : (14 : Int) < (s.size : Int) := by omega
    have hl4 : (4 : Int) ≤ (s.size : Int) := by omega
    have hn14 : 14 < s.size := by omega
    have gx := get_bt s 14 hn14
    have HFU := Lib.hid (refFull_any 24 s hs (by omega) (fun e => by omega))
    have HDA := Lib.hid (refDate_any (fullS 24 s) (by rw [fullS_size _ _ (by omega) (fun e => by omega)]; decide))
    rw [fullS_bl 24 s (by omega) (fun e => by omega)] at HDA
    generalize fullS 24 s = F at *
    by_cases hz : bt s 14 = 90
    ·have hzg := gx
     rw [hz] at hzg
     by_cases hd : dateP (fullC 24 (bl s))
     ·have hsz4 : (s.extract 0 4).size = 4 := by rw [ByteArray.size_extract]; omega
      have hbl4 : bl (s.extract 0 4) = (bl s).take 4 := by rw [bl_extract _ _ _ (by omega)]; simp
      have HB : Hid ((!Op.bytesLess (s.extract 0 4).toList [50, 48, 53, 48]) = decide (rightP 24 (bl s))) := Lib.hid (by
       rw [year_less _ hsz4 (by rw [hbl4]; exact dateP_plain4 hd (by rw [bl_length]; exact hl)), hbl4]
       apply decide_eq_decide.2
       rw [yearAt_congr (l := (bl s).take 4) (m := bl s) (i := 0) (fun j hj => g_take (by omega)), yearAt_congr (l := (bl s).take 4) (m := bl s) (i := 2) (fun j hj => g_take (by omega))]
       exact ⟨fun h => HR.out.2 ⟨hl, hz, hd, h⟩, fun h => (HR.out.1 h).2.2.2⟩)
      rw [decide_eq_true hd] at HDA
      generalize decide (rightP 24 (bl s)) = B at *
      clear HR hz hl hd gx
      go_enter Tryz.func125, Tryz.ntmps125
      go_wp2_with fail
      refine (HFU.out _).mono ?_
      rintro e w' ⟨rfl, rfl⟩
      go_wp2_with fail
      refine (HDA.out _).mono ?_
      rintro e w' ⟨rfl, rfl⟩
      go_wp2
      go_returns
      exact ⟨rets1 (congrArg Value.bool HB.out), rfl⟩
     ·have HB : Hid (false = decide (rightP 24 (bl s))) := Lib.hid (decide_eq_false (fun h => hd (HR.out.1 h).2.2.1)).symm
      rw [decide_eq_false hd] at HDA
      generalize decide (rightP 24 (bl s)) = B at *
      clear HR hz hl hd gx
      go_enter Tryz.func125, Tryz.ntmps125
      go_wp2_with fail
      refine (HFU.out _).mono ?_
      rintro e w' ⟨rfl, rfl⟩
      go_wp2_with fail
      refine (HDA.out _).mono ?_
      rintro e w' ⟨rfl, rfl⟩
      go_wp2
      go_returns
      exact ⟨rets1 (congrArg Value.bool HB.out), rfl⟩
    ·have HB : Hid (false = decide (rightP 24 (bl s))) := Lib.hid (decide_eq_false (fun h => hz (HR.out.1 h).2.1)).symm
     have hzb : (bt s 14 == 90) = false := by simpa using hz
     generalize decide (rightP 24 (bl s)) = B at *
     clear HR hz hl HDA HFU
     go_enter Tryz.func125, Tryz.ntmps125
     go_wp2
     go_returns
     exact ⟨rets1 (congrArg Value.bool HB.out), rfl⟩
   ·have hlb : ((s.size : Int) == 15) = false := by simp; omega
    have HB : Hid (false = decide (rightP 24 (bl s))) := Lib.hid (decide_eq_false (fun h => hl (HR.out.1 h).1)).symm
    generalize decide (rightP 24 (bl s)) = B at *
    clear HR hl
    go_enter Tryz.func125, Tryz.ntmps125
    go_wp2
    go_returns
    exact ⟨rets1 (congrArg Value.bool HB.out), rfl⟩
  ·have hb24 : (tag == 24) = false := by simpa using h24
   have HB : Hid (false = decide (rightP tag (bl s))) := Lib.hid (decide_eq_false (right_none h23 h24 _)).symm
   generalize decide (rightP tag (bl s)) = B at *
   clear h23 h24
   go_enter Tryz.func125, Tryz.ntmps125
   go_wp2
   go_returns
   exact ⟨rets1 (congrArg Value.bool HB.out), rfl⟩
end Go.Proofs.YtiiimhamfibdbaaGreat
/- What the reference's grow gives. Of every text of at most a million bytes that has the whole year. -/
namespace Go.Proofs.YtiiimhamfibdbaaGreat
open Go.RowKit Go.PlainAid
set_option linter.unusedVariables false
theorem bl_one {x : Int} (h0 : 0 ≤ x) (h1 : x ≤ 255) (s : ByteArray) : bl (s ++ strOfNums [x]) = bl s ++ [x] := by
 rw [bl_append, bl_str (IsB.cons h0 h1 IsB.nil)]
set_option maxRecDepth 100000 in
set_option maxHeartbeats 4000000 in
theorem refGrow_any (tag n : Int) (ht : typ tag n) : ∀ (k : Nat) (s : ByteArray), s.size ≤ 1000000 → n - 10 ≤ s.size → n - s.size ≤ k → ∀ (w : World),
  Calls Tryz.prog 111 #[.int .i64 tag, .int .i64 n, .string s] w fun e w' => e = .returned (.bool (decide (canP tag n (bl s)))) ∧ Below w.heap.size w w' := by
 intro k
 induction k with
 |zero =>
  intro s hs h10 hk w
  have hov : n ≤ (s.size : Int) := by omega
  have HR := Lib.hid (refRightW_any tag s hs)
  rw [decide_eq_decide.2 (can_over (l := bl s) ht (by rw [bl_length]; exact hov))] at HR
  generalize decide (canP tag n (bl s)) = B at *
  go_enter Tryz.func111, Tryz.ntmps111
  go_wp2_with fail
  refine (HR.out _).mono ?_
  rintro e w' ⟨rfl, rfl⟩
  go_wp2
  go_returns
  exact ⟨rfl, Below.refl _ _⟩
 |succ k ih =>
  intro s hs h10 hk w
  have hn13 : 13 ≤ n ∧ n ≤ 15 := by rcases ht with ⟨_, h⟩ | ⟨_, h⟩ <;> omega
  by_cases hov : n ≤ (s.size : Int)
  ·have HR := Lib.hid (refRightW_any tag s hs)
   rw [decide_eq_decide.2 (can_over (l := bl s) ht (by rw [bl_length]; exact hov))] at HR
   generalize decide (canP tag n (bl s)) = B at *
   clear ih
   go_enter Tryz.func111, Tryz.ntmps111
   go_wp2_with fail
   refine (HR.out _).mono ?_
   rintro e w' ⟨rfl, rfl⟩
   go_wp2
   go_returns
   exact ⟨rfl, Below.refl _ _⟩
  ·by_cases h1 : (s.size : Int) = n - 1
   ·have h1b : ((s.size : Int) == n - 1) = true := by simpa using h1
    have HR := Lib.hid (refRightW_any tag (s ++ ⟨#[90]⟩) (by rw [ByteArray.size_append]; show s.size + 1 ≤ _; omega))
    have e : bl (s ++ ⟨#[90]⟩) = bl s ++ [90] := by rw [bl_append]; rfl
    rw [e, decide_eq_decide.2 (can_last (l := bl s) ht (by rw [bl_length]; exact h1))] at HR
    have hmx : ¬ 9223372036854775807 < s.size + (⟨#[90]⟩ : ByteArray).size := by rw [show (⟨#[90]⟩ : ByteArray).size = 1 from rfl]; omega
    generalize decide (canP tag n (bl s)) = B at *
    clear ih e h1
    go_enter Tryz.func111, Tryz.ntmps111
    go_wp2_with fail
    refine (HR.out _).mono ?_
    rintro e w' ⟨rfl, rfl⟩
    go_wp2
    go_returns
    exact ⟨rfl, Below.refl _ _⟩
   ·have h1b : ((s.size : Int) == n - 1) = false := by simpa using h1
    have htm : (n - (s.size : Int)).tmod 2 = (n - (s.size : Int)) % 2 := Int.tmod_eq_emod_of_nonneg (by omega)
    by_cases h7 : n - 7 ≤ (s.size : Int) ∧ (n - (s.size : Int)) % 2 = 1
    ·obtain ⟨h7, ho⟩ := h7
     have HR := Lib.hid (ih (s ++ ⟨#[48, 48]⟩) (by rw [ByteArray.size_append]; show s.size + 2 ≤ _; omega) (by rw [ByteArray.size_append]; show n - 10 ≤ ((s.size + 2 : Nat) : Int); omega) (by rw [ByteArray.size_append]; show n - ((s.size + 2 : Nat) : Int) ≤ k; omega))
     have e : bl (s ++ ⟨#[48, 48]⟩) = bl s ++ [48, 48] := by rw [bl_append]; rfl
     rw [e, decide_eq_decide.2 (can_zeros (l := bl s) ht (by rw [bl_length]; exact h7) (by rw [bl_length]; omega))] at HR
     have hmx : ¬ 9223372036854775807 < s.size + (⟨#[48, 48]⟩ : ByteArray).size := by rw [show (⟨#[48, 48]⟩ : ByteArray).size = 2 from rfl]; omega
     generalize decide (canP tag n (bl s)) = B at *
     clear ih e h1
     go_enter Tryz.func111, Tryz.ntmps111
     go_wp2_with fail
     refine (HR.out _).mono ?_
     rintro e w' ⟨rfl, hb⟩
     go_wp2
     go_returns
     exact ⟨rfl, hb⟩
    ·have HIH := Lib.hid (fun (x : Int) (h0 : 0 ≤ x) (h2 : x ≤ 255) => ih (s ++ strOfNums [x]) (by rw [ByteArray.size_append, strOfNums_size]; show s.size + 1 ≤ _; omega) (by rw [ByteArray.size_append, strOfNums_size]; show n - 10 ≤ ((s.size + 1 : Nat) : Int); omega) (by rw [ByteArray.size_append, strOfNums_size]; show n - ((s.size + 1 : Nat) : Int) ≤ k; omega))
     have HBL := Lib.hid (fun (x : Int) (h0 : 0 ≤ x) (h2 : x ≤ 255) => bl_one h0 h2 s)
     have HW : Hid (∀ h : canP tag n (bl s), canP tag n (bl s ++ [48]) ∨ canP tag n (bl s ++ [49])) := Lib.hid (fun h => can_wit h (by rw [bl_length]; exact h10) (by rw [bl_length]; omega))
     have HI : Hid (∀ x, canP tag n (bl s ++ [x]) → canP tag n (bl s)) := Lib.hid (fun x h => canP_init h)
     have hmx : ∀ x : Int, ¬ 9223372036854775807 < s.size + (strOfNums [x]).size := fun x => by rw [strOfNums_size]; simp only [List.length_cons, List.length_nil]; omega
     have HMX := Lib.hid hmx
     clear ih hmx h1
     have hcase : ¬ n - 7 ≤ (s.size : Int) ∨ (n - 7 ≤ (s.size : Int) ∧ ((n - (s.size : Int)) % 2 == 1) = false) := by
      by_cases h : n - 7 ≤ (s.size : Int)
      ·refine .inr ⟨h, ?_⟩; simp; omega
      ·exact .inl h
     rcases hcase with h7n | ⟨h7n, hodd⟩
     all_goals
      clear h7
      go_enter Tryz.func111, Tryz.ntmps111
      go_wp2
      go_loopw [7] (fun dv wr => ∃ (d : Nat), dv = .int .i64 (d : Int) ∧ d ≤ 10 ∧ Hid (Below w.heap.size w wr) ∧ Hid (∀ e : Nat, e < d → ¬ canP tag n (bl s ++ [48 + (e : Int)]))) (fun dv _ => 10 - (intOf dv).toNat)
      case atStart => exact ⟨0, rfl, by omega, Lib.hid (Below.refl _ _), Lib.hid (by intro e he; omega)⟩
      case round =>
       obtain ⟨d, rfl, hd, HB, HN⟩ := hrel
       by_cases hlt : d < 10
       ·have hlti : (d : Int) < 10 := by omega
        have h8 : (48 + (d : Int)) % 256 = 48 + (d : Int) := by omega
        have hcv := conv_one wr (48 + (d : Int))
        have hmx := HMX.out (48 + (d : Int))
        have HC := Lib.hid (HIH.out (48 + (d : Int)) (by omega) (by omega))
        rw [HBL.out (48 + (d : Int)) (by omega) (by omega)] at HC
        have HX : Hid (decide (canP tag n (bl s ++ [48 + (d : Int)])) = true → decide (canP tag n (bl s)) = true) := Lib.hid (fun h => decide_eq_true (HI.out _ (of_decide_eq_true h)))
        have HY : Hid (decide (canP tag n (bl s ++ [48 + (d : Int)])) = false → ∀ e : Nat, e < d + 1 → ¬ canP tag n (bl s ++ [48 + (e : Int)])) := Lib.hid (fun h e he => by
         by_cases h2 : e < d
         ·exact HN.out e h2
         ·obtain rfl : e = d := by omega
          exact of_decide_eq_false h)
        generalize decide (canP tag n (bl s ++ [48 + (d : Int)])) = B at *
        go_wp2_with fail
        refine (HC.out _).mono ?_
        rintro e w' ⟨rfl, hb⟩
        have HB2 := Lib.hid ((HB.out.alloc HB.out.size (.cells #[.int .u8 (48 + (d : Int))] 5)).trans (hb.mono (Nat.le_trans HB.out.size (by simp))))
        clear hb hcv HC
        cases B
        ·have HZ := Lib.hid (HY.out rfl)
         clear HX HY
         go_wp2
         go_roundw
         case rel => exact ⟨d + 1, by simp, by omega, HB2, HZ⟩
         case measure => simp [intOf]; omega
        ·have HZ := Lib.hid (HX.out rfl)
         clear HX HY
         go_wp2
         go_returns
         exact ⟨rets1 (congrArg Value.bool HZ.out.symm), HB2.out⟩
       ·have hne : ¬ (d : Int) < 10 := by omega
        have HZ : Hid (false = decide (canP tag n (bl s))) := Lib.hid (decide_eq_false (fun h => by
         rcases HW.out h with h2 | h2
         ·exact HN.out 0 (by omega) h2
         ·exact HN.out 1 (by omega) h2)).symm
        go_wp2
        go_returns
        exact ⟨rets1 (congrArg Value.bool HZ.out), HB.out⟩
end Go.Proofs.YtiiimhamfibdbaaGreat
/- What the reference's Can and Wrong of times give. Of every tag and length, and every text of at most a million bytes. -/
namespace Go.Proofs.YtiiimhamfibdbaaGreat
open Go.RowKit Go.PlainAid
set_option linter.unusedVariables false
theorem stepAt_low {L : List Int} {i : Nat} (h : i ≤ 3) : stepAt L i ↔ isD (g L i) :=
 ⟨fun h => h.1, fun h2 => ⟨h2, fun e => by omega, fun e => by omega, fun e => by omega, fun e => by omega, fun e => by omega, fun e => by omega, fun e => by omega, fun e => by omega⟩⟩
theorem can_front_utc {l : List Int} (hl : l.length ≤ 2) : canP 23 13 l ↔ plainP l := by
 unfold canP okC plainP
 have key : ∀ i, i < l.length → (stepC 23 13 l i ↔ isD (g l i)) := by
  intro i hi
  have hg : g (fullP 23 l) (i + 2) = g l i := by unfold fullP; rw [if_neg (by decide), g_right (by rw [cent_length]; omega), cent_length, Nat.add_sub_cancel]
  unfold stepC
  have hs : stepAt (fullP 23 l) (i + offT 23) ↔ isD (g l i) := by
   show stepAt (fullP 23 l) (i + 2) ↔ _
   rw [stepAt_low (by omega), hg]
  rw [hs]
  exact ⟨fun h => (h.2 (by omega)).1, fun h => ⟨fun e => by omega, fun _ => ⟨h, fun e => absurd e (by decide)⟩⟩⟩
 exact ⟨fun h i hi => (key i hi).1 (h.2.2 i hi), fun h => ⟨.inl ⟨rfl, rfl⟩, by omega, fun i hi => (key i hi).2 (h i hi)⟩⟩
theorem can_front_gen {l : List Int} (hl : l.length ≤ 4) : canP 24 15 l ↔ plainP l ∧ ∀ i, i < l.length → yearAt l i := by
 unfold canP okC plainP
 have key : ∀ i, i < l.length → (stepC 24 15 l i ↔ isD (g l i) ∧ yearAt l i) := by
  intro i hi
  unfold stepC
  have hs : stepAt (fullP 24 l) (i + offT 24) ↔ isD (g l i) := by
   show stepAt l i ↔ _
   rw [stepAt_low (by omega)]
  rw [hs]
  exact ⟨fun h => ⟨(h.2 (by omega)).1, (h.2 (by omega)).2 rfl⟩, fun h => ⟨fun e => by omega, fun _ => ⟨h.1, fun _ => h.2⟩⟩⟩
 exact ⟨fun h => ⟨fun i hi => ((key i hi).1 (h.2.2 i hi)).1, fun i hi => ((key i hi).1 (h.2.2 i hi)).2⟩, fun h => ⟨.inr ⟨rfl, rfl⟩, by omega, fun i hi => (key i hi).2 ⟨h.1 i hi, h.2 i hi⟩⟩⟩
theorem can_typ {tag n : Int} {l : List Int} (h : ¬ typ tag n) : ¬ canP tag n l := fun hc => h hc.1
set_option maxRecDepth 100000 in
set_option maxHeartbeats 4000000 in
theorem refCan_any (tag n : Int) (s : ByteArray) (hs : s.size ≤ 1000000) (w : World) :
  Calls Tryz.prog 84 #[.int .i64 tag, .int .i64 n, .string s] w fun e w' => e = .returned (.bool (decide (canP tag n (bl s)))) ∧ Below w.heap.size w w' := by
 have hb9 : (s.size : Int) ≤ 1000000 := by omega
 have HPL := Lib.hid (refPlain_any s hs)
 by_cases h23 : tag = 23
 ·subst h23
  by_cases hn : n = 13
  ·subst hn
   by_cases hl : (s.size : Int) ≤ 2
   ·have HF : Hid (decide (plainP (bl s)) = decide (canP 23 13 (bl s))) := Lib.hid (decide_eq_decide.2 (can_front_utc (l := bl s) (by rw [bl_length]; omega)).symm)
    generalize decide (plainP (bl s)) = Y at *
    generalize decide (canP 23 13 (bl s)) = B at *
    cases Y
    all_goals
     go_enter Tryz.func84, Tryz.ntmps84
     go_wp2_with fail
     refine (HPL.out _).mono ?_
     rintro e w' ⟨rfl, rfl⟩
     go_wp2
     go_returns
     exact ⟨rets1 (congrArg Value.bool HF.out), Below.refl _ _⟩
   ·have HG := Lib.hid (refGrow_any 23 13 (.inl ⟨rfl, rfl⟩) 13 s hs (by omega) (by omega))
    generalize decide (canP 23 13 (bl s)) = B at *
    go_enter Tryz.func84, Tryz.ntmps84
    go_wp2_with fail
    refine (HG.out _).mono ?_
    rintro e w1 ⟨rfl, hb⟩
    go_wp2
    go_returns
    exact ⟨rfl, hb⟩
  ·have hnb : (n != 13) = true := by simpa using hn
   have HF : Hid (false = decide (canP 23 n (bl s))) := Lib.hid (decide_eq_false (can_typ (fun h => by rcases h with ⟨_, h⟩ | ⟨h, _⟩; exact hn h; exact absurd h (by decide)))).symm
   generalize decide (canP 23 n (bl s)) = B at *
   clear hn
   go_enter Tryz.func84, Tryz.ntmps84
   go_wp2
   go_returns
   exact ⟨rets1 (congrArg Value.bool HF.out), Below.refl _ _⟩
 ·have hb23 : (tag == 23) = false := by simpa using h23
  have hc23 : (tag != 23) = true := by simpa using h23
  by_cases h24 : tag = 24
  ·subst h24
   clear h23 hb23 hc23
   by_cases hn : n = 15
   ·subst hn
    by_cases hl : (s.size : Int) ≤ 4
    ·have HCF := Lib.hid (can_front_gen (l := bl s) (by rw [bl_length]; omega))
     by_cases hp : plainP (bl s)
     ·have HY := Lib.hid (refYear_any s (by omega) hp)
      rw [decide_eq_true hp] at HPL
      have HF : Hid (decide (∀ i, i < (bl s).length → yearAt (bl s) i) = decide (canP 24 15 (bl s))) := Lib.hid (decide_eq_decide.2 ⟨fun h => HCF.out.2 ⟨hp, h⟩, fun h => (HCF.out.1 h).2⟩)
      generalize decide (∀ i, i < (bl s).length → yearAt (bl s) i) = Y at *
      generalize decide (canP 24 15 (bl s)) = B at *
      clear HCF hp
      cases Y
      all_goals
       go_enter Tryz.func84, Tryz.ntmps84
       go_wp2_with fail
       refine (HPL.out _).mono ?_
       rintro e w' ⟨rfl, rfl⟩
       go_wp2_with fail
       refine (HY.out _).mono ?_
       rintro e w' ⟨rfl, rfl⟩
       go_wp2
       go_returns
       exact ⟨rets1 (congrArg Value.bool HF.out), Below.refl _ _⟩
     ·rw [decide_eq_false hp] at HPL
      have HF : Hid (false = decide (canP 24 15 (bl s))) := Lib.hid (decide_eq_false (fun h => hp (HCF.out.1 h).1)).symm
      generalize decide (canP 24 15 (bl s)) = B at *
      clear HCF hp
      go_enter Tryz.func84, Tryz.ntmps84
      go_wp2_with fail
      refine (HPL.out _).mono ?_
      rintro e w' ⟨rfl, rfl⟩
      go_wp2
      go_returns
      exact ⟨rets1 (congrArg Value.bool HF.out), Below.refl _ _⟩
    ·have HG := Lib.hid (refGrow_any 24 15 (.inr ⟨rfl, rfl⟩) 15 s hs (by omega) (by omega))
     generalize decide (canP 24 15 (bl s)) = B at *
     go_enter Tryz.func84, Tryz.ntmps84
     go_wp2_with fail
     refine (HG.out _).mono ?_
     rintro e w1 ⟨rfl, hb⟩
     go_wp2
     go_returns
     exact ⟨rfl, hb⟩
   ·have hnb : (n != 15) = true := by simpa using hn
    have HF : Hid (false = decide (canP 24 n (bl s))) := Lib.hid (decide_eq_false (can_typ (fun h => by rcases h with ⟨h, _⟩ | ⟨_, h⟩; exact absurd h (by decide); exact hn h))).symm
    generalize decide (canP 24 n (bl s)) = B at *
    clear hn
    go_enter Tryz.func84, Tryz.ntmps84
    go_wp2
    go_returns
    exact ⟨rets1 (congrArg Value.bool HF.out), Below.refl _ _⟩
  ·have hb24 : (tag == 24) = false := by simpa using h24
   have hc24 : (tag != 24) = true := by simpa using h24
   have HF : Hid (false = decide (canP tag n (bl s))) := Lib.hid (decide_eq_false (can_typ (fun h => by rcases h with ⟨h, _⟩ | ⟨h, _⟩; exact h23 h; exact h24 h))).symm
   generalize decide (canP tag n (bl s)) = B at *
   clear h23 h24
   go_enter Tryz.func84, Tryz.ntmps84
   go_wp2
   go_returns
   exact ⟨rets1 (congrArg Value.bool HF.out), Below.refl _ _⟩
/-! ### With which byte -/
def whF (tag n : Int) (l : List Int) : Nat → Nat → Int
 |0, _ => -1
 |k + 1, i => if canP tag n (l.take i) then whF tag n l k (i + 1) else i
def whW (tag n : Int) (l : List Int) : Int := whF tag n l (l.length + 1) 0
theorem whF_spec (tag n : Int) (l : List Int) : ∀ k i, (whF tag n l k i = -1 ∧ ∀ j, i ≤ j → j < i + k → canP tag n (l.take j)) ∨ (∃ m : Nat, i ≤ m ∧ m < i + k ∧ whF tag n l k i = (m : Int) ∧ ¬ canP tag n (l.take m) ∧ ∀ j, i ≤ j → j < m → canP tag n (l.take j)) := by
 intro k
 induction k with
 |zero => intro i; exact .inl ⟨rfl, fun j h1 h2 => by omega⟩
 |succ k ih =>
  intro i
  by_cases h : canP tag n (l.take i)
  ·have e : whF tag n l (k + 1) i = whF tag n l k (i + 1) := by rw [whF, if_pos h]
   rw [e]
   rcases ih (i + 1) with ⟨h1, h2⟩ | ⟨m, h1, h2, h3, h4, h5⟩
   ·refine .inl ⟨h1, fun j hj hk => ?_⟩
    by_cases hji : j = i
    ·rw [hji]; exact h
    ·exact h2 j (by omega) (by omega)
   ·refine .inr ⟨m, by omega, by omega, h3, h4, fun j hj hk => ?_⟩
    by_cases hji : j = i
    ·rw [hji]; exact h
    ·exact h5 j (by omega) hk
  ·exact .inr ⟨i, Nat.le_refl _, by omega, by rw [whF, if_neg h], h, fun j h1 h2 => by omega⟩
theorem wh_range (tag n : Int) (l : List Int) : -1 ≤ whW tag n l ∧ whW tag n l ≤ l.length := by
 unfold whW
 rcases whF_spec tag n l (l.length + 1) 0 with ⟨h, _⟩ | ⟨m, _, h2, h3, _⟩
 ·rw [h]; omega
 ·rw [h3]; omega
theorem can_nil {tag n : Int} : canP tag n [] ↔ typ tag n := by
 refine ⟨fun h => h.1, fun h => ⟨h, ?_, fun i hi => by simp at hi⟩⟩
 rcases h with ⟨_, h⟩ | ⟨_, h⟩ <;> rw [h] <;> decide
theorem wh_zero (tag n : Int) (l : List Int) : whW tag n l = 0 ↔ ¬ typ tag n := by
 unfold whW
 rcases whF_spec tag n l (l.length + 1) 0 with ⟨h, h2⟩ | ⟨m, _, h2, h3, h4, h5⟩
 ·rw [h]
  refine ⟨fun e => by omega, fun e => ?_⟩
  have := h2 0 (Nat.le_refl _) (by omega)
  exact absurd (can_nil.1 this) e
 ·rw [h3]
  refine ⟨fun e => ?_, fun e => ?_⟩
  ·have : m = 0 := by omega
   rw [this] at h4
   exact fun ht => h4 (can_nil.2 ht)
  ·by_cases hm : m = 0
   ·rw [hm]; rfl
   ·exact absurd (can_nil.1 (h5 0 (Nat.le_refl _) (by omega))) e
theorem wh_right (tag : Int) (l : List Int) : rightP tag l ↔ whW tag l.length l = -1 := by
 unfold whW
 rcases whF_spec tag l.length l (l.length + 1) 0 with ⟨h1, h2⟩ | ⟨m, _, h2, h3, h4, h5⟩
 ·have := h2 l.length (by omega) (by omega)
  rw [List.take_length] at this
  exact ⟨fun _ => h1, fun _ => this⟩
 ·rw [h3]
  refine ⟨fun hr => ?_, fun e => by omega⟩
  refine absurd ?_ h4
  obtain ⟨r1, r2, r3⟩ := hr
  refine ⟨r1, by rw [List.length_take]; omega, (okC_take _ _ _ _ (by omega)).2 (fun i hi => r3 i (by omega))⟩
set_option maxHeartbeats 1600000 in
theorem refWhenWrong_any (tag n : Int) (s : ByteArray) (hs : s.size ≤ 1000000) (w : World) :
  Calls Tryz.prog 63 #[.int .i64 tag, .int .i64 n, .string s] w fun e w' => e = .returned (.int .i64 (whW tag n (bl s))) ∧ Below w.heap.size w w' := by
 have hb9 : (s.size : Int) ≤ 1000000 := by omega
 have HC := Lib.hid (fun (i : Nat) (hi : i ≤ s.size) => (show bl (s.extract 0 i) = (bl s).take i by rw [bl_extract _ _ _ hi]; simp) ▸ refCan_any tag n (s.extract 0 i) (by rw [ByteArray.size_extract]; omega))
 have HW : Hid (whF tag n (bl s) (s.size + 1) 0 = whW tag n (bl s)) := Lib.hid (by unfold whW; rw [bl_length])
 have HS := Lib.hid (fun (k i : Nat) => show whF tag n (bl s) (k + 1) i = if canP tag n ((bl s).take i) then whF tag n (bl s) k (i + 1) else i from rfl)
 have H0 := Lib.hid (fun (i : Nat) => show whF tag n (bl s) 0 i = -1 from rfl)
 generalize whW tag n (bl s) = W at *
 go_enter Tryz.func63, Tryz.ntmps63
 go_wp2
 go_loopw [7] (fun iv wr => ∃ (i k : Nat), iv = .int .i64 (i : Int) ∧ i + k = s.size + 1 ∧ Hid (Below w.heap.size w wr) ∧ Hid (whF tag n (bl s) k i = W)) (fun iv _ => s.size + 1 - (intOf iv).toNat)
 case atStart => exact ⟨0, s.size + 1, rfl, by omega, Lib.hid (Below.refl _ _), HW⟩
 case round =>
  obtain ⟨i, k, rfl, hik, HB, HT⟩ := hrel
  by_cases hlt : i ≤ s.size
  ·have hlti : (i : Int) ≤ (s.size : Int) := by omega
   obtain ⟨k, rfl⟩ : ∃ k', k = k' + 1 := ⟨k - 1, by omega⟩
   have HCI := Lib.hid (HC.out i hlt)
   have HST := Lib.hid ((HS.out k i).symm.trans HT.out)
   by_cases hc : canP tag n ((bl s).take i)
   ·have HZ : Hid (whF tag n (bl s) k (i + 1) = W) := Lib.hid (by have := HST.out; rwa [if_pos hc] at this)
    rw [decide_eq_true hc] at HCI
    clear hc HST HT
    go_wp2_with fail
    refine (HCI.out _).mono ?_
    rintro e w1 ⟨rfl, hb⟩
    have HB2 := Lib.hid (HB.out.trans (hb.mono HB.out.size))
    go_wp2
    go_roundw
    case rel => exact ⟨i + 1, k, by simp, by omega, HB2, HZ⟩
    case measure => simp [intOf]; omega
   ·have HZ : Hid ((i : Int) = W) := Lib.hid (by have := HST.out; rwa [if_neg hc] at this)
    rw [decide_eq_false hc] at HCI
    clear hc HST HT
    go_wp2_with fail
    refine (HCI.out _).mono ?_
    rintro e w1 ⟨rfl, hb⟩
    have HB2 := Lib.hid (HB.out.trans (hb.mono HB.out.size))
    go_wp2
    go_returns
    exact ⟨rets1 (congrArg (Value.int .i64) HZ.out), HB2.out⟩
  ·have hne : ¬ (i : Int) ≤ (s.size : Int) := by omega
   have hk0 : k = 0 := by omega
   subst hk0
   have HZ : Hid (-1 = W) := Lib.hid ((H0.out i).symm.trans HT.out)
   go_wp2
   go_returns
   exact ⟨rets1 (congrArg (Value.int .i64) HZ.out), HB.out⟩
end Go.Proofs.YtiiimhamfibdbaaGreat
