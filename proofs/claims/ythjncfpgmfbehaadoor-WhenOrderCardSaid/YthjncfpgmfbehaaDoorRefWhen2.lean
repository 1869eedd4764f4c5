/- What the reference's plain, year, Date, Full and Right of times give. Of every text of at most a million bytes. -/
import Derived.Test.YthjncfpgmfbehaaDoorRefWhen
namespace Go.Proofs.YthjncfpgmfbehaaDoor
open Go.RowKit Go.PlainAid
set_option linter.unusedVariables false
def plainP (l : List Int) : Prop := ∀ i, i < l.length → isD (g l i)
instance (l : List Int) : Decidable (plainP l) := by unfold plainP; infer_instance
theorem refPlain_any (s : ByteArray) (hs : s.size ≤ 1000000) (w : World) :
    Calls Tryd.prog 27 #[.string s] w fun e w' => e = .returned (.bool (decide (plainP (bl s)))) ∧ w' = w := by
  have hb9 : (s.size : Int) ≤ 9223372036854775807 := by omega
  have HGB := Lib.hid (get_bt s)
  have HB := Lib.hid (fun i => bt_g s i)
  have HP : Hid (decide (plainP (bl s)) = true ↔ ∀ i, i < s.size → isD (bt s i)) := Lib.hid (by rw [decide_eq_true_eq]; unfold plainP; rw [bl_length]; exact ⟨fun h i hi => by rw [bt_g]; exact h i hi, fun h i hi => by rw [← bt_g]; exact h i hi⟩)
  generalize decide (plainP (bl s)) = P at *
  go_enter Tryd.func27, Tryd.ntmps27
  go_wp2
  go_loopw [3] (fun iv wr => ∃ (i : Nat), iv = .int .i64 (i : Int) ∧ i ≤ s.size ∧ wr = w ∧ Hid (∀ j, j < i → isD (bt s j))) (fun iv _ => s.size - (intOf iv).toNat)
  case atStart => exact ⟨0, rfl, by omega, rfl, Lib.hid (by intro j hj; omega)⟩
  case round =>
    obtain ⟨i, rfl, hi, rfl, HT⟩ := hrel
    by_cases hlt : i < s.size
    · have hlti : (i : Int) < (s.size : Int) := by omega
      have gx := HGB.out i hlt
      have HX : Hid (¬ isD (bt s i) → false = P) := Lib.hid (fun h => by cases hp : P; rfl; exact absurd (HP.out.1 hp i hlt) h)
      have HY : Hid (isD (bt s i) → ∀ j, j < i + 1 → isD (bt s j)) := Lib.hid (fun h j hj => by
        by_cases hj2 : j < i
        · exact HT.out j hj2
        · obtain rfl : j = i := by omega
          exact h)
      clear HP
      obtain ⟨x, hx⟩ : ∃ x, bt s i = x := ⟨_, rfl⟩
      rw [hx] at gx HX HY
      clear hx
      by_cases a0 : x < 48
      · have HR : Hid (false = P) := Lib.hid (HX.out (fun h => by have := h.1; omega))
        clear HX HY
        go_wp2
        go_returns
        exact ⟨rets1 (congrArg Value.bool HR.out), rfl⟩
      · by_cases a9 : 57 < x
        · have HR : Hid (false = P) := Lib.hid (HX.out (fun h => by have := h.2; omega))
          clear HX HY
          go_wp2
          go_returns
          exact ⟨rets1 (congrArg Value.bool HR.out), rfl⟩
        · have HZ := Lib.hid (HY.out ⟨by omega, by omega⟩)
          clear HX HY
          go_wp2
          go_roundw
          case rel => exact ⟨i + 1, by simp, by omega, by trivial, HZ⟩
          case measure => simp [intOf]; omega
    · have hne : ¬ (i : Int) < (s.size : Int) := by omega
      have HR : Hid (true = P) := Lib.hid (HP.out.2 (fun j hj => HT.out j (by omega))).symm
      go_wp2
      go_returns
      exact ⟨rets1 (congrArg Value.bool HR.out), rfl⟩
def nines (l : List Int) : List Int := l ++ List.replicate (4 - l.length) 57
theorem nine_ext (l : List Int) (k : Nat) : (l ++ List.replicate k 57) ++ [57] = l ++ List.replicate (k + 1) (57 : Int) := by
  rw [List.append_assoc, List.replicate_succ']
theorem u8_lt (a b : UInt8) : (a < b) ↔ (a.toNat : Int) < (b.toNat : Int) := by
  rw [UInt8.lt_iff_toNat_lt]; omega
theorem u8_eq (a b : UInt8) : (a = b) ↔ (a.toNat : Int) = (b.toNat : Int) := by
  rw [← UInt8.toNat_inj]; omega
theorem less_2050 (t : ByteArray) (h : t.size = 4) : Op.bytesLess t.toList [50, 48, 53, 48] = decide (bt t 0 < 50 ∨ (bt t 0 = 50 ∧ (bt t 1 < 48 ∨ (bt t 1 = 48 ∧ (bt t 2 < 53 ∨ (bt t 2 = 53 ∧ bt t 3 < 48)))))) := by
  rw [Lib.toList_data]
  obtain ⟨⟨l⟩⟩ := t
  have hl : l.length = 4 := h
  match l, hl with
  | [a, b, c, d], _ =>
    show Op.bytesLess [a, b, c, d] _ = decide ((a.toNat : Int) < 50 ∨ ((a.toNat : Int) = 50 ∧ ((b.toNat : Int) < 48 ∨ ((b.toNat : Int) = 48 ∧ ((c.toNat : Int) < 53 ∨ ((c.toNat : Int) = 53 ∧ (d.toNat : Int) < 48))))))
    have e : Op.bytesLess [a, b, c, d] [50, 48, 53, 48] = (decide (a < 50) || (a == 50 && (decide (b < 48) || (b == 48 && (decide (c < 53) || (c == 53 && (decide (d < 48) || (d == 48 && false)))))))) := rfl
    rw [e]
    have q : ∀ x y : UInt8, (x == y) = decide ((x.toNat : Int) = (y.toNat : Int)) := fun x y => by rw [← decide_eq_decide.2 (u8_eq x y)]; rfl
    have q2 : ∀ x y : UInt8, decide (x < y) = decide ((x.toNat : Int) < (y.toNat : Int)) := fun x y => decide_eq_decide.2 (u8_lt x y)
    rw [q, q, q, q, q2, q2, q2, q2, Bool.and_false, Bool.or_false]
    simp only [Bool.decide_or, Bool.decide_and]
    rfl
theorem nines_at (l : List Int) (i : Nat) (hi : i < 4) (hl : l.length ≤ 4) : g (nines l) i = if i < l.length then g l i else 57 := by
  unfold nines
  split
  · rename_i h; exact g_left h
  · rename_i h
    rw [g_right (by omega), g_at (by rw [List.length_replicate]; omega), List.getElem_replicate]
/-- From 2050 on, or not yet told. -/
theorem year_is (l : List Int) (hl : l.length ≤ 4) (hp : plainP l) : (yearAt (nines l) 0 ∧ yearAt (nines l) 2) ↔ ∀ i, i < l.length → yearAt l i := by
  have e : ∀ i, i < 4 → g (nines l) i = if i < l.length then g l i else 57 := fun i hi => nines_at l i hi hl
  constructor
  · rintro ⟨h0, h2⟩ i hi
    refine ⟨fun e0 => ?_, fun e2 => ?_⟩
    · have := h0.1 rfl
      rwa [e 0 (by decide), if_pos (by omega)] at this
    · have := h2.2 rfl
      rwa [e 0 (by decide), e 1 (by decide), e 2 (by decide), if_pos (by omega), if_pos (by omega), if_pos (by omega)] at this
  · intro h
    refine ⟨⟨fun _ => ?_, fun e2 => by omega⟩, ⟨fun e0 => by omega, fun _ => ?_⟩⟩
    · rw [e 0 (by decide)]
      split
      · rename_i h0; exact (h 0 h0).1 rfl
      · decide
    · rw [e 0 (by decide), e 1 (by decide), e 2 (by decide)]
      by_cases h2 : 2 < l.length
      · have := (h 2 h2).2 rfl
        rwa [if_pos (by omega), if_pos (by omega), if_pos h2]
      · rw [if_neg h2]; omega
theorem year_less (t : ByteArray) (h : t.size = 4) (hp : plainP (bl t)) : (!Op.bytesLess t.toList [50, 48, 53, 48]) = decide (yearAt (bl t) 0 ∧ yearAt (bl t) 2) := by
  rw [less_2050 t h]
  have d0 := hp 0 (by rw [bl_length]; omega)
  have d1 := hp 1 (by rw [bl_length]; omega)
  have d2 := hp 2 (by rw [bl_length]; omega)
  have d3 := hp 3 (by rw [bl_length]; omega)
  rw [← bt_g] at d0 d1 d2 d3
  unfold isD at *
  have e : (yearAt (bl t) 0 ∧ yearAt (bl t) 2) ↔ (50 ≤ bt t 0 ∧ (50 < bt t 0 ∨ 48 < bt t 1 ∨ 53 ≤ bt t 2)) := by
    unfold yearAt
    rw [← bt_g, ← bt_g, ← bt_g]
    exact ⟨fun h => ⟨h.1.1 rfl, h.2.2 rfl⟩, fun h => ⟨⟨fun _ => h.1, fun e => by omega⟩, ⟨fun e => by omega, fun _ => h.2⟩⟩⟩
  rw [← decide_not]
  exact decide_eq_decide.2 (Iff.trans (by omega) e.symm)
theorem nines_plain {l : List Int} (h : plainP l) : plainP (nines l) := by
  intro i hi
  by_cases hl : i < l.length
  · unfold nines; rw [g_left hl]; exact h i hl
  · unfold nines at hi ⊢
    rw [List.length_append, List.length_replicate] at hi
    rw [g_right (by omega), g_at (by rw [List.length_replicate]; omega), List.getElem_replicate]; decide
theorem refYear_any (s : ByteArray) (hs : s.size ≤ 4) (hp : plainP (bl s)) (w : World) :
    Calls Tryd.prog 28 #[.string s] w fun e w' => e = .returned (.bool (decide (∀ i, i < (bl s).length → yearAt (bl s) i))) ∧ w' = w := by
  go_enter Tryd.func28, Tryd.ntmps28
  go_wp2
  go_loopw [0] (fun tv wr => ∃ (t : ByteArray) (k : Nat), tv = .string t ∧ t.size = s.size + k ∧ t.size ≤ 4 ∧ wr = w ∧ Hid (bl t = bl s ++ List.replicate k 57)) (fun tv _ => 4 - (match tv with | .string t => t.size | _ => 0))
  case atStart => exact ⟨s, 0, rfl, by omega, hs, rfl, Lib.hid (by simp)⟩
  case round =>
    obtain ⟨t, k, rfl, ht, h4, rfl, HT⟩ := hrel
    by_cases hlt : t.size < 4
    · have hlti : (t.size : Int) < 4 := by omega
      have hmx : ¬ 9223372036854775807 < t.size + (⟨#[57]⟩ : ByteArray).size := by rw [show (⟨#[57]⟩ : ByteArray).size = 1 from rfl]; omega
      go_wp2
      go_roundw
      case rel => exact ⟨t ++ ⟨#[57]⟩, k + 1, rfl, by rw [ByteArray.size_append]; show t.size + 1 = _; omega, by rw [ByteArray.size_append]; show t.size + 1 ≤ _; omega, by trivial, Lib.hid (by rw [bl_append, HT.out, ← nine_ext]; rfl)⟩
      case measure => simp [ByteArray.size_append]; show 4 - (t.size + 1) < _; omega
    · have hne : ¬ (t.size : Int) < 4 := by omega
      go_wp2
      go_returns
      have h4' : t.size = 4 := by omega
      have hn : bl t = nines (bl s) := by rw [HT.out]; unfold nines; rw [bl_length, show 4 - s.size = k by omega]
      refine ⟨rets1 (congrArg Value.bool ?_), rfl⟩
      show (!Op.bytesLess t.toList [50, 48, 53, 48]) = _
      rw [year_less t h4' (by rw [hn]; exact nines_plain hp), hn]
      exact decide_eq_decide.2 (year_is (bl s) (by rw [bl_length]; exact hs) hp)
end Go.Proofs.YthjncfpgmfbehaaDoor
