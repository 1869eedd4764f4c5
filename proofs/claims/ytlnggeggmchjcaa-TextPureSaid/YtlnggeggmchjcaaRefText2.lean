/- What the reference's plain, Utf8, Check and last of strings give. Of every tag, byte, and text of at most a million bytes. -/
import Derived.Test.YtlnggeggmchjcaaRefText
namespace Go.Proofs.Ytlnggeggmchjcaa
open Go.RowKit Go.PlainAid
set_option linter.unusedVariables false
/-- The signs of a PrintableString that are no letters and no digits. -/
def othS : ByteArray := ⟨#[32, 39, 40, 41, 43, 44, 45, 46, 47, 58, 61, 63]⟩
theorem oth_in {x : Int} : (∃ i : Nat, i < 12 ∧ bt othS i = x) ↔ (x = 32 ∨ (39 ≤ x ∧ x ≤ 41) ∨ (43 ≤ x ∧ x ≤ 47) ∨ x = 58 ∨ x = 61 ∨ x = 63) := by
  constructor
  · rintro ⟨i, hi, rfl⟩
    rcases (by omega : i = 0 ∨ i = 1 ∨ i = 2 ∨ i = 3 ∨ i = 4 ∨ i = 5 ∨ i = 6 ∨ i = 7 ∨ i = 8 ∨ i = 9 ∨ i = 10 ∨ i = 11) with rfl | rfl | rfl | rfl | rfl | rfl | rfl | rfl | rfl | rfl | rfl | rfl <;> decide +kernel
  · intro h
    rcases (by omega : x = 32 ∨ x = 39 ∨ x = 40 ∨ x = 41 ∨ x = 43 ∨ x = 44 ∨ x = 45 ∨ x = 46 ∨ x = 47 ∨ x = 58 ∨ x = 61 ∨ x = 63) with rfl | rfl | rfl | rfl | rfl | rfl | rfl | rfl | rfl | rfl | rfl | rfl
    · exact ⟨0, by decide, by decide +kernel⟩
    · exact ⟨1, by decide, by decide +kernel⟩
    · exact ⟨2, by decide, by decide +kernel⟩
    · exact ⟨3, by decide, by decide +kernel⟩
    · exact ⟨4, by decide, by decide +kernel⟩
    · exact ⟨5, by decide, by decide +kernel⟩
    · exact ⟨6, by decide, by decide +kernel⟩
    · exact ⟨7, by decide, by decide +kernel⟩
    · exact ⟨8, by decide, by decide +kernel⟩
    · exact ⟨9, by decide, by decide +kernel⟩
    · exact ⟨10, by decide, by decide +kernel⟩
    · exact ⟨11, by decide, by decide +kernel⟩
set_option maxHeartbeats 4000000 in
theorem refPlain_any (tag x : Int) (hx : 0 ≤ x ∧ x ≤ 255) (w : World) :
    Calls Try.prog 18 #[.int .i64 tag, .int .u8 x] w fun e w' => e = .returned (.bool (decide (plT tag x))) ∧ w' = w := by
  obtain ⟨x0, x1⟩ := hx
  by_cases h22 : tag = 22
  · subst h22
    have HF : Hid (decide (x < 128) = decide (plT 22 x)) := Lib.hid (decide_eq_decide.2 ⟨fun h => ⟨fun _ => h, fun e => absurd e (by decide)⟩, fun h => h.1 rfl⟩)
    generalize decide (plT 22 x) = R at *
    go_enter Try.func18, Try.ntmps18
    go_wp2
    go_returns
    exact ⟨rets1 (congrArg Value.bool HF.out), rfl⟩
  · have h22b : (tag == 22) = false := by simpa using h22
    by_cases h19 : tag = 19
    · subst h19
      have HF : Hid (decide (plT 19 x) = decide ((65 ≤ x ∧ x ≤ 90) ∨ (97 ≤ x ∧ x ≤ 122) ∨ (48 ≤ x ∧ x ≤ 57) ∨ (∃ i : Nat, i < 12 ∧ bt othS i = x))) := Lib.hid (decide_eq_decide.2 (by
        rw [oth_in]
        exact ⟨fun h => h.2 rfl, fun h => ⟨fun e => absurd e (by decide), fun _ => h⟩⟩))
      generalize decide (plT 19 x) = R at *
      by_cases c1 : 65 ≤ x ∧ x ≤ 90
      · obtain ⟨p, q⟩ := c1
        have HR : Hid (true = R) := Lib.hid (by rw [HF.out, decide_eq_true (.inl ⟨p, q⟩)])
        clear HF
        go_enter Try.func18, Try.ntmps18
        go_wp2
        go_returns
        exact ⟨rets1 (congrArg Value.bool HR.out), rfl⟩
      · by_cases c2 : 97 ≤ x ∧ x ≤ 122
        · obtain ⟨p, q⟩ := c2
          have HR : Hid (true = R) := Lib.hid (by rw [HF.out, decide_eq_true (.inr (.inl ⟨p, q⟩))])
          have n1 : ¬ x ≤ 90 := by omega
          clear HF c1
          go_enter Try.func18, Try.ntmps18
          go_wp2
          go_returns
          exact ⟨rets1 (congrArg Value.bool HR.out), rfl⟩
        · by_cases c3 : 48 ≤ x ∧ x ≤ 57
          · obtain ⟨p, q⟩ := c3
            have HR : Hid (true = R) := Lib.hid (by rw [HF.out, decide_eq_true (.inr (.inr (.inl ⟨p, q⟩)))])
            have n1 : ¬ 65 ≤ x := by omega
            have n2 : ¬ 97 ≤ x := by omega
            clear HF c1 c2
            go_enter Try.func18, Try.ntmps18
            go_wp2
            go_returns
            exact ⟨rets1 (congrArg Value.bool HR.out), rfl⟩
          · have HI : Hid (R = decide (∃ i : Nat, i < 12 ∧ bt othS i = x)) := Lib.hid (by rw [HF.out]; exact decide_eq_decide.2 ⟨fun h => by rcases h with h | h | h | h; exact absurd h c1; exact absurd h c2; exact absurd h c3; exact h, fun h => .inr (.inr (.inr h))⟩)
            have HG : Hid (∀ (i : Nat) (hi : i < 12), ((((⟨#[32, 39, 40, 41, 43, 44, 45, 46, 47, 58, 61, 63]⟩ : ByteArray)[i]'hi).toNat : Nat) : Int) = bt othS i) := Lib.hid (fun i hi => get_bt othS i hi)
            clear HF
            rcases (by omega : x < 48 ∨ (57 < x ∧ x < 65) ∨ (90 < x ∧ x < 97) ∨ 122 < x) with hx | hx | hx | hx
            · have n1 : ¬ 65 ≤ x := by omega
              have n2 : ¬ 97 ≤ x := by omega
              have n3 : ¬ 48 ≤ x := by omega
              clear hx c1 c2 c3
              go_enter Try.func18, Try.ntmps18
              go_wp2
              go_loopw [6] (fun iv wr => ∃ (i : Nat), iv = .int .i64 (i : Int) ∧ i ≤ 12 ∧ wr = w ∧ Hid (∀ j : Nat, j < i → bt othS j ≠ x)) (fun iv _ => 12 - (intOf iv).toNat)
              case atStart => exact ⟨0, rfl, by omega, rfl, Lib.hid (fun j hj => by omega)⟩
              case round =>
                obtain ⟨i, rfl, hi, rfl, HN⟩ := hrel
                by_cases hlt : i < 12
                · have hbt := HG.out i hlt
                  have hlti : (i : Int) < 12 := by omega
                  obtain ⟨z, hz⟩ : ∃ z, bt othS i = z := ⟨_, rfl⟩
                  by_cases he : z = x
                  · have HR : Hid (true = R) := Lib.hid (by rw [HI.out, decide_eq_true ⟨i, hlt, hz.trans he⟩])
                    rw [hz] at hbt
                    subst he
                    clear hz HI HN
                    go_wp2
                    go_returns
                    exact ⟨rets1 (congrArg Value.bool HR.out), rfl⟩
                  · have hne : (z == x) = false := by simpa using he
                    have HN2 : Hid (∀ j : Nat, j < i + 1 → bt othS j ≠ x) := Lib.hid (fun j hj => by
                      by_cases hji : j = i
                      · rw [hji, hz]; exact he
                      · exact HN.out j (by omega))
                    rw [hz] at hbt
                    clear he hz HN
                    go_wp2
                    go_roundw
                    case rel => exact ⟨i + 1, by simp, by omega, trivial, HN2⟩
                    case measure => simp [intOf]; omega
                · have HR : Hid (false = R) := Lib.hid (by rw [HI.out, decide_eq_false (fun h => by obtain ⟨j, hj, hh⟩ := h; exact HN.out j (by omega) hh)])
                  have hge : ¬ (i : Int) < 12 := by omega
                  clear HI HN
                  go_wp2
                  go_returns
                  exact ⟨rets1 (congrArg Value.bool HR.out), rfl⟩
            · have n1 : ¬ 65 ≤ x := by omega
              have n2 : ¬ 97 ≤ x := by omega
              have n3 : 48 ≤ x := by omega
              have n4 : ¬ x ≤ 57 := by omega
              clear hx c1 c2 c3
              go_enter Try.func18, Try.ntmps18
              go_wp2
              go_loopw [6] (fun iv wr => ∃ (i : Nat), iv = .int .i64 (i : Int) ∧ i ≤ 12 ∧ wr = w ∧ Hid (∀ j : Nat, j < i → bt othS j ≠ x)) (fun iv _ => 12 - (intOf iv).toNat)
              case atStart => exact ⟨0, rfl, by omega, rfl, Lib.hid (fun j hj => by omega)⟩
              case round =>
                obtain ⟨i, rfl, hi, rfl, HN⟩ := hrel
                by_cases hlt : i < 12
                · have hbt := HG.out i hlt
                  have hlti : (i : Int) < 12 := by omega
                  obtain ⟨z, hz⟩ : ∃ z, bt othS i = z := ⟨_, rfl⟩
                  by_cases he : z = x
                  · have HR : Hid (true = R) := Lib.hid (by rw [HI.out, decide_eq_true ⟨i, hlt, hz.trans he⟩])
                    rw [hz] at hbt
                    subst he
                    clear hz HI HN
                    go_wp2
                    go_returns
                    exact ⟨rets1 (congrArg Value.bool HR.out), rfl⟩
                  · have hne : (z == x) = false := by simpa using he
                    have HN2 : Hid (∀ j : Nat, j < i + 1 → bt othS j ≠ x) := Lib.hid (fun j hj => by
                      by_cases hji : j = i
                      · rw [hji, hz]; exact he
                      · exact HN.out j (by omega))
                    rw [hz] at hbt
                    clear he hz HN
                    go_wp2
                    go_roundw
                    case rel => exact ⟨i + 1, by simp, by omega, trivial, HN2⟩
                    case measure => simp [intOf]; omega
                · have HR : Hid (false = R) := Lib.hid (by rw [HI.out, decide_eq_false (fun h => by obtain ⟨j, hj, hh⟩ := h; exact HN.out j (by omega) hh)])
                  have hge : ¬ (i : Int) < 12 := by omega
                  clear HI HN
                  go_wp2
                  go_returns
                  exact ⟨rets1 (congrArg Value.bool HR.out), rfl⟩
            · have n1 : 65 ≤ x := by omega
              have n5 : ¬ x ≤ 90 := by omega
              have n2 : ¬ 97 ≤ x := by omega
              have n3 : 48 ≤ x := by omega
              have n4 : ¬ x ≤ 57 := by omega
              clear hx c1 c2 c3
              go_enter Try.func18, Try.ntmps18
              go_wp2
              go_loopw [6] (fun iv wr => ∃ (i : Nat), iv = .int .i64 (i : Int) ∧ i ≤ 12 ∧ wr = w ∧ Hid (∀ j : Nat, j < i → bt othS j ≠ x)) (fun iv _ => 12 - (intOf iv).toNat)
              case atStart => exact ⟨0, rfl, by omega, rfl, Lib.hid (fun j hj => by omega)⟩
              case round =>
                obtain ⟨i, rfl, hi, rfl, HN⟩ := hrel
                by_cases hlt : i < 12
                · have hbt := HG.out i hlt
                  have hlti : (i : Int) < 12 := by omega
                  obtain ⟨z, hz⟩ : ∃ z, bt othS i = z := ⟨_, rfl⟩
                  by_cases he : z = x
                  · have HR : Hid (true = R) := Lib.hid (by rw [HI.out, decide_eq_true ⟨i, hlt, hz.trans he⟩])
                    rw [hz] at hbt
                    subst he
                    clear hz HI HN
                    go_wp2
                    go_returns
                    exact ⟨rets1 (congrArg Value.bool HR.out), rfl⟩
                  · have hne : (z == x) = false := by simpa using he
                    have HN2 : Hid (∀ j : Nat, j < i + 1 → bt othS j ≠ x) := Lib.hid (fun j hj => by
                      by_cases hji : j = i
                      · rw [hji, hz]; exact he
                      · exact HN.out j (by omega))
                    rw [hz] at hbt
                    clear he hz HN
                    go_wp2
                    go_roundw
                    case rel => exact ⟨i + 1, by simp, by omega, trivial, HN2⟩
                    case measure => simp [intOf]; omega
                · have HR : Hid (false = R) := Lib.hid (by rw [HI.out, decide_eq_false (fun h => by obtain ⟨j, hj, hh⟩ := h; exact HN.out j (by omega) hh)])
                  have hge : ¬ (i : Int) < 12 := by omega
                  clear HI HN
                  go_wp2
                  go_returns
                  exact ⟨rets1 (congrArg Value.bool HR.out), rfl⟩
            · have n1 : 65 ≤ x := by omega
              have n5 : ¬ x ≤ 90 := by omega
              have n2 : 97 ≤ x := by omega
              have n6 : ¬ x ≤ 122 := by omega
              have n3 : 48 ≤ x := by omega
              have n4 : ¬ x ≤ 57 := by omega
              clear hx c1 c2 c3
              go_enter Try.func18, Try.ntmps18
              go_wp2
              go_loopw [6] (fun iv wr => ∃ (i : Nat), iv = .int .i64 (i : Int) ∧ i ≤ 12 ∧ wr = w ∧ Hid (∀ j : Nat, j < i → bt othS j ≠ x)) (fun iv _ => 12 - (intOf iv).toNat)
              case atStart => exact ⟨0, rfl, by omega, rfl, Lib.hid (fun j hj => by omega)⟩
              case round =>
                obtain ⟨i, rfl, hi, rfl, HN⟩ := hrel
                by_cases hlt : i < 12
                · have hbt := HG.out i hlt
                  have hlti : (i : Int) < 12 := by omega
                  obtain ⟨z, hz⟩ : ∃ z, bt othS i = z := ⟨_, rfl⟩
                  by_cases he : z = x
                  · have HR : Hid (true = R) := Lib.hid (by rw [HI.out, decide_eq_true ⟨i, hlt, hz.trans he⟩])
                    rw [hz] at hbt
                    subst he
                    clear hz HI HN
                    go_wp2
                    go_returns
                    exact ⟨rets1 (congrArg Value.bool HR.out), rfl⟩
                  · have hne : (z == x) = false := by simpa using he
                    have HN2 : Hid (∀ j : Nat, j < i + 1 → bt othS j ≠ x) := Lib.hid (fun j hj => by
                      by_cases hji : j = i
                      · rw [hji, hz]; exact he
                      · exact HN.out j (by omega))
                    rw [hz] at hbt
                    clear he hz HN
                    go_wp2
                    go_roundw
                    case rel => exact ⟨i + 1, by simp, by omega, trivial, HN2⟩
                    case measure => simp [intOf]; omega
                · have HR : Hid (false = R) := Lib.hid (by rw [HI.out, decide_eq_false (fun h => by obtain ⟨j, hj, hh⟩ := h; exact HN.out j (by omega) hh)])
                  have hge : ¬ (i : Int) < 12 := by omega
                  clear HI HN
                  go_wp2
                  go_returns
                  exact ⟨rets1 (congrArg Value.bool HR.out), rfl⟩
    · have h19b : (tag != 19) = true := by simpa using h19
      have HF : Hid (true = decide (plT tag x)) := Lib.hid (decide_eq_true ⟨fun e => absurd e h22, fun e => absurd e h19⟩).symm
      generalize decide (plT tag x) = R at *
      clear h22 h19
      go_enter Try.func18, Try.ntmps18
      go_wp2
      go_returns
      exact ⟨rets1 (congrArg Value.bool HF.out), rfl⟩
set_option maxHeartbeats 1600000 in
theorem refUtf8_any (s : ByteArray) (hs : s.size ≤ 1000000) (w : World) :
    Calls Try.prog 17 #[.string s] w fun e w' => e = .returned (.bool (decide (rightT 12 (bl s)))) ∧ w' = w := by
  have hb9 : (s.size : Int) ≤ 1000000 := by omega
  have HC := Lib.hid (fun (k : Nat) (hk : k < s.size) => refChar_any s k hs hk)
  have HL := Lib.hid (bl_length s)
  have HF : Hid (decide (rightT 12 (bl s)) = decide (uR (bl s) = some [])) := Lib.hid (decide_eq_decide.2 right_utf8)
  generalize decide (rightT 12 (bl s)) = R at *
  go_enter Try.func17, Try.ntmps17
  go_wp2
  go_loopw [3] (fun iv wr => ∃ (k : Nat), iv = .int .i64 (k : Int) ∧ k ≤ s.size ∧ wr = w ∧ Hid (uR ((bl s).take k) = some [])) (fun iv _ => s.size - (intOf iv).toNat)
  case atStart => exact ⟨0, rfl, by omega, rfl, Lib.hid (by rw [List.take_zero]; rfl)⟩
  case round =>
    obtain ⟨k, rfl, hk, rfl, HU⟩ := hrel
    by_cases hlt : k < s.size
    · have hlti : (k : Int) < (s.size : Int) := by omega
      have HCk := Lib.hid (HC.out k hlt)
      have hkl : k < (bl s).length := by rw [HL.out]; exact hlt
      obtain ⟨m, hm⟩ : ∃ m, charN (bl s) k = m := ⟨_, rfl⟩
      rw [hm] at HCk
      by_cases h0 : m = 0
      · subst h0
        have HR : Hid (false = R) := Lib.hid (by
          rw [HF.out, uR_stuck HU.out hkl hm]
          refine (decide_eq_false ?_).symm
          split
          · intro e
            have := congrArg List.length (Option.some.inj e)
            rw [List.length_drop] at this
            simp at this
            omega
          · intro e; cases e)
        clear hm HU HF
        go_wp2_with fail
        refine (HCk.out _).mono ?_
        rintro e w1 ⟨rfl, rfl⟩
        go_wp2
        go_returns
        exact ⟨rets1 (congrArg Value.bool HR.out), rfl⟩
      · obtain ⟨hu, hle⟩ := uR_char HU.out hkl hm (by omega)
        have HU2 := Lib.hid hu
        rw [HL.out] at hle
        have hm4 : (m : Int) ≤ 1000000 := by omega
        have hmb : ((m : Int) == 0) = false := by simpa using h0
        clear hm HU hu
        go_wp2_with fail
        refine (HCk.out _).mono ?_
        rintro e w1 ⟨rfl, rfl⟩
        go_wp2
        go_roundw
        case rel => exact ⟨k + m, by simp, hle, trivial, HU2⟩
        case measure => simp [intOf]; omega
    · have hge : ¬ (k : Int) < (s.size : Int) := by omega
      have HR : Hid (true = R) := Lib.hid (by
        have h := HU.out
        rw [List.take_of_length_le (by rw [HL.out]; omega)] at h
        rw [HF.out, decide_eq_true h])
      clear HF HU
      go_wp2
      go_returns
      exact ⟨rets1 (congrArg Value.bool HR.out), rfl⟩
set_option maxHeartbeats 1600000 in
theorem refTextCheck_any (tag : Int) (s : ByteArray) (hs : s.size ≤ 1000000) (w : World) :
    Calls Try.prog 13 #[.int .i64 tag, .string s] w fun e w' => e = .returned (.bool (decide (rightT tag (bl s)))) ∧ w' = w := by
  have hb9 : (s.size : Int) ≤ 1000000 := by omega
  by_cases ht : tag = 12
  · subst ht
    have HU := Lib.hid (refUtf8_any s hs)
    generalize decide (rightT 12 (bl s)) = R at *
    go_enter Try.func13, Try.ntmps13
    go_wp2_with fail
    refine (HU.out _).mono ?_
    rintro e w1 ⟨rfl, rfl⟩
    go_wp2
    go_returns
    exact ⟨rfl, rfl⟩
  · have htb : (tag == 12) = false := by simpa using ht
    have HF : Hid (decide (rightT tag (bl s)) = decide (∀ i : Nat, i < s.size → plT tag (bt s i))) := Lib.hid (decide_eq_decide.2 (by
      rw [right_plain ht]
      constructor
      · intro h i hi
        have := h ((bl s)[i]'(by rw [bl_length]; exact hi)) (List.getElem_mem _)
        rwa [bl_get] at this
      · intro h x hx
        obtain ⟨i, hi, rfl⟩ := List.getElem_of_mem hx
        rw [bl_get]
        exact h i (by rw [bl_length] at hi; exact hi)))
    generalize decide (rightT tag (bl s)) = R at *
    have HP := Lib.hid (fun (i : Nat) => refPlain_any tag (bt s i) ⟨bt_nonneg s i, bt_le s i⟩)
    have HG := Lib.hid (get_bt s)
    clear ht
    go_enter Try.func13, Try.ntmps13
    go_wp2
    go_loopw [5] (fun iv wr => ∃ (i : Nat), iv = .int .i64 (i : Int) ∧ i ≤ s.size ∧ wr = w ∧ Hid (∀ j : Nat, j < i → plT tag (bt s j))) (fun iv _ => s.size - (intOf iv).toNat)
    case atStart => exact ⟨0, rfl, by omega, rfl, Lib.hid (fun j hj => by omega)⟩
    case round =>
      obtain ⟨i, rfl, hi, rfl, HA⟩ := hrel
      by_cases hlt : i < s.size
      · have hlti : (i : Int) < (s.size : Int) := by omega
        have hbt := HG.out i hlt
        have HPi := Lib.hid (HP.out i)
        by_cases hp : plT tag (bt s i)
        · have HA2 : Hid (∀ j : Nat, j < i + 1 → plT tag (bt s j)) := Lib.hid (fun j hj => by
            by_cases hji : j = i
            · rw [hji]; exact hp
            · exact HA.out j (by omega))
          rw [decide_eq_true hp] at HPi
          generalize bt s i = z at *
          clear hp HA
          go_wp2_with fail
          refine (HPi.out _).mono ?_
          rintro e w1 ⟨rfl, rfl⟩
          go_wp2
          go_roundw
          case rel => exact ⟨i + 1, by simp, by omega, trivial, HA2⟩
          case measure => simp [intOf]; omega
        · have HR : Hid (false = R) := Lib.hid (by rw [HF.out]; exact (decide_eq_false (fun h => hp (h i hlt))).symm)
          rw [decide_eq_false hp] at HPi
          generalize bt s i = z at *
          clear hp HA HF
          go_wp2_with fail
          refine (HPi.out _).mono ?_
          rintro e w1 ⟨rfl, rfl⟩
          go_wp2
          go_returns
          exact ⟨rets1 (congrArg Value.bool HR.out), rfl⟩
      · have hge : ¬ (i : Int) < (s.size : Int) := by omega
        have HR : Hid (true = R) := Lib.hid (by rw [HF.out]; exact (decide_eq_true (fun j hj => HA.out j (by omega))).symm)
        clear HA HF
        go_wp2
        go_returns
        exact ⟨rets1 (congrArg Value.bool HR.out), rfl⟩
/-- Where the character begins that isn't whole. -/
def lastF (l : List Int) : Nat → Nat → Nat
  | 0, k => k
  | f + 1, k => if k < l.length then (if charN l k = 0 then k else lastF l f (k + charN l k)) else k
def lastK (l : List Int) : Nat := lastF l (l.length + 1) 0
theorem lastF_spec (l : List Int) : ∀ (f k : Nat), uR (l.take k) = some [] → k ≤ l.length → l.length < f + k → uR (l.take (lastF l f k)) = some [] ∧ lastF l f k ≤ l.length ∧ (lastF l f k = l.length ∨ charN l (lastF l f k) = 0) := by
  intro f
  induction f with
  | zero => intro k _ _ h; omega
  | succ f ih =>
    intro k hu hk h
    by_cases hlt : k < l.length
    · by_cases h0 : charN l k = 0
      · have e : lastF l (f + 1) k = k := by rw [lastF, if_pos hlt, if_pos h0]
        rw [e]
        exact ⟨hu, hk, .inr h0⟩
      · have e : lastF l (f + 1) k = lastF l f (k + charN l k) := by rw [lastF, if_pos hlt, if_neg h0]
        rw [e]
        obtain ⟨hu2, hle⟩ := uR_char hu hlt rfl (by omega)
        exact ih _ hu2 hle (by omega)
    · have e : lastF l (f + 1) k = k := by rw [lastF, if_neg hlt]
      rw [e]
      exact ⟨hu, hk, .inl (by omega)⟩
theorem lastK_spec (l : List Int) : uR (l.take (lastK l)) = some [] ∧ lastK l ≤ l.length ∧ (lastK l = l.length ∨ charN l (lastK l) = 0) :=
  lastF_spec l _ 0 (by rw [List.take_zero]; rfl) (by omega) (by omega)
def lastI (l : List Int) : Int := if 3 < (l.length : Int) - (lastK l : Int) then -1 else lastK l
set_option maxHeartbeats 1600000 in
theorem refLast_any (s : ByteArray) (hs : s.size ≤ 1000000) (w : World) :
    Calls Try.prog 19 #[.string s] w fun e w' => e = .returned (.int .i64 (lastI (bl s))) ∧ w' = w := by
  have hb9 : (s.size : Int) ≤ 1000000 := by omega
  have HC := Lib.hid (fun (k : Nat) (hk : k < s.size) => refChar_any s k hs hk)
  have HL := Lib.hid (bl_length s)
  have HF : Hid (lastI (bl s) = if 3 < (s.size : Int) - (lastK (bl s) : Int) then (-1 : Int) else (lastK (bl s) : Int)) := Lib.hid (by unfold lastI; rw [bl_length])
  have HK : Hid (lastF (bl s) (s.size + 1) 0 = lastK (bl s)) := Lib.hid (by unfold lastK; rw [bl_length])
  have hK1 := (lastK_spec (bl s)).2.1
  rw [bl_length] at hK1
  generalize lastI (bl s) = R at *
  generalize lastK (bl s) = K at *
  go_enter Try.func19, Try.ntmps19
  go_wp2
  go_loopw [3] (fun iv wr => ∃ (k f : Nat), iv = .int .i64 (k : Int) ∧ k ≤ s.size ∧ wr = w ∧ Hid (lastF (bl s) f k = K ∧ s.size < f + k)) (fun iv _ => s.size - (intOf iv).toNat)
  case atStart => exact ⟨0, s.size + 1, rfl, by omega, rfl, Lib.hid ⟨HK.out, by omega⟩⟩
  case round =>
    obtain ⟨k, f, rfl, hk, rfl, HT⟩ := hrel
    obtain ⟨t1, t2⟩ := HT.out
    obtain ⟨f, rfl⟩ : ∃ f', f = f' + 1 := ⟨f - 1, by omega⟩
    rw [lastF, HL.out] at t1
    by_cases hlt : k < s.size
    · have hlti : (k : Int) < (s.size : Int) := by omega
      have HCk := Lib.hid (HC.out k hlt)
      have hkl : k < (bl s).length := by rw [HL.out]; exact hlt
      rw [if_pos hlt] at t1
      obtain ⟨m, hm⟩ : ∃ m, charN (bl s) k = m := ⟨_, rfl⟩
      rw [hm] at HCk t1
      by_cases h0 : m = 0
      · rw [if_pos h0] at t1
        subst h0
        subst t1
        by_cases h3 : 3 < (s.size : Int) - (k : Int)
        · have HR : Hid (-1 = R) := Lib.hid (by rw [HF.out, if_pos h3])
          clear hm HT HF HK
          go_wp2_with fail
          refine (HCk.out _).mono ?_
          rintro e w1 ⟨rfl, rfl⟩
          go_wp2
          go_returns
          exact ⟨rets1 (congrArg (Value.int .i64) HR.out), rfl⟩
        · have HR : Hid ((k : Int) = R) := Lib.hid (by rw [HF.out, if_neg h3])
          clear hm HT HF HK
          go_wp2_with fail
          refine (HCk.out _).mono ?_
          rintro e w1 ⟨rfl, rfl⟩
          go_wp2
          go_returns
          exact ⟨rets1 (congrArg (Value.int .i64) HR.out), rfl⟩
      · rw [if_neg h0] at t1
        have hle : k + m ≤ s.size := by
          have := hm
          unfold charN at this
          split at this
          · rename_i hc; rw [HL.out] at hc; omega
          · omega
        have hm4 : (m : Int) ≤ 1000000 := by omega
        have hmb : ((m : Int) == 0) = false := by simpa using h0
        have HT2 : Hid (lastF (bl s) f (k + m) = K ∧ s.size < f + (k + m)) := Lib.hid ⟨t1, by omega⟩
        clear hm HT t1
        go_wp2_with fail
        refine (HCk.out _).mono ?_
        rintro e w1 ⟨rfl, rfl⟩
        go_wp2
        go_roundw
        case rel => exact ⟨k + m, f, by simp, hle, trivial, HT2⟩
        case measure => simp [intOf]; omega
    · have hge : ¬ (k : Int) < (s.size : Int) := by omega
      rw [if_neg hlt] at t1
      subst t1
      have HR : Hid ((k : Int) = R) := Lib.hid (by rw [HF.out, if_neg (by omega)])
      have h3 : ¬ 3 < (s.size : Int) - (k : Int) := by omega
      clear HF HT HK
      go_wp2
      go_returns
      exact ⟨rets1 (congrArg (Value.int .i64) HR.out), rfl⟩
end Go.Proofs.Ytlnggeggmchjcaa
