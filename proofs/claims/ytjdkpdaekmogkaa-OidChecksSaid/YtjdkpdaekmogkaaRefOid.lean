/- What the reference's Wrong, number and Same of object identifiers give. Of every text, number and list. -/
import Derived.Test.YtjdkpdaekmogkaaByteSl
import Derived.Test.YtjdkpdaekmogkaaOid
import Derived.Test.YtjdkpdaekmogkaaU64
import Derived.Test.YtjdkpdaekmogkaaOrders
import Derived.Laws.BytesArg
import Derived.Handy
namespace Go.Proofs.Ytjdkpdaekmogkaa
open Go.RowKit Go.PlainAid
set_option linter.unusedVariables false
theorem oFresh_zero (l : List Int) : oFresh l 0 = true := rfl
theorem oFresh_bt (b : ByteArray) (i : Nat) (h : i < b.size) : oFresh (bl b) (i + 1) = decide (bt b i < 128) := by
  unfold oFresh
  rw [if_neg (by omega), Nat.add_sub_cancel, List.getD_eq_getElem?_getD, bl_at b i h]; rfl
set_option maxRecDepth 100000 in
set_option maxHeartbeats 1600000 in
theorem refOidWrong_any (n : Int) (b : ByteArray) (hb : b.size ≤ maxLen) (hn : -9223372036854775808 ≤ n ∧ n ≤ 9223372036854775807) (w : World) :
    Calls Try.prog 10 #[.int .i64 n, .string b] w fun e w' => e = .returned (.int .i64 (oidWrong n (bl b))) ∧ w' = w := by
  have hb9 : (b.size : Int) ≤ 9223372036854775807 := by unfold maxLen at hb; omega
  obtain ⟨n0, n1⟩ := hn
  by_cases h1 : n < 1
  · have HF : Hid (0 = oidWrong n (bl b)) := Lib.hid (by unfold oidWrong; rw [if_pos h1])
    go_enter Try.func10, Try.ntmps10
    go_wp2
    go_returns
    exact ⟨rets1 (congrArg (Value.int .i64) HF.out), rfl⟩
  · have HO : Hid (oidWrong n (bl b) = oW n true 0 (bl b)) := Lib.hid (by unfold oidWrong; rw [if_neg h1])
    have HR := Lib.hid (oW_range n (bl b) true 0)
    have HST := Lib.hid (fun (i : Nat) (hi : i < b.size) h => (bl_get b i (by rw [bl_length]; exact hi)) ▸ oW_step n (bl b) i (by rw [bl_length]; exact hi) h)
    have HF0 := Lib.hid (oFresh_zero (bl b))
    have HFS := Lib.hid (oFresh_bt b)
    have HGB := Lib.hid (get_bt b)
    rw [bl_length] at HR
    generalize oidWrong n (bl b) = W at *
    generalize oW n true 0 (bl b) = V at *
    have hWV := HO.out
    subst hWV
    have hn1 : -9223372036854775808 ≤ n - 1 := by omega
    clear HO
    go_enter Try.func10, Try.ntmps10
    go_wp2
    go_loopw [5] (fun iv wr => ∃ (i : Nat), iv = .int .i64 (i : Int) ∧ i ≤ b.size ∧ Hid (¬ (0 ≤ W ∧ W ≤ (i : Int))) ∧ wr = w) (fun iv _ => b.size - (intOf iv).toNat)
    case atStart => exact ⟨0, rfl, by omega, Lib.hid (by have := HR.out; simp at this ⊢; omega), rfl⟩
    case round =>
      obtain ⟨i, rfl, hi, HN, rfl⟩ := hrel
      by_cases hlt : i < b.size
      · have hst := HST.out i hlt HN.out
        have hbt := HGB.out i hlt
        have hlti : (i : Int) < (b.size : Int) := by omega
        obtain ⟨x, hx⟩ : ∃ x, bt b i = x := ⟨_, rfl⟩
        rw [hx] at hst hbt
        have HX := Lib.hid hx
        have HS := Lib.hid hst
        clear hst hx
        by_cases hx8 : x = 128
        · subst hx8
          by_cases hi0 : i = 0
          · subst hi0
            have HF : Hid ((0 : Int) + 1 = W) := Lib.hid (by have := HS.out.2 (.inl ⟨rfl, HF0.out⟩); simpa using this.symm)
            clear HN HS HX
            go_wp2
            go_returns
            exact ⟨rets1 (congrArg (Value.int .i64) HF.out), rfl⟩
          · obtain ⟨j, rfl⟩ : ∃ j, i = j + 1 := ⟨i - 1, by omega⟩
            have hbt2 := HGB.out j (by omega)
            have hfs := HFS.out j (by omega)
            obtain ⟨y, hy⟩ : ∃ y, bt b j = y := ⟨_, rfl⟩
            rw [hy] at hbt2 hfs
            have hi0b : ((j : Int) + 1 == 0) = false := beq_eq_false_iff_ne.2 (by omega)
            clear hy
            by_cases hy8 : y < 128
            · have HF : Hid (((j + 1 : Nat) : Int) + 1 = W) := Lib.hid (by have := HS.out.2 (.inl ⟨rfl, by rw [hfs]; exact decide_eq_true hy8⟩); exact this.symm)
              clear HN HS HX hfs hi0
              go_wp2
              go_returns
              exact ⟨rets1 (congrArg (Value.int .i64) HF.out), rfl⟩
            · by_cases hl : ((j + 1 : Nat) : Int) = n - 1
              · have hlb : ((j : Int) + 1 == n - 1) = true := beq_iff_eq.2 (by omega)
                have HF : Hid ((j : Int) + 1 + 1 = W) := Lib.hid (by have := HS.out.2 (.inr ⟨hl, by decide⟩); omega)
                clear HN HS HX hfs hi0 hl
                go_wp2
                go_returns
                exact ⟨rets1 (congrArg (Value.int .i64) HF.out), rfl⟩
              · have hlb : ((j : Int) + 1 == n - 1) = false := beq_eq_false_iff_ne.2 (by omega)
                have HNN : Hid (¬ (0 ≤ W ∧ W ≤ ((j + 1 + 1 : Nat) : Int))) := Lib.hid (by
                  have h2 : ¬ W = ((j + 1 : Nat) : Int) + 1 := fun h => by
                    rcases HS.out.1 h with ⟨_, h3⟩ | ⟨h3, _⟩
                    · rw [hfs] at h3; exact hy8 (of_decide_eq_true h3)
                    · exact hl h3
                  have := HN.out
                  omega)
                clear HN HS HX hfs hi0 hl
                go_wp2
                go_roundw
                case rel => exact ⟨j + 1 + 1, by simp, by omega, HNN, by trivial⟩
                case measure => simp [intOf]; omega
        · have hx8b : (x == 128) = false := beq_eq_false_iff_ne.2 hx8
          by_cases hl : (i : Int) = n - 1 ∧ 127 < x
          · obtain ⟨hl1, hl2⟩ := hl
            have HF : Hid ((i : Int) + 1 = W) := Lib.hid (HS.out.2 (.inr ⟨hl1, hl2⟩)).symm
            clear HN HS HX hx8 HST
            obtain rfl : n = (i : Int) + 1 := by omega
            clear hl1
            go_wp2
            go_returns
            exact ⟨rets1 (congrArg (Value.int .i64) HF.out), rfl⟩
          · have HNN : Hid (¬ (0 ≤ W ∧ W ≤ ((i + 1 : Nat) : Int))) := Lib.hid (by
              have h2 : ¬ W = (i : Int) + 1 := fun h => by
                rcases HS.out.1 h with ⟨h3, _⟩ | h3
                · exact hx8 h3
                · exact hl h3
              have := HN.out
              omega)
            by_cases hl1 : (i : Int) = n - 1
            · have hl2 : ¬ 127 < x := fun h => hl ⟨hl1, h⟩
              clear HN HS HX hl hx8
              have hl3 : n = (i : Int) + 1 := by omega
              subst hl3
              clear hl1
              go_wp2
              go_roundw
              case rel => exact ⟨i + 1, by simp, by omega, HNN, by trivial⟩
              case measure => simp [intOf]; omega
            · have hlb : ((i : Int) == n - 1) = false := beq_eq_false_iff_ne.2 hl1
              clear HN HS HX hl hl1 hx8
              go_wp2
              go_roundw
              case rel => exact ⟨i + 1, by simp, by omega, HNN, by trivial⟩
              case measure => simp [intOf]; omega
      · have hne : ¬ (i : Int) < (b.size : Int) := by omega
        have HF : Hid (-1 = W) := Lib.hid (by have := HR.out; have := HN.out; simp at *; omega)
        clear HN HR
        go_wp2
        go_returns
        exact ⟨rets1 (congrArg (Value.int .i64) HF.out), rfl⟩
set_option maxHeartbeats 1600000 in
theorem refONumber_any (k : Nat) (hk : (k : Int) ≤ 18446744073709551615) (w : World) :
    Calls Try.prog 20 #[.int .u64 (k : Int)] w fun e w' => e = .returned (.string (strOfNums (gB k))) ∧ Below w.heap.size w w' := by
  have hcv0 := conv_at ((k : Int) % 128)
  go_enter Try.func20, Try.ntmps20
  go_wp2
  have HGL := Lib.hid (gB_length k)
  have HL9 := Lib.hid (loG_le (k / 128) 9 (by simp; omega))
  go_loopw [0, 3] (fun tv sv wr => ∃ (t : Nat) (l : List Int), tv = .int .u64 (t : Int) ∧ sv = .string (strOfNums l) ∧ t ≤ k ∧ Hid (hiG (t / 128) ++ l = gB k) ∧ Hid (Below w.heap.size w wr)) (fun tv _ _ => (intOf tv).toNat)
  case atStart => exact ⟨k, [((k % 128 : Nat) : Int)], rfl, by simp, Nat.le_refl _, Lib.hid rfl, Lib.hid (by go_grown)⟩
  case round =>
    obtain ⟨t, l, rfl, rfl, ht, HT, HB⟩ := hrel
    clear hcv0
    by_cases h127 : (127 : Int) < (t : Int)
    · have hp := hiG_pos (n := t / 128) (by omega)
      have hll : (strOfNums l).size ≤ 10 := by
        have h1 := congrArg List.length HT.out
        rw [List.length_append, HGL.out] at h1
        have := HL9.out
        rw [strOfNums_size]; omega
      have hx : ((128 + t / 128 % 128 : Nat) : Int) = 128 + (t : Int) / 128 % 128 := by omega
      have HE := Lib.hid (show hiG (t / 128 / 128) ++ ((128 + (t : Int) / 128 % 128) :: l) = gB k by rw [← HT.out, hp, ← hx]; simp)
      have hcv := conv_at (128 + (t : Int) / 128 % 128)
      have hs1 : (strOfNums [128 + (t : Int) / 128 % 128]).size = 1 := by rw [strOfNums_size]; rfl
      have HSA := Lib.hid (strOfNums_append [128 + (t : Int) / 128 % 128] l)
      have hsz := HB.out.size
      clear hp hx
      go_wp2
      go_roundw
      case rel => exact ⟨t / 128, (128 + (t : Int) / 128 % 128) :: l, by simp, congrArg Value.string HSA.out.symm, by omega, HE, Lib.hid (HB.out.alloc hsz _)⟩
      case measure => simp [intOf]; omega
    · have HF : Hid (l = gB k) := Lib.hid (by have := HT.out; rwa [show t / 128 = 0 by omega, hiG_zero, List.nil_append] at this)
      clear HT
      go_wp2
      go_returns
      exact ⟨rets1 (congrArg (fun z => Value.string (strOfNums z)) HF.out), HB.out⟩
end Go.Proofs.Ytjdkpdaekmogkaa
