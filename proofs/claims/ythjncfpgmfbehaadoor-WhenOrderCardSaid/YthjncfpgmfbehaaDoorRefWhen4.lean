/- What the reference's Full and Right of times give. Of every tag, and every text of at most a million bytes. -/
import Derived.Test.YthjncfpgmfbehaaDoorRefWhen3
namespace Go.Proofs.YthjncfpgmfbehaaDoor
open Go.RowKit Go.PlainAid
set_option linter.unusedVariables false
def centS (x : Int) : ByteArray := if x < 53 then ⟨#[50, 48]⟩ else ⟨#[49, 57]⟩
theorem centS_bl (x : Int) : bl (centS x) = cent x := by unfold centS cent; split <;> rfl
def fullS (tag : Int) (s : ByteArray) : ByteArray := if tag = 24 then s.extract 0 14 else centS (bt s 0) ++ s.extract 0 12
theorem fullS_bl (tag : Int) (s : ByteArray) (h : 12 ≤ s.size) (h2 : tag = 24 → 14 ≤ s.size) : bl (fullS tag s) = fullC tag (bl s) := by
  unfold fullS fullC
  split
  · rename_i e; rw [bl_extract _ _ _ (h2 e)]; simp
  · rw [bl_append, centS_bl, bl_extract _ _ _ h, bt_g]; simp
theorem fullS_size (tag : Int) (s : ByteArray) (h : 12 ≤ s.size) (h2 : tag = 24 → 14 ≤ s.size) : (fullS tag s).size = 14 := by
  rw [← bl_length, fullS_bl tag s h h2]
  unfold fullC
  split
  · rename_i e; rw [List.length_take, bl_length]; have := h2 e; omega
  · rw [List.length_append, cent_length, List.length_take, bl_length]; omega
theorem refFull_any (tag : Int) (s : ByteArray) (hs : s.size ≤ 1000000) (h : 12 ≤ s.size) (h2 : tag = 24 → 14 ≤ s.size) (w : World) :
    Calls Tryd.prog 17 #[.int .i64 tag, .string s] w fun e w' => e = .returned (.string (fullS tag s)) ∧ w' = w := by
  by_cases ht : tag = 24
  · subst ht
    have hl : (14 : Int) ≤ (s.size : Int) := by have := h2 rfl; omega
    have HF : Hid (s.extract 0 14 = fullS 24 s) := Lib.hid rfl
    clear h2
    go_enter Tryd.func17, Tryd.ntmps17
    go_wp2
    go_returns
    exact ⟨rets1 (congrArg Value.string HF.out), rfl⟩
  · have htb : (tag == 24) = false := by simpa using ht
    have hl : (12 : Int) ≤ (s.size : Int) := by omega
    have hi0 : (0 : Int) < (s.size : Int) := by omega
    have gx := get_bt s 0 (by omega)
    have hsz : (s.extract 0 12).size = 12 := by rw [ByteArray.size_extract]; omega
    have HF : Hid (fullS tag s = centS (bt s 0) ++ s.extract 0 12) := Lib.hid (if_neg ht)
    generalize fullS tag s = R at *
    generalize bt s 0 = x at *
    have hm1 : ¬ 9223372036854775807 < (⟨#[50, 48]⟩ : ByteArray).size + (s.extract 0 12).size := by rw [hsz]; decide
    have hm2 : ¬ 9223372036854775807 < (⟨#[49, 57]⟩ : ByteArray).size + (s.extract 0 12).size := by rw [hsz]; decide
    clear h2 ht
    by_cases hx : x < 53
    · have HR : Hid ((⟨#[50, 48]⟩ : ByteArray) ++ s.extract 0 12 = R) := Lib.hid (by rw [HF.out]; unfold centS; rw [if_pos hx])
      clear HF
      go_enter Tryd.func17, Tryd.ntmps17
      go_wp2
      go_returns
      exact ⟨rets1 (congrArg Value.string HR.out), rfl⟩
    · have HR : Hid ((⟨#[49, 57]⟩ : ByteArray) ++ s.extract 0 12 = R) := Lib.hid (by rw [HF.out]; unfold centS; rw [if_neg hx])
      clear HF
      go_enter Tryd.func17, Tryd.ntmps17
      go_wp2
      go_returns
      exact ⟨rets1 (congrArg Value.string HR.out), rfl⟩
theorem dateP_plain4 {l : List Int} (h : dateP (fullC 24 l)) (hl : l.length = 15) : plainP (l.take 4) := by
  intro i hi
  rw [List.length_take, hl] at hi
  have hi : i < 4 := hi
  have hf : fullC 24 l = l.take 14 := if_pos rfl
  rw [hf] at h
  have := (h.2 i (by rw [h.1]; omega)).1
  rw [g_take (by omega)] at this ⊢
  exact this
set_option maxRecDepth 100000 in
set_option maxHeartbeats 4000000 in
theorem refRightW_any (tag : Int) (s : ByteArray) (hs : s.size ≤ 1000000) (w : World) :
    Calls Tryd.prog 16 #[.int .i64 tag, .string s] w fun e w' => e = .returned (.bool (decide (rightP tag (bl s)))) ∧ w' = w := by
  by_cases h23 : tag = 23
  · subst h23
    have HR := Lib.hid (right_utc (bl s))
    rw [bl_length, ← bt_g] at HR
    by_cases hl : s.size = 13
    · have hli : (s.size : Int) = 13 := by omega
      have hi : (12 : Int) < (s.size : Int) := by omega
      have hn12 : 12 < s.size := by omega
      have gx := get_bt s 12 hn12
      have HFU := Lib.hid (refFull_any 23 s hs (by omega) (fun e => absurd e (by decide)))
      have HDA := Lib.hid (refDate_any (fullS 23 s) (by rw [fullS_size _ _ (by omega) (fun e => absurd e (by decide))]; decide))
      rw [fullS_bl 23 s (by omega) (fun e => absurd e (by decide))] at HDA
      generalize fullS 23 s = F at *
      by_cases hz : bt s 12 = 90
      · have HB : Hid (decide (rightP 23 (bl s)) = decide (dateP (fullC 23 (bl s)))) := Lib.hid (decide_eq_decide.2 ⟨fun h => (HR.out.1 h).2.2, fun h => HR.out.2 ⟨hl, hz, h⟩⟩)
        generalize decide (dateP (fullC 23 (bl s))) = D at *
        rw [HB.out]
        rw [hz] at gx
        clear HB HR hz hl
        go_enter Tryd.func16, Tryd.ntmps16
        go_wp2_with fail
        refine (HFU.out _).mono ?_
        rintro e w' ⟨rfl, rfl⟩
        go_wp2_with fail
        refine (HDA.out _).mono ?_
        rintro e w' ⟨rfl, rfl⟩
        go_wp2
        go_returns
        exact ⟨rfl, rfl⟩
      · have HB : Hid (false = decide (rightP 23 (bl s))) := Lib.hid (decide_eq_false (fun h => hz (HR.out.1 h).2.1)).symm
        have hzb : (bt s 12 == 90) = false := by simpa using hz
        generalize decide (rightP 23 (bl s)) = B at *
        clear HR hz hl HDA HFU
        go_enter Tryd.func16, Tryd.ntmps16
        go_wp2
        go_returns
        exact ⟨rets1 (congrArg Value.bool HB.out), rfl⟩
    · have hlb : ((s.size : Int) == 13) = false := by simp; omega
      have HB : Hid (false = decide (rightP 23 (bl s))) := Lib.hid (decide_eq_false (fun h => hl (HR.out.1 h).1)).symm
      generalize decide (rightP 23 (bl s)) = B at *
      clear HR hl
      go_enter Tryd.func16, Tryd.ntmps16
      go_wp2
      go_returns
      exact ⟨rets1 (congrArg Value.bool HB.out), rfl⟩
  · have hb23 : (tag == 23) = false := by simpa using h23
    by_cases h24 : tag = 24
    · subst h24
      have HR := Lib.hid (right_gen (bl s))
      rw [bl_length, ← bt_g] at HR
      clear h23 hb23
      by_cases hl : s.size = 15
      · have hli : (s.size : Int) = 15 := by omega
        have hi : (14 : Int) < (s.size : Int) := by omega
        have hl4 : (4 : Int) ≤ (s.size : Int) := by omega
        have hn14 : 14 < s.size := by omega
        have gx := get_bt s 14 hn14
        have HFU := Lib.hid (refFull_any 24 s hs (by omega) (fun e => by omega))
        have HDA := Lib.hid (refDate_any (fullS 24 s) (by rw [fullS_size _ _ (by omega) (fun e => by omega)]; decide))
        rw [fullS_bl 24 s (by omega) (fun e => by omega)] at HDA
        generalize fullS 24 s = F at *
        by_cases hz : bt s 14 = 90
        · have hzg := gx
          rw [hz] at hzg
          by_cases hd : dateP (fullC 24 (bl s))
          · have hsz4 : (s.extract 0 4).size = 4 := by rw [ByteArray.size_extract]; omega
            have hbl4 : bl (s.extract 0 4) = (bl s).take 4 := by rw [bl_extract _ _ _ (by omega)]; simp
            have HB : Hid ((!Op.bytesLess (s.extract 0 4).toList [50, 48, 53, 48]) = decide (rightP 24 (bl s))) := Lib.hid (by
              rw [year_less _ hsz4 (by rw [hbl4]; exact dateP_plain4 hd (by rw [bl_length]; exact hl)), hbl4]
              apply decide_eq_decide.2
              rw [yearAt_congr (l := (bl s).take 4) (m := bl s) (i := 0) (fun j hj => g_take (by omega)), yearAt_congr (l := (bl s).take 4) (m := bl s) (i := 2) (fun j hj => g_take (by omega))]
              exact ⟨fun h => HR.out.2 ⟨hl, hz, hd, h⟩, fun h => (HR.out.1 h).2.2.2⟩)
            rw [decide_eq_true hd] at HDA
            generalize decide (rightP 24 (bl s)) = B at *
            clear HR hz hl hd gx
            go_enter Tryd.func16, Tryd.ntmps16
            go_wp2_with fail
            refine (HFU.out _).mono ?_
            rintro e w' ⟨rfl, rfl⟩
            go_wp2_with fail
            refine (HDA.out _).mono ?_
            rintro e w' ⟨rfl, rfl⟩
            go_wp2
            go_returns
            exact ⟨rets1 (congrArg Value.bool HB.out), rfl⟩
          · have HB : Hid (false = decide (rightP 24 (bl s))) := Lib.hid (decide_eq_false (fun h => hd (HR.out.1 h).2.2.1)).symm
            rw [decide_eq_false hd] at HDA
            generalize decide (rightP 24 (bl s)) = B at *
            clear HR hz hl hd gx
            go_enter Tryd.func16, Tryd.ntmps16
            go_wp2_with fail
            refine (HFU.out _).mono ?_
            rintro e w' ⟨rfl, rfl⟩
            go_wp2_with fail
            refine (HDA.out _).mono ?_
            rintro e w' ⟨rfl, rfl⟩
            go_wp2
            go_returns
            exact ⟨rets1 (congrArg Value.bool HB.out), rfl⟩
        · have HB : Hid (false = decide (rightP 24 (bl s))) := Lib.hid (decide_eq_false (fun h => hz (HR.out.1 h).2.1)).symm
          have hzb : (bt s 14 == 90) = false := by simpa using hz
          generalize decide (rightP 24 (bl s)) = B at *
          clear HR hz hl HDA HFU
          go_enter Tryd.func16, Tryd.ntmps16
          go_wp2
          go_returns
          exact ⟨rets1 (congrArg Value.bool HB.out), rfl⟩
      · have hlb : ((s.size : Int) == 15) = false := by simp; omega
        have HB : Hid (false = decide (rightP 24 (bl s))) := Lib.hid (decide_eq_false (fun h => hl (HR.out.1 h).1)).symm
        generalize decide (rightP 24 (bl s)) = B at *
        clear HR hl
        go_enter Tryd.func16, Tryd.ntmps16
        go_wp2
        go_returns
        exact ⟨rets1 (congrArg Value.bool HB.out), rfl⟩
    · have hb24 : (tag == 24) = false := by simpa using h24
      have HB : Hid (false = decide (rightP tag (bl s))) := Lib.hid (decide_eq_false (right_none h23 h24 _)).symm
      generalize decide (rightP tag (bl s)) = B at *
      clear h23 h24
      go_enter Tryd.func16, Tryd.ntmps16
      go_wp2
      go_returns
      exact ⟨rets1 (congrArg Value.bool HB.out), rfl⟩
end Go.Proofs.YthjncfpgmfbehaaDoor
