/- What the reference's Get gives. -/
import Derived.Test.YtagigdefghnnhaaHeadCells
namespace Go.Proofs.Ytagigdefghnnhaa
open Go.RowKit Go.PlainAid
set_option linter.unusedVariables false
set_option maxHeartbeats 1600000 in
theorem refIdGet_arg (b : ByteArray) (at_ : Int) (hb : b.size ≤ maxLen) (ha : at_ < 0 ∨ (b.size : Int) < at_) (w : World) :
    Calls Try.prog 46 #[.string b, .int .i64 at_] w fun e w' => e = .returned (.tuple #[hdV 0 0 false 0, .int .i64 0, .int .i64 1]) ∧ Below w.heap.size w w' := by
  have hb9 : (b.size : Int) ≤ 9223372036854775807 := by unfold maxLen at hb; omega
  have HR := Lib.hid ((Row.new w 40 (hdC 0 0 false 0)).alloc (.cells (hdC 0 0 false 0).toArray 40))
  by_cases h1 : at_ < 0
  · clear ha
    go_enter Try.func46, Try.ntmps46
    go_wp2
    exact bodyPost_ret (results_cell_two Try.results46 _ (ad := ⟨w.heap.size, 0, none⟩) rfl rfl rfl (head_load HR.out)) rfl ⟨rfl, by go_grown⟩
  · have h2 : (b.size : Int) < at_ := by omega
    clear ha
    go_enter Try.func46, Try.ntmps46
    go_wp2
    exact bodyPost_ret (results_cell_two Try.results46 _ (ad := ⟨w.heap.size, 0, none⟩) rfl rfl rfl (head_load HR.out)) rfl ⟨rfl, by go_grown⟩
set_option maxHeartbeats 1600000 in
theorem refIdGet_any (b : ByteArray) (i : Nat) (hb : b.size ≤ maxLen) (hi : i ≤ b.size) (w : World) :
    Calls Try.prog 46 #[.string b, .int .i64 i] w fun e w' => e = .returned (idAns b i) ∧ Below w.heap.size w w' := by
  have hb9 : (b.size : Int) ≤ 9223372036854775807 := by unfold maxLen at hb; omega
  have HR := Lib.hid ((Row.new w 40 (hdC 0 0 false 0)).alloc (.cells (hdC 0 0 false 0).toArray 40))
  by_cases h1 : i = b.size
  · have HA := Lib.hid (idAns_eq (show idGet ((bl b).drop i) = (0, 0, false, 0, 2) by rw [bl_drop_end b i (by omega)]; rfl))
    have he : ((i : Int) == (b.size : Int)) = true := beq_yes (by omega)
    have hl : ¬ (b.size : Int) < (i : Int) := by omega
    clear h1 hi
    go_enter Try.func46, Try.ntmps46
    go_wp2
    exact bodyPost_ret (results_cell_two Try.results46 _ (ad := ⟨w.heap.size, 0, none⟩) rfl rfl rfl (head_load HR.out)) rfl ⟨by rw [HA.out]; exact rets3 rfl (by simp) rfl, by go_grown⟩
  · have hlt : i < b.size := by omega
    have he : ((i : Int) == (b.size : Int)) = false := beq_no (by omega)
    have hl : ¬ (b.size : Int) < (i : Int) := by omega
    have hl0 : ¬ (i : Int) < 0 := by omega
    have HD := Lib.hid (ext_at b i hlt)
    have hx0 := bt_nonneg b i
    have hx1 := bt_le b i
    have hbt := get_bt b i hlt
    generalize hx : bt b i = x at *
    clear hx hi h1
    have hbit : (x / 32 % 2 == 1) = decide (x / 32 % 2 = 1) := rfl
    by_cases ht : x % 32 = 31
    · have htq2 : (x % 32 != 31) = false := by simpa using ht
      have hEG : idGet ((bl b).drop i) = if (getG true 0 ((bl b).drop (i + 1))).2.2 = 0 then (x / 64, (getG true 0 ((bl b).drop (i + 1))).1, decide (x / 32 % 2 = 1), (getG true 0 ((bl b).drop (i + 1))).2.1 + 1, 0) else (0, 0, false, (getG true 0 ((bl b).drop (i + 1))).2.1 + 1, (getG true 0 ((bl b).drop (i + 1))).2.2) := by
        rw [HD.out, idGet, if_pos ht]
      generalize hG : getG true 0 ((bl b).drop (i + 1)) = G at hEG
      have HG := Lib.hid hG
      have HOK : Hid (G.2.2 = 0 → idAns b i = .tuple #[hdV (x / 64) G.1 (decide (x / 32 % 2 = 1)) 0, .int .i64 ((i : Int) + (G.2.1 + 1 : Nat)), .int .i64 0]) := Lib.hid (fun h => idAns_eq (by rw [hEG, if_pos h]))
      have HNO : Hid (G.2.2 ≠ 0 → idAns b i = .tuple #[hdV 0 0 false 0, .int .i64 ((i : Int) + (G.2.1 + 1 : Nat)), .int .i64 G.2.2]) := Lib.hid (fun h => idAns_eq (by rw [hEG, if_neg h]))
      have hi1 : i + 1 ≤ b.size := by omega
      clear ht hEG hG HD HR
      go_enter Try.func46, Try.ntmps46
      go_wp2
      go_loop [10, 11] (fun tv iv => ∃ (k : Nat) (t : Int), tv = .int .i64 t ∧ iv = .int .i64 (k : Int) ∧ i + 1 ≤ k ∧ k ≤ b.size ∧ 0 ≤ t ∧ t ≤ 268435455 ∧ Hid (((getG (decide (k = i + 1)) t ((bl b).drop k)).1, (getG (decide (k = i + 1)) t ((bl b).drop k)).2.1 + (k - (i + 1)), (getG (decide (k = i + 1)) t ((bl b).drop k)).2.2) = G)) (fun _ iv => b.size - (intOf iv).toNat)
      case atStart => exact ⟨i + 1, 0, rfl, by simp, by omega, hi1, by omega, by omega, Lib.hid (by simp; exact HG.out)⟩
      case round =>
        obtain ⟨k, t, rfl, rfl, hk, hks, ht, ht2, HR⟩ := hrel
        clear HG
        have HI := Lib.hid hk
        by_cases hlk : k < b.size
        · have hy0 := bt_nonneg b k
          have hy1 := bt_le b k
          have hR2 := HR.out
          rw [bl_drop b k hlk, getG] at hR2
          have hby := get_bt b k hlk
          generalize hy : bt b k = y at *
          clear HR hy hbt
          by_cases c1 : (decide (k = i + 1) = true ∧ y = 128) ∨ 2097151 < t
          · rw [if_pos c1] at hR2
            have HF : Hid (((0 : Int), k - (i + 1), (3 : Int)) = G) := Lib.hid (by simpa using hR2)
            have HA := Lib.hid (HNO.out (by rw [← HF.out]; simp))
            rw [← HF.out] at HA
            clear hR2 HOK HNO
            by_cases cs : (k : Int) = (i : Int) + 1
            · have csq := beq_yes cs
              by_cases cy : y = 128
              · have cyq := beq_yes cy
                clear c1 cs
                go_wp2
                exact bodyPost_ret (results_cell_two Try.results46 _ (ad := ⟨w.heap.size, 0, none⟩) rfl rfl rfl (head_load (((Row.new w 40 (hdC 0 0 false 0)).alloc _).alloc _))) rfl ⟨by rw [HA.out]; exact rets3 rfl (by have := HI.out; simp <;> omega) rfl, by go_grown⟩
              · have cyq := beq_no cy
                have ct : 2097151 < t := by rcases c1 with h | h; exact absurd h.2 cy; exact h
                have cbig : 268435455 < 128 * t + y % 128 := by omega
                have cbig2 : 128 * t + y % 128 ≤ 9223372036854775807 := by omega
                clear c1 cs
                go_wp2
                exact bodyPost_ret (results_cell_two Try.results46 _ (ad := ⟨w.heap.size, 0, none⟩) rfl rfl rfl (head_load (((Row.new w 40 (hdC 0 0 false 0)).alloc _).alloc _))) rfl ⟨by rw [HA.out]; exact rets3 rfl (by have := HI.out; simp <;> omega) rfl, by go_grown⟩
            · have csq := beq_no cs
              have ct : 2097151 < t := by rcases c1 with h | h; exact absurd (by have := of_decide_eq_true h.1; omega) cs; exact h
              have cbig : 268435455 < 128 * t + y % 128 := by omega
              have cbig2 : 128 * t + y % 128 ≤ 9223372036854775807 := by omega
              clear c1 cs
              go_wp2
              exact bodyPost_ret (results_cell_two Try.results46 _ (ad := ⟨w.heap.size, 0, none⟩) rfl rfl rfl (head_load (((Row.new w 40 (hdC 0 0 false 0)).alloc _).alloc _))) rfl ⟨by rw [HA.out]; exact rets3 rfl (by have := HI.out; simp <;> omega) rfl, by go_grown⟩
          · rw [if_neg c1] at hR2
            have ct : t ≤ 2097151 := by omega
            have HR := Lib.hid hR2
            have hcs : (k : Int) = (i : Int) + 1 → (y == 128) = false := by
              intro h
              have h : k = i + 1 := by omega
              simp only [h, decide_true, true_and] at c1
              exact beq_no (by omega)
            clear hR2 c1
            have hb0 : 128 * t + y % 128 = t * 128 + y % 128 := by omega
            have hb1 : 0 ≤ t * 128 + y % 128 := by omega
            have hb2 : t * 128 + y % 128 ≤ 268435455 := by omega
            by_cases c2 : 128 ≤ y
            · have HN : Hid (((getG (decide (k + 1 = i + 1)) (t * 128 + y % 128) ((bl b).drop (k + 1))).1, (getG (decide (k + 1 = i + 1)) (t * 128 + y % 128) ((bl b).drop (k + 1))).2.1 + (k + 1 - (i + 1)), (getG (decide (k + 1 = i + 1)) (t * 128 + y % 128) ((bl b).drop (k + 1))).2.2) = G) := Lib.hid (by
                have := HR.out
                rw [if_pos c2] at this
                rw [show decide (k + 1 = i + 1) = false by simp; omega, ← this]
                simp; omega)
              clear HR HOK HNO
              generalize t * 128 + y % 128 = t2 at *
              by_cases cs : (k : Int) = (i : Int) + 1
              all_goals
                first | (have cs2 := hcs cs; have cs3 := beq_yes cs) | have cs3 := beq_no cs
                clear hcs cs
                go_wp2
                go_round
                case rel => exact ⟨k + 1, t2, rfl, by simp, by omega, by omega, hb1, hb2, HN⟩
                case measure => simp [intOf]; omega
            · by_cases c3 : t * 128 + y % 128 < 31
              · have HF : Hid (((0 : Int), k - (i + 1), (3 : Int)) = G) := Lib.hid (by have := HR.out; rw [if_neg c2, if_pos c3] at this; simpa using this)
                have HA := Lib.hid (HNO.out (by rw [← HF.out]; simp))
                rw [← HF.out] at HA
                clear HR HOK HNO
                generalize t * 128 + y % 128 = t2 at *
                by_cases cs : (k : Int) = (i : Int) + 1
                all_goals
                  first | (have cs2 := hcs cs; have cs3 := beq_yes cs) | have cs3 := beq_no cs
                  clear hcs cs
                  go_wp2
                  exact bodyPost_ret (results_cell_two Try.results46 _ (ad := ⟨w.heap.size, 0, none⟩) rfl rfl rfl (head_load (((Row.new w 40 (hdC 0 0 false 0)).alloc _).alloc _))) rfl ⟨by rw [HA.out]; exact rets3 rfl (by have := HI.out; simp <;> omega) rfl, by go_grown⟩
              · have HF : Hid ((t * 128 + y % 128, 1 + (k - (i + 1)), (0 : Int)) = G) := Lib.hid (by have := HR.out; rw [if_neg c2, if_neg c3] at this; simpa using this)
                have HA := Lib.hid (HOK.out (by rw [← HF.out]))
                rw [← HF.out] at HA
                clear HR HOK HNO
                generalize t * 128 + y % 128 = t2 at *
                by_cases cs : (k : Int) = (i : Int) + 1
                all_goals
                  first | (have cs2 := hcs cs; have cs3 := beq_yes cs) | have cs3 := beq_no cs
                  clear hcs cs
                  go_wp2
                  exact bodyPost_ret (results_cell_two Try.results46 _ (ad := ⟨w.heap.size, 0, none⟩) rfl rfl rfl (head_load (((Row.new w 40 (hdC (x / 64) t2 (decide (x / 32 % 2 = 1)) 0)).alloc _).alloc _))) rfl ⟨by rw [HA.out]; exact rets3 rfl (by have := HI.out; simp <;> omega) rfl, by go_grown⟩
        · have HF : Hid (((0 : Int), k - (i + 1), (2 : Int)) = G) := Lib.hid (by have := HR.out; rw [bl_drop_end b k (by omega)] at this; simpa [getG] using this)
          have HA := Lib.hid (HNO.out (by rw [← HF.out]; simp))
          rw [← HF.out] at HA
          have HE : Hid (k = b.size) := Lib.hid (by omega)
          clear HR HOK HNO
          go_wp2
          exact bodyPost_ret (results_cell_two Try.results46 _ (ad := ⟨w.heap.size, 0, none⟩) rfl rfl rfl (head_load (((Row.new w 40 (hdC 0 0 false 0)).alloc _).alloc _))) rfl ⟨by rw [HA.out]; exact rets3 rfl (by have := HI.out; have := HE.out; simp <;> omega) rfl, by go_grown⟩
    · have htq : (x % 32 != 31) = true := by simpa using ht
      have HA := Lib.hid (idAns_eq ((congrArg idGet HD.out).trans (idGet_small ht)))
      clear ht
      go_enter Try.func46, Try.ntmps46
      go_wp2
      exact bodyPost_ret (results_cell_two Try.results46 _ (ad := ⟨w.heap.size, 0, none⟩) rfl rfl rfl (head_load (((Row.new w 40 (hdC (x / 64) (x % 32) (decide (x / 32 % 2 = 1)) 0)).alloc _).alloc _))) rfl ⟨by rw [HA.out]; exact rets3 rfl (by simp) rfl, by go_grown⟩
end Go.Proofs.Ytagigdefghnnhaa
