/- What ident's Get gives. -/
import Derived.Test.YtagigdefghnnhaaHeadCells
import Derived.Test.YtagigdefghnnhaaByteSl
import Derived.Test.YtagigdefghnnhaaIdent
import Derived.Test.YtagigdefghnnhaaMem2
import Derived.Handy
import Derived.Deep.QuietTactic
import Derived.BigQuiet
namespace Go.Proofs.Ytagigdefghnnhaa
open Go.RowKit Go.PlainAid
set_option linter.unusedVariables false
set_option maxHeartbeats 1600000 in
theorem getGroups_any (b : ByteArray) (st : Nat) (hb : b.size ≤ maxLen) (hst : st ≤ b.size) (w : World) :
    Calls Try.prog 53 #[.string b, .int .i64 st] w fun e w' => e = .returned (.tuple #[.int .i64 (getG true 0 ((bl b).drop st)).1, .int .i64 ((st : Int) + (getG true 0 ((bl b).drop st)).2.1), .int .i64 (getG true 0 ((bl b).drop st)).2.2]) ∧ Below w.heap.size w w' := by
  generalize hG : getG true 0 ((bl b).drop st) = G
  have HG := Lib.hid hG
  clear hG
  have hb9 : (b.size : Int) ≤ 9223372036854775807 := by unfold maxLen at hb; omega
  go_enter Try.func53, Try.ntmps53
  go_wp2
  go_loopw [7, 8] (fun tv iv wr => ∃ (i : Nat) (t : Int), tv = .int .i64 t ∧ iv = .int .i64 (i : Int) ∧ st ≤ i ∧ i ≤ b.size ∧ 0 ≤ t ∧ t ≤ 268435455 ∧ Hid (((getG (decide (i = st)) t ((bl b).drop i)).1, (getG (decide (i = st)) t ((bl b).drop i)).2.1 + (i - st), (getG (decide (i = st)) t ((bl b).drop i)).2.2) = G) ∧ Below w.heap.size w wr) (fun _ iv _ => b.size - (intOf iv).toNat)
  case atStart => exact ⟨st, 0, rfl, rfl, by omega, hst, by omega, by omega, Lib.hid (by simp; exact HG.out), Below.refl _ _⟩
  case round =>
    obtain ⟨i, t, rfl, rfl, hi, his, ht, ht2, HR, hB⟩ := hrel
    have HB := Lib.hid hB
    clear hB HG
    by_cases hlt : i < b.size
    · have hx0 := bt_nonneg b i
      have hx1 := bt_le b i
      have hR2 := HR.out
      rw [bl_drop b i hlt, getG] at hR2
      have hbt := get_bt b i hlt
      generalize hx : bt b i = x at *
      clear HR hx
      have HI := Lib.hid hi
      by_cases c1 : (decide (i = st) = true ∧ x = 128) ∨ 2097151 < t
      · rw [if_pos c1] at hR2
        have HF : Hid (((0 : Int), i - st, (3 : Int)) = G) := Lib.hid (by simpa using hR2)
        clear hR2
        by_cases ct : 2097151 < t
        · by_cases cs : i = st
          · subst cs
            by_cases cx : x = 128
            · subst cx
              go_wp2
              go_returns
              rw [← HF.out]
              exact ⟨rets3 rfl (by simp) rfl, HB.out⟩
            · have cx := beq_no cx
              go_wp2
              go_returns
              rw [← HF.out]
              exact ⟨rets3 rfl (by simp) rfl, HB.out⟩
          · have cs2 := beq_no (show ¬ (i : Int) = (st : Int) by omega)
            clear c1
            go_wp2
            go_returns
            rw [← HF.out]
            exact ⟨rets3 rfl (by have := HI.out; simp <;> omega) rfl, HB.out⟩
        · obtain ⟨cs, rfl⟩ : i = st ∧ x = 128 := by rcases c1 with ⟨h1, h2⟩ | h; exact ⟨by simpa using h1, h2⟩; exact absurd h ct
          subst cs
          go_wp2
          go_returns
          rw [← HF.out]
          exact ⟨rets3 rfl (by simp) rfl, HB.out⟩
      · rw [if_neg c1] at hR2
        have ct : t ≤ 2097151 := by omega
        have o7 := ident_or7 t x ht ct hx0 hx1
        have a7 := and8_127 x hx0 hx1
        have HR := Lib.hid hR2
        have hcs : (i : Int) = (st : Int) → (x == 128) = false := by
          intro h
          have h : i = st := by omega
          simp only [h, decide_true, true_and] at c1
          exact beq_no (by omega)
        clear hR2 c1
        by_cases c2 : 128 ≤ x
        · have HN : Hid (((getG (decide (i + 1 = st)) (t * 128 + x % 128) ((bl b).drop (i + 1))).1, (getG (decide (i + 1 = st)) (t * 128 + x % 128) ((bl b).drop (i + 1))).2.1 + (i + 1 - st), (getG (decide (i + 1 = st)) (t * 128 + x % 128) ((bl b).drop (i + 1))).2.2) = G) := Lib.hid (by
            have := HR.out
            rw [if_pos c2] at this
            rw [show decide (i + 1 = st) = false by simp; omega, ← this]
            simp; omega)
          clear HR
          have hb1 : 0 ≤ t * 128 + x % 128 := by omega
          have hb2 : t * 128 + x % 128 ≤ 268435455 := by omega
          generalize t * 128 + x % 128 = t2 at *
          by_cases cs : (i : Int) = (st : Int)
          · have cs2 := hcs cs
            have cs3 := beq_yes cs
            clear hcs cs
            go_wp2
            go_roundw
            case rel => exact ⟨i + 1, t2, rfl, by simp, by omega, by omega, hb1, hb2, HN, HB.out⟩
            case measure => simp [intOf]; omega
          · have cs3 := beq_no cs
            clear hcs cs
            go_wp2
            go_roundw
            case rel => exact ⟨i + 1, t2, rfl, by simp, by omega, by omega, hb1, hb2, HN, HB.out⟩
            case measure => simp [intOf]; omega
        · by_cases c3 : t * 128 + x % 128 < 31
          · have HF : Hid (((0 : Int), i - st, (3 : Int)) = G) := Lib.hid (by have := HR.out; rw [if_neg c2, if_pos c3] at this; simpa using this)
            clear HR
            have hb1 : 0 ≤ t * 128 + x % 128 := by omega
            have hb2 : t * 128 + x % 128 ≤ 268435455 := by omega
            generalize t * 128 + x % 128 = t2 at *
            by_cases cs : (i : Int) = (st : Int)
            · have cs2 := hcs cs
              have cs3 := beq_yes cs
              clear hcs cs
              go_wp2
              go_returns
              rw [← HF.out]
              exact ⟨rets3 rfl (by have := HI.out; simp <;> omega) rfl, HB.out⟩
            · have cs3 := beq_no cs
              clear hcs cs
              go_wp2
              go_returns
              rw [← HF.out]
              exact ⟨rets3 rfl (by have := HI.out; simp <;> omega) rfl, HB.out⟩
          · have HF : Hid ((t * 128 + x % 128, 1 + (i - st), (0 : Int)) = G) := Lib.hid (by have := HR.out; rw [if_neg c2, if_neg c3] at this; simpa using this)
            clear HR
            have hb1 : 0 ≤ t * 128 + x % 128 := by omega
            have hb2 : t * 128 + x % 128 ≤ 268435455 := by omega
            generalize t * 128 + x % 128 = t2 at *
            by_cases cs : (i : Int) = (st : Int)
            · have cs2 := hcs cs
              have cs3 := beq_yes cs
              clear hcs cs
              go_wp2
              go_returns
              rw [← HF.out]
              exact ⟨rets3 rfl (by have := HI.out; simp <;> omega) rfl, HB.out⟩
            · have cs3 := beq_no cs
              clear hcs cs
              go_wp2
              go_returns
              rw [← HF.out]
              exact ⟨rets3 rfl (by have := HI.out; simp <;> omega) rfl, HB.out⟩
    · have HF : Hid (((0 : Int), i - st, (2 : Int)) = G) := Lib.hid (by have := HR.out; rw [bl_drop_end b i (by omega)] at this; simpa [getG] using this)
      have HI := Lib.hid hi
      have HE : Hid (i = b.size) := Lib.hid (by omega)
      clear HR
      go_wp2
      go_returns
      rw [← HF.out]
      exact ⟨rets3 rfl (by have := HI.out; have := HE.out; simp <;> omega) rfl, HB.out⟩
set_option maxHeartbeats 1600000 in
theorem identGet_arg (b : ByteArray) (at_ : Int) (hb : b.size ≤ maxLen) (ha : at_ < 0 ∨ (b.size : Int) < at_) (w : World) :
    Calls Try.prog 49 #[.string b, .int .i64 at_] w fun e w' => e = .returned (.tuple #[hdV 0 0 false 0, .int .i64 0, .int .i64 1]) ∧ Below w.heap.size w w' := by
  have hb9 : (b.size : Int) ≤ 9223372036854775807 := by unfold maxLen at hb; omega
  have HR := Lib.hid (head_load (Row.new w 40 (hdC 0 0 false 0)))
  by_cases h1 : at_ < 0
  · clear ha
    go_enter Try.func49, Try.ntmps49
    go_wp2
    exact bodyPost_ret (results_cell_two Try.results49 _ (ad := ⟨w.heap.size, 0, none⟩) rfl rfl rfl HR.out) rfl ⟨rfl, by go_grown⟩
  · have h2 : (b.size : Int) < at_ := by omega
    clear ha
    go_enter Try.func49, Try.ntmps49
    go_wp2
    exact bodyPost_ret (results_cell_two Try.results49 _ (ad := ⟨w.heap.size, 0, none⟩) rfl rfl rfl HR.out) rfl ⟨rfl, by go_grown⟩
set_option maxHeartbeats 1600000 in
theorem identGet_any (b : ByteArray) (i : Nat) (hb : b.size ≤ maxLen) (hi : i ≤ b.size) (w : World) :
    Calls Try.prog 49 #[.string b, .int .i64 i] w fun e w' => e = .returned (idAns b i) ∧ Below w.heap.size w w' := by
  have hb9 : (b.size : Int) ≤ 9223372036854775807 := by unfold maxLen at hb; omega
  have HR := Lib.hid (head_load (Row.new w 40 (hdC 0 0 false 0)))
  by_cases h1 : i = b.size
  · have HA := Lib.hid (idAns_eq (show idGet ((bl b).drop i) = (0, 0, false, 0, 2) by rw [bl_drop_end b i (by omega)]; rfl))
    have he : ((i : Int) == (b.size : Int)) = true := beq_yes (by omega)
    have hl : ¬ (b.size : Int) < (i : Int) := by omega
    clear h1 hi
    go_enter Try.func49, Try.ntmps49
    go_wp2
    exact bodyPost_ret (results_cell_two Try.results49 _ (ad := ⟨w.heap.size, 0, none⟩) rfl rfl rfl HR.out) rfl ⟨by rw [HA.out]; exact rets3 rfl (by simp) rfl, by go_grown⟩
  · have hlt : i < b.size := by omega
    have he : ((i : Int) == (b.size : Int)) = false := beq_no (by omega)
    have hl : ¬ (b.size : Int) < (i : Int) := by omega
    have hl0 : ¬ (i : Int) < 0 := by omega
    have HD := Lib.hid (ext_at b i hlt)
    have hx0 := bt_nonneg b i
    have hx1 := bt_le b i
    have hbt := get_bt b i hlt
    generalize hx : bt b i = x at *
    have a31 := and8_31 x hx0 hx1
    have a32 := and8_32 x hx0 hx1
    clear hx hi h1
    by_cases ht : x % 32 = 31
    · have htq : (x % 32 == 31) = true := beq_yes ht
      have HG := Lib.hid (getGroups_any b (i + 1) hb (by omega))
      rw [show ((i + 1 : Nat) : Int) = (i : Int) + 1 by omega] at HG
      generalize hr : (bl b).drop (i + 1) = r at *
      by_cases h0 : (getG true 0 r).2.2 = 0
      · have HA := Lib.hid (idAns_eq ((congrArg idGet HD.out).trans (idGet_big ht h0)))
        rw [h0] at HG
        generalize getG true 0 r = q at *
        obtain ⟨q0, q1, q2⟩ := q
        simp only at HG HA
        clear h0 ht hr
        go_enter Try.func49, Try.ntmps49
        go_wp2_with fail
        refine (HG.out _).mono ?_
        rintro e w1 ⟨rfl, hb1⟩
        have HR1 := Lib.hid ((Row.new w 40 (hdC 0 0 false 0)).below hb1 (by simp))
        obtain ⟨k0, k1, k2, k3, f0, f1, f2, f3⟩ := head_facts HR1.out
        have HB1 := Lib.hid (((Below.refl w.heap.size w).alloc (Nat.le_refl _) _).trans (hb1.mono (by simp)))
        clear hb1
        go_wp2
        have HRf := Lib.hid ((((HR1.out.set 0 (.int .i64 (x / 64))).set 1 (.int .i64 q0)).set 2 (.bool (x / 32 % 2 * 32 != 0))).set 3 (.int .i64 0))
        exact bodyPost_ret (results_cell_two Try.results49 _ (ad := ⟨w.heap.size, 0, none⟩) rfl rfl rfl (head_load HRf.out)) rfl
          ⟨by rw [HA.out, bit_of x hx0 hx1]; exact rets3 rfl (by simp; omega) rfl, (((HB1.out.setCell (Nat.le_refl _) _).setCell (Nat.le_refl _) _).setCell (Nat.le_refl _) _).setCell (Nat.le_refl _) _⟩
      · have HA := Lib.hid (idAns_eq ((congrArg idGet HD.out).trans (idGet_err ht h0)))
        generalize getG true 0 r = q at *
        obtain ⟨q0, q1, q2⟩ := q
        simp only at HG HA h0
        have hq : (q2 != 0) = true := by simpa using h0
        have hq2 : (q2 == 0) = false := by simpa using h0
        clear h0 ht hr
        go_enter Try.func49, Try.ntmps49
        go_wp2_with fail
        refine (HG.out _).mono ?_
        rintro e w1 ⟨rfl, hb1⟩
        have HR1 := Lib.hid ((Row.new w 40 (hdC 0 0 false 0)).below hb1 (by simp))
        obtain ⟨k0, k1, k2, k3, f0, f1, f2, f3⟩ := head_facts HR1.out
        have HB1 := Lib.hid (((Below.refl w.heap.size w).alloc (Nat.le_refl _) _).trans (hb1.mono (by simp)))
        clear hb1
        go_wp2
        have HRf := Lib.hid ((((HR1.out.set 0 (.int .i64 0)).set 1 (.int .i64 0)).set 2 (.bool false)).set 3 (.int .i64 0))
        exact bodyPost_ret (results_cell_two Try.results49 _ (ad := ⟨w.heap.size, 0, none⟩) rfl rfl rfl (head_load HRf.out)) rfl
          ⟨by rw [HA.out]; exact rets3 rfl (by simp; omega) rfl, (((HB1.out.setCell (Nat.le_refl _) _).setCell (Nat.le_refl _) _).setCell (Nat.le_refl _) _).setCell (Nat.le_refl _) _⟩
    · have htq : (x % 32 == 31) = false := beq_no ht
      have HA := Lib.hid (idAns_eq ((congrArg idGet HD.out).trans (idGet_small ht)))
      clear ht
      go_enter Try.func49, Try.ntmps49
      go_wp2
      have HRf := Lib.hid (Row.new w 40 (hdC (x / 64) (x % 32) (x / 32 % 2 * 32 != 0) 0))
      exact bodyPost_ret (results_cell_two Try.results49 _ (ad := ⟨w.heap.size, 0, none⟩) rfl rfl rfl (head_load HRf.out)) rfl
        ⟨by rw [HA.out, bit_of x hx0 hx1]; exact rets3 rfl (by simp) rfl, by go_grown⟩
end Go.Proofs.Ytagigdefghnnhaa
