/- What ident's Get gives. -/
import Derived.Test.YtiiimhamfibdbaaE1
import Derived.Test.YtiiimhamfibdbaaB0
import Derived.Test.YtiiimhamfibdbaaP0
import Derived.Test.YtiiimhamfibdbaaE2
import Derived.Handy
import Derived.Deep.QuietTactic
import Derived.BigQuiet
import Derived.Laws.BytesArg
namespace Go.Proofs.Ytiiimhamfibdbaa
open Go.RowKit Go.PlainAid
set_option linter.unusedVariables false
set_option maxHeartbeats 1600000 in
set_option maxRecDepth 100000 in
theorem getGroups_any (b : ByteArray) (st : Nat) (hb : b.size ≤ maxLen) (hst : st ≤ b.size) (w : World) :
  Calls Try.prog 57 #[.string b, .int .i64 st] w fun e w' => e = .returned (.tuple #[.int .i64 (getG true 0 ((bl b).drop st)).1, .int .i64 ((st : Int) + (getG true 0 ((bl b).drop st)).2.1), .int .i64 (getG true 0 ((bl b).drop st)).2.2]) ∧ Below w.heap.size w w' := by
 generalize hG : getG true 0 ((bl b).drop st) = G
 have HG := Lib.hid hG
 clear hG
 have hb9 : (b.size : Int) ≤ 9223372036854775807 := by unfold maxLen at hb; omega
 go_enter Try.func57, Try.ntmps57
 go_wp2
 go_loopw [7, 8] (fun tv iv wr => ∃ (i : Nat) (t : Int), tv = .int .i64 t ∧ iv = .int .i64 (i : Int) ∧ st ≤ i ∧ i ≤ b.size ∧ 0 ≤ t ∧ t ≤ 268435455 ∧ Hid (((getG (decide (i = st)) t ((bl b).drop i)).1, (getG (decide (i = st)) t ((bl b).drop i)).2.1 + (i - st), (getG (decide (i = st)) t ((bl b).drop i)).2.2) = G) ∧ Below w.heap.size w wr) (fun _ iv _ => b.size - (intOf iv).toNat)
 case atStart => exact ⟨st, 0, rfl, rfl, by omega, hst, by omega, by omega, Lib.hid (by simp; exact HG.out), Below.refl _ _⟩
 case round =>
  obtain ⟨i, t, rfl, rfl, hi, his, ht, ht2, HR, hB⟩ := hrel
  have HB := Lib.hid hB
  clear hB HG
  by_cases hlt : i < b.size
  ·have hx0 := bt_nonneg b i
   have hx1 := bt_le b i
   have hR2 := HR.out
   rw [bl_drop b i hlt, getG] at hR2
   have hbt := get_bt b i hlt
   generalize hx : bt b i = x at *
   clear HR hx
   have HI := Lib.hid hi
   by_cases c1 : (decide (i = st) = true ∧ x = 128) ∨ 2097151 < t
   ·rw [if_pos c1] at hR2
    have HF : Hid (((0 : Int), i - st, (3 : Int)) = G) := Lib.hid (by simpa using hR2)
    clear hR2
    by_cases ct : 2097151 < t
    ·by_cases cs : i = st
     ·subst cs
      by_cases cx : x = 128
      ·subst cx
       go_wp2
       go_returns
       rw [← HF.out]
       exact ⟨rets3 rfl (by simp) rfl, HB.out⟩
      ·have cx := beq_no cx
       go_wp2
       go_returns
       rw [← HF.out]
       exact ⟨rets3 rfl (by simp) rfl, HB.out⟩
     ·have cs2 := beq_no (show ¬ (i : Int) = (st : Int) by omega)
      clear c1
      go_wp2
      go_returns
      rw [← HF.out]
      exact ⟨rets3 rfl (by have := HI.out; simp <;> omega) rfl, HB.out⟩
    ·obtain ⟨cs, rfl⟩ : i = st ∧ x = 128 := by rcases c1 with ⟨h1, h2⟩ | h; exact ⟨by simpa using h1, h2⟩; exact absurd h ct
     subst cs
     go_wp2
     go_returns
     rw [← HF.out]
     exact ⟨rets3 rfl (by simp) rfl, HB.out⟩
   ·rw [if_neg c1] at hR2
    have ct : t ≤ 2097151 := by omega
    have o7 := ident_or7 t x ht ct hx0 hx1
    have a7 := and8_127 x hx0 hx1
    have HR := Lib.hid hR2
    have hcs : (i : Int) = (st : Int) → (x == 128) = false := by
     intro h
     have h : i = st := by omega
     simp only [h, decide_true, true_and] at c1
     exact beq_no (by omega)
    clear hR2 c1
    by_cases c2 : 128 ≤ x
    ·have HN : Hid (((getG (decide (i + 1 = st)) (t * 128 + x % 128) ((bl b).drop (i + 1))).1, (getG (decide (i + 1 = st)) (t * 128 + x % 128) ((bl b).drop (i + 1))).2.1 + (i + 1 - st), (getG (decide (i + 1 = st)) (t * 128 + x % 128) ((bl b).drop (i + 1))).2.2) = G) := Lib.hid (by
      have := HR.out
      rw [if_pos c2] at this
      rw [show decide (i + 1 = st) = false by simp; omega, ← this]
      simp; omega)
     clear HR
     have hb1 : 0 ≤ t * 128 + x % 128 := by omega
     have hb2 : t * 128 + x % 128 ≤ 268435455 := by omega
     generalize t * 128 + x % 128 = t2 at *
     by_cases cs : (i : Int) = (st : Int)
     ·have cs2 := hcs cs
      have cs3 := beq_yes cs
      clear hcs cs
      go_wp2
      go_roundw
      case rel => exact ⟨i + 1, t2, rfl, by simp, by omega, by omega, hb1, hb2, HN, HB.out⟩
      case measure => simp [intOf]; omega
     ·have cs3 := beq_no cs
      clear hcs cs
      go_wp2
      go_roundw
      case rel => exact ⟨i + 1, t2, rfl, by simp, by omega, by omega, hb1, hb2, HN, HB.out⟩
      case measure => simp [intOf]; omega
    ·by_cases c3 : t * 128 + x % 128 < 31
     ·have HF : Hid (((0 : Int), i - st, (3 : Int)) = G) := Lib.hid (by have := HR.out; rw [if_neg c2, if_pos c3] at this; simpa using this)
      clear HR
      have hb1 : 0 ≤ t * 128 + x % 128 := by omega
      have hb2 : t * 128 + x % 128 ≤ 268435455 := by omega
      generalize t * 128 + x % 128 = t2 at *
      by_cases cs : (i : Int) = (st : Int)
      ·have cs2 := hcs cs
       have cs3 := beq_yes cs
       clear hcs cs
       go_wp2
       go_returns
       rw [← HF.out]
       exact ⟨rets3 rfl (by have := HI.out; simp <;> omega) rfl, HB.out⟩
      ·have cs3 := beq_no cs
       clear hcs cs
       go_wp2
       go_returns
       rw [← HF.out]
       exact ⟨rets3 rfl (by have := HI.out; simp <;> omega) rfl, HB.out⟩
     ·have HF : Hid ((t * 128 + x % 128, 1 + (i - st), (0 : Int)) = G) := Lib.hid (by have := HR.out; rw [if_neg c2, if_neg c3] at this; simpa using this)
      clear HR
      have hb1 : 0 ≤ t * 128 + x % 128 := by omega
      have hb2 : t * 128 + x % 128 ≤ 268435455 := by omega
      generalize t * 128 + x % 128 = t2 at *
      by_cases cs : (i : Int) = (st : Int)
      ·have cs2 := hcs cs
       have cs3 := beq_yes cs
       clear hcs cs
       go_wp2
       go_returns
       rw [← HF.out]
       exact ⟨rets3 rfl (by have := HI.out; simp <;> omega) rfl, HB.out⟩
      ·have cs3 := beq_no cs
       clear hcs cs
       go_wp2
       go_returns
       rw [← HF.out]
       exact ⟨rets3 rfl (by have := HI.out; simp <;> omega) rfl, HB.out⟩
  ·have HF : Hid (((0 : Int), i - st, (2 : Int)) = G) := Lib.hid (by have := HR.out; rw [bl_drop_end b i (by omega)] at this; simpa [getG] using this)
   have HI := Lib.hid hi
   have HE : Hid (i = b.size) := Lib.hid (by omega)
   clear HR
   go_wp2
   go_returns
   rw [← HF.out]
   exact ⟨rets3 rfl (by have := HI.out; have := HE.out; simp <;> omega) rfl, HB.out⟩
set_option maxHeartbeats 1600000 in
set_option maxRecDepth 100000 in
theorem identGet_arg (b : ByteArray) (at_ : Int) (hb : b.size ≤ maxLen) (ha : at_ < 0 ∨ (b.size : Int) < at_) (w : World) :
  Calls Try.prog 42 #[.string b, .int .i64 at_] w fun e w' => e = .returned (.tuple #[hdV 0 0 false 0, .int .i64 0, .int .i64 1]) ∧ Below w.heap.size w w' := by
 have hb9 : (b.size : Int) ≤ 9223372036854775807 := by unfold maxLen at hb; omega
 have HR := Lib.hid (head_load (Row.new w 32 (hdC 0 0 false 0)))
 by_cases h1 : at_ < 0
 ·clear ha
  go_enter Try.func42, Try.ntmps42
  go_wp2
  exact bodyPost_ret (results_cell_two Try.results42 _ (ad := ⟨w.heap.size, 0, none⟩) rfl rfl rfl HR.out) rfl ⟨rfl, by go_grown⟩
 ·have h2 : (b.size : Int) < at_ := by omega
  clear ha
  go_enter Try.func42, Try.ntmps42
  go_wp2
  exact bodyPost_ret (results_cell_two Try.results42 _ (ad := ⟨w.heap.size, 0, none⟩) rfl rfl rfl HR.out) rfl ⟨rfl, by go_grown⟩
set_option maxHeartbeats 1600000 in
set_option maxRecDepth 100000 in
theorem identGet_any (b : ByteArray) (i : Nat) (hb : b.size ≤ maxLen) (hi : i ≤ b.size) (w : World) :
  Calls Try.prog 42 #[.string b, .int .i64 i] w fun e w' => e = .returned (idAns b i) ∧ Below w.heap.size w w' := by
 have hb9 : (b.size : Int) ≤ 9223372036854775807 := by unfold maxLen at hb; omega
 have HR := Lib.hid (head_load (Row.new w 32 (hdC 0 0 false 0)))
 by_cases h1 : i = b.size
 ·have HA := Lib.hid (idAns_eq (show idGet ((bl b).drop i) = (0, 0, false, 0, 2) by rw [bl_drop_end b i (by omega)]; rfl))
  have he : ((i : Int) == (b.size : Int)) = true := beq_yes (by omega)
  have hl : ¬ (b.size : Int) < (i : Int) := by omega
  clear h1 hi
  go_enter Try.func42, Try.ntmps42
  go_wp2
  exact bodyPost_ret (results_cell_two Try.results42 _ (ad := ⟨w.heap.size, 0, none⟩) rfl rfl rfl HR.out) rfl ⟨by rw [HA.out]; exact rets3 rfl (by simp) rfl, by go_grown⟩
 ·have hlt : i < b.size := by omega
  have he : ((i : Int) == (b.size : Int)) = false := beq_no (by omega)
  have hl : ¬ (b.size : Int) < (i : Int) := by omega
  have hl0 : ¬ (i : Int) < 0 := by omega
  have HD := Lib.hid (ext_at b i hlt)
  have hx0 := bt_nonneg b i
  have hx1 := bt_le b i
  have hbt := get_bt b i hlt
  generalize hx : bt b i = x at *
  have a31 := and8_31 x hx0 hx1
  have a32 := and8_32 x hx0 hx1
  clear hx hi h1
  by_cases ht : x % 32 = 31
  ·have htq : (x % 32 == 31) = true := beq_yes ht
   have HG := Lib.hid (getGroups_any b (i + 1) hb (by omega))
   rw [show ((i + 1 : Nat) : Int) = (i : Int) + 1 by omega] at HG
   generalize hr : (bl b).drop (i + 1) = r at *
   by_cases h0 : (getG true 0 r).2.2 = 0
   ·have HA := Lib.hid (idAns_eq ((congrArg idGet HD.out).trans (idGet_big ht h0)))
    rw [h0] at HG
    generalize getG true 0 r = q at *
    obtain ⟨q0, q1, q2⟩ := q
    simp only at HG HA
    clear h0 ht hr
    go_enter Try.func42, Try.ntmps42
    go_wp2_with fail
    refine (HG.out _).mono ?_
    rintro e w1 ⟨rfl, hb1⟩
    have HR1 := Lib.hid ((Row.new w 32 (hdC 0 0 false 0)).below hb1 (by simp))
    obtain ⟨k0, k1, k2, k3, f0, f1, f2, f3⟩ := head_facts HR1.out
    have HB1 := Lib.hid (((Below.refl w.heap.size w).alloc (Nat.le_refl _) _).trans (hb1.mono (by simp)))
    clear hb1
    go_wp2
    have HRf := Lib.hid ((((HR1.out.set 0 (.int .i64 (x / 64))).set 1 (.int .i64 q0)).set 2 (.bool (x / 32 % 2 * 32 != 0))).set 3 (.int .i64 0))
    exact bodyPost_ret (results_cell_two Try.results42 _ (ad := ⟨w.heap.size, 0, none⟩) rfl rfl rfl (head_load HRf.out)) rfl
     ⟨by rw [HA.out, bit_of x hx0 hx1]; exact rets3 rfl (by simp; omega) rfl, (((HB1.out.setCell (Nat.le_refl _) _).setCell (Nat.le_refl _) _).setCell (Nat.le_refl _) _).setCell (Nat.le_refl _) _⟩
   ·have HA := Lib.hid (idAns_eq ((congrArg idGet HD.out).trans (idGet_err ht h0)))
    generalize getG true 0 r = q at *
    obtain ⟨q0, q1, q2⟩ := q
    simp only at HG HA h0
    have hq : (q2 != 0) = true := by simpa using h0
    have hq2 : (q2 == 0) = false := by simpa using h0
    clear h0 ht hr
    go_enter Try.func42, Try.ntmps42
    go_wp2_with fail
    refine (HG.out _).mono ?_
    rintro e w1 ⟨rfl, hb1⟩
    have HR1 := Lib.hid ((Row.new w 32 (hdC 0 0 false 0)).below hb1 (by simp))
    obtain ⟨k0, k1, k2, k3, f0, f1, f2, f3⟩ := head_facts HR1.out
    have HB1 := Lib.hid (((Below.refl w.heap.size w).alloc (Nat.le_refl _) _).trans (hb1.mono (by simp)))
    clear hb1
    go_wp2
    have HRf := Lib.hid ((((HR1.out.set 0 (.int .i64 0)).set 1 (.int .i64 0)).set 2 (.bool false)).set 3 (.int .i64 0))
    exact bodyPost_ret (results_cell_two Try.results42 _ (ad := ⟨w.heap.size, 0, none⟩) rfl rfl rfl (head_load HRf.out)) rfl
     ⟨by rw [HA.out]; exact rets3 rfl (by simp; omega) rfl, (((HB1.out.setCell (Nat.le_refl _) _).setCell (Nat.le_refl _) _).setCell (Nat.le_refl _) _).setCell (Nat.le_refl _) _⟩
  ·have htq : (x % 32 == 31) = false := beq_no ht
   have HA := Lib.hid (idAns_eq ((congrArg idGet HD.out).trans (idGet_small ht)))
   clear ht
   go_enter Try.func42, Try.ntmps42
   go_wp2
   have HRf := Lib.hid (Row.new w 32 (hdC (x / 64) (x % 32) (x / 32 % 2 * 32 != 0) 0))
   exact bodyPost_ret (results_cell_two Try.results42 _ (ad := ⟨w.heap.size, 0, none⟩) rfl rfl rfl (head_load HRf.out)) rfl
    ⟨by rw [HA.out, bit_of x hx0 hx1]; exact rets3 rfl (by simp) rfl, by go_grown⟩
end Go.Proofs.Ytiiimhamfibdbaa
/- What the landed code gives for an identifier's bytes, in one form for all inputs. -/
namespace Go.Proofs.Ytiiimhamfibdbaa
open Go.RowKit Go.PlainAid
set_option linter.unusedVariables false
theorem identGet_all (b : ByteArray) (at_ : Int) (hb : b.size ≤ maxLen) (w : World) :
  Calls Try.prog 42 #[.string b, .int .i64 at_] w fun e w' => e = .returned (gV (gAt b at_)) ∧ Below w.heap.size w w' := by
 by_cases h : at_ < 0 ∨ (b.size : Int) < at_
 ·rw [gV_arg b at_ h]; exact identGet_arg b at_ hb h w
 ·obtain ⟨i, rfl⟩ := Int.eq_ofNat_of_zero_le (show 0 ≤ at_ by omega)
  rw [← gV_at b i (by omega)]; exact identGet_any b i hb (by omega) w
theorem identGet_is (b : ByteArray) (at_ : Int) (hb : b.size ≤ maxLen) {c t : Int} {k : Bool} {n e : Int} (h : gAt b at_ = (c, t, k, n, e)) (w : World) :
  Calls Try.prog 42 #[.string b, .int .i64 at_] w fun r w' => r = .returned (.tuple #[.agg #[.int .i64 c, .int .i64 t, .bool k, .int .i64 0], .int .i64 n, .int .i64 e]) ∧ Below w.heap.size w w' := by
 have := identGet_all b at_ hb w
 rw [h] at this
 exact this
end Go.Proofs.Ytiiimhamfibdbaa
/- What length's Get gives: the landed code's contract. Of every text and place that the form lets come. -/
namespace Go.Proofs.Ytiiimhamfibdbaa
open Go.RowKit Go.PlainAid
set_option linter.unusedVariables false
def vAt (b : ByteArray) (i j : Nat) : Int := val (((bl b).drop (i + 1)).take j) 0
theorem vAt_zero (b : ByteArray) (i : Nat) : vAt b i 0 = 0 := rfl
theorem vAt_succ (b : ByteArray) (i j : Nat) (h : i + 1 + j < b.size) : vAt b i (j + 1) = vAt b i j * 256 + bt b (i + 1 + j) := by
 have hl : j < ((bl b).drop (i + 1)).length := by rw [List.length_drop, bl_length]; omega
 unfold vAt
 rw [val_step _ j hl, List.getElem_drop, bl_get]
theorem vAt_nonneg (b : ByteArray) (i j : Nat) : 0 ≤ vAt b i j := val_nonneg _ 0 (((bl_isB b).drop _).take _) (by decide)
theorem vAt_lt (b : ByteArray) (i j : Nat) (h : j ≤ 7) : vAt b i j < 72057594037927936 := by
 have := val_lt (((bl b).drop (i + 1)).take j) 0 (((bl_isB b).drop _).take _)
 have h2 : (256 : Nat) ^ (((bl b).drop (i + 1)).take j).length ≤ 256 ^ 7 := Nat.pow_le_pow_right (by decide) (by rw [List.length_take]; omega)
 unfold vAt
 have h3 : (256 : Nat) ^ 7 = 72057594037927936 := by decide
 rw [h3] at h2
 simp only [Nat.zero_add, Nat.one_mul] at this
 have : val (List.take j (List.drop (i + 1) (bl b))) (0 : Nat) < 72057594037927936 := by omega
 exact this
theorem lenAt (b : ByteArray) (i k : Nat) (hi : i < b.size) (hk1 : 1 ≤ k) (hk8 : k ≤ 8) (hx : bt b i = 128 + (k : Int)) :
  lgAt b (i : Int) = if i + 1 < b.size ∧ (bt b (i + 1) = 0 ∨ (k = 1 ∧ bt b (i + 1) < 128)) then (0, (i : Int) + 1, 4)
   else if b.size - (i + 1) < k then (0, (b.size : Int), 2)
   else if 2305843009213693951 < vAt b i k then (0, (i : Int) + k, 4)
   else (vAt b i k, (i : Int) + k + 1, 0) := by
 have hD := bl_drop b i hi
 have hlen : ((bl b).drop (i + 1)).length = b.size - (i + 1) := by rw [List.length_drop, bl_length]
 have hh : i + 1 < b.size → ((bl b).drop (i + 1)).headD 0 = bt b (i + 1) := by intro h; rw [bl_drop b (i + 1) h]; rfl
 have e1 : (128 + (k : Int) - 128).toNat = k := by omega
 have hG := lenGet_cons (bt b i) ((bl b).drop (i + 1))
 rw [← hD, hx, if_neg (by omega), if_neg (by omega), hlen, e1] at hG
 by_cases c3 : i + 1 < b.size ∧ (bt b (i + 1) = 0 ∨ (k = 1 ∧ bt b (i + 1) < 128))
 ·rw [if_pos c3]
  rw [if_pos ⟨by omega, by rw [hh c3.1]; omega⟩] at hG
  rw [lgAt_in b i (by omega) hG]; rfl
 ·rw [if_neg c3]
  rw [if_neg (by rintro ⟨h1, h2⟩; rw [hh (by omega)] at h2; exact c3 ⟨by omega, by omega⟩)] at hG
  by_cases c4 : b.size - (i + 1) < k
  ·rw [if_pos c4]
   rw [if_pos (by omega)] at hG
   rw [lgAt_in b i (by omega) hG, show (i : Int) + ((1 + (b.size - (i + 1)) : Nat) : Int) = (b.size : Int) by omega]
  ·rw [if_neg c4]
   rw [if_neg (by omega)] at hG
   by_cases c5 : 2305843009213693951 < vAt b i k
   ·rw [if_pos c5]
    rw [if_pos (show 2305843009213693951 < val _ 0 from c5)] at hG
    rw [lgAt_in b i (by omega) hG]
   ·rw [if_neg c5]
    rw [if_neg (show ¬ 2305843009213693951 < val _ 0 from c5)] at hG
    rw [lgAt_in b i (by omega) hG, show (i : Int) + ((1 + k : Nat) : Int) = (i : Int) + k + 1 by omega]; rfl
set_option maxRecDepth 100000 in
set_option maxHeartbeats 1600000 in
theorem getNumber_any (b : ByteArray) (i k : Nat) (hi : i < b.size) (hb : b.size ≤ maxLen) (hk1 : 1 ≤ k) (hk8 : k ≤ 8) (hx : bt b i = 128 + (k : Int)) (w : World) :
  Calls Try.prog 58 #[.string b, .int .i64 ((i : Int) + 1), .int .i64 k] w fun e w' => e = .returned (.tuple #[.int .i64 (lgAt b i).1, .int .i64 (lgAt b i).2.1, .int .i64 (lgAt b i).2.2]) ∧ w' = w := by
 have hb9 : (b.size : Int) ≤ 9223372036854775807 := by unfold maxLen at hb; omega
 have HG := Lib.hid (lenAt b i k hi hk1 hk8 hx)
 have HV0 := Lib.hid (vAt_zero b i)
 have HVS := Lib.hid (vAt_succ b i)
 have HVN := Lib.hid (vAt_nonneg b i)
 have HVL := Lib.hid (vAt_lt b i)
 have HBT := Lib.hid (get_bt b)
 have HB0 := Lib.hid (bt_nonneg b)
 have HB1 := Lib.hid (bt_le b)
 generalize lgAt b (i : Int) = G at *
 generalize vAt b i = V at *
 clear hx hb
 go_enter Try.func58, Try.ntmps58
 go_wp2
 go_loopw [9, 13] (fun nv iv wr => ∃ (j : Nat), nv = .int .u64 (V j) ∧ iv = .int .i64 (j : Int) ∧ j ≤ k ∧ i + 1 + j ≤ b.size ∧ Hid (0 < j → ¬ (i + 1 < b.size ∧ (bt b (i + 1) = 0 ∨ (k = 1 ∧ bt b (i + 1) < 128)))) ∧ wr = w) (fun _ iv _ => ((k : Int) - intOf iv).toNat)
 case atStart => exact ⟨0, by rw [HV0.out], rfl, by omega, by omega, Lib.hid (by intro h; omega), rfl⟩
 case round =>
  obtain ⟨j, rfl, rfl, hj, hjs, HN, rfl⟩ := hrel
  have hn := HVN.out j
  by_cases hjk : j = k
  ·subst hjk
   rw [if_neg (HN.out (by omega)), if_neg (by omega)] at HG
   by_cases c5 : 2305843009213693951 < V j
   ·rw [if_pos c5] at HG
    clear HN HVS HV0 HBT HB0 HB1 hj
    go_wp2
    go_returns
    rw [HG.out]
    exact ⟨rets3 rfl (by simp <;> omega) rfl, rfl⟩
   ·rw [if_neg c5] at HG
    clear HN HVS HV0 HBT HB0 HB1 hj
    have c6 : V j ≤ 2305843009213693951 := by omega
    go_wp2
    go_returns
    rw [HG.out]
    exact ⟨rets3 rfl (by simp <;> omega) rfl, rfl⟩
  ·have hjk' : j < k := by omega
   by_cases hz : i + 1 + j = b.size
   ·have he : ((i : Int) + 1 + j == (b.size : Int)) = true := by simp; omega
    rw [if_neg, if_pos (by omega)] at HG
    rotate_left
    ·intro h
     by_cases h0 : 0 < j
     ·exact HN.out h0 h
     ·omega
    have HZ := Lib.hid hz
    clear HN HVS HV0 HBT HB0 HB1 hj hz hjk
    go_wp2
    go_returns
    rw [HG.out]
    exact ⟨rets3 rfl (by have := HZ.out; simp <;> omega) rfl, rfl⟩
   ·have he : ((i : Int) + 1 + j == (b.size : Int)) = false := by simp; omega
    have hlt : i + 1 + j < b.size := by omega
    have hbt := HBT.out (i + 1 + j) hlt
    have hv := HVS.out j hlt
    have hy0 := HB0.out (i + 1 + j)
    have hy1 := HB1.out (i + 1 + j)
    have hvl := HVL.out j (by omega)
    obtain ⟨y, hY⟩ : ∃ y, bt b (i + 1 + j) = y := ⟨_, rfl⟩
    rw [hY] at hbt hv hy0 hy1
    have HY := Lib.hid hY
    clear hY
    have HV := Lib.hid hv
    have HZ := Lib.hid hz
    have hor : bits .or .u64 (V j * 256) y = V j * 256 + y := or64_add (V j) y 8 hn hy0 (by omega) (by omega)
    by_cases h0 : j = 0
    ·subst h0
     have hY : bt b (i + 1) = y := HY.out
     rw [hY] at HG
     have hx : V 0 * 256 + y = y := by rw [HV0.out]; omega
     by_cases c1 : y = 0
     ·have ht : (V 0 * 256 + y == 0) = true := by rw [hx]; simpa using c1
      rw [if_pos ⟨by omega, .inl c1⟩] at HG
      clear hv hz hjk hj HV0 HVS HBT HB0 HB1 HN hjs hY HY c1 hx HV
      go_wp2
      go_returns
      rw [HG.out]
      exact ⟨rets3 rfl (by simp <;> omega) rfl, by trivial⟩
     ·have ht : (V 0 * 256 + y == 0) = false := by rw [hx]; simpa using c1
      by_cases c2 : k = 1
      ·have ck : ((k : Int) == 1) = true := by simp; omega
       by_cases c3 : y < 128
       ·have ht2 : V 0 * 256 + y < 128 := by omega
        rw [if_pos ⟨by omega, .inr ⟨c2, c3⟩⟩] at HG
        clear hv hz hjk hj HV0 HVS HBT HB0 HB1 HN hjs hY HY c1 hx HV c2 c3
        go_wp2
        go_returns
        rw [HG.out]
        exact ⟨rets3 rfl (by simp <;> omega) rfl, by trivial⟩
       ·have ht2 : ¬ V 0 * 256 + y < 128 := by omega
        have HN' : Hid (¬ (i + 1 < b.size ∧ (bt b (i + 1) = 0 ∨ (k = 1 ∧ bt b (i + 1) < 128)))) := Lib.hid (by rw [hY]; omega)
        clear hv hz hjk hj HV0 HVS HBT HB0 HB1 HN hjs hY HY c1 hx HG c2 c3
        go_wp2
        go_roundw
        case rel => exact ⟨1, by rw [HV.out], by simp, by omega, by have := HZ.out; omega, Lib.hid (fun _ => HN'.out), by trivial⟩
        case measure => simp [intOf] <;> omega
      ·have ck : ((k : Int) == 1) = false := by simp; omega
       have HN' : Hid (¬ (i + 1 < b.size ∧ (bt b (i + 1) = 0 ∨ (k = 1 ∧ bt b (i + 1) < 128)))) := Lib.hid (by rw [hY]; omega)
       clear hv hz hjk hj HV0 HVS HBT HB0 HB1 HN hjs hY HY c1 hx HG c2
       go_wp2
       go_roundw
       case rel => exact ⟨1, by rw [HV.out], by simp, by omega, by have := HZ.out; omega, Lib.hid (fun _ => HN'.out), by trivial⟩
       case measure => simp [intOf] <;> omega
    ·have hj0 : ((j : Int) == 0) = false := by simp; omega
     have HN' := Lib.hid (HN.out (by omega))
     clear hv hz hjk hj HV0 HVS HBT HB0 HB1 HN hjs HY HG
     go_wp2
     go_roundw
     case rel => exact ⟨j + 1, by rw [HV.out], by simp, by omega, by have := HZ.out; omega, Lib.hid (fun _ => HN'.out), by trivial⟩
     case measure => simp [intOf] <;> omega
set_option maxRecDepth 100000 in
set_option maxHeartbeats 1600000 in
theorem lenGet_any (b : ByteArray) (at_ : Int) (hb : b.size ≤ maxLen) (ha : -9223372036854775808 ≤ at_ ∧ at_ ≤ 9223372036854775807) (w : World) :
  Calls Try.prog 43 #[.string b, .int .i64 at_] w fun e w' => e = .returned (.tuple #[.int .i64 (lgAt b at_).1, .int .i64 (lgAt b at_).2.1, .int .i64 (lgAt b at_).2.2]) ∧ Below w.heap.size w w' := by
 have hb9 : (b.size : Int) ≤ 9223372036854775807 := by unfold maxLen at hb; omega
 by_cases ho : at_ < 0 ∨ (b.size : Int) < at_
 ·have HA := Lib.hid (lgAt_out b at_ ho)
  have hw : at_ < 0 ∨ (0 ≤ at_ ∧ (b.size : Int) < at_) := by omega
  clear ho
  rcases hw with h1 | ⟨h1, h2⟩
  all_goals
   go_enter Try.func43, Try.ntmps43
   go_wp2
   go_returns
   rw [HA.out]
   exact ⟨rfl, Below.refl _ _⟩
 ·obtain ⟨i, rfl⟩ := Int.eq_ofNat_of_zero_le (show 0 ≤ at_ by omega)
  have hi : i ≤ b.size := by omega
  have hl : ¬ (b.size : Int) < (i : Int) := by omega
  have hl0 : ¬ (i : Int) < 0 := by omega
  clear ho ha
  by_cases hz : i = b.size
  ·have HA := Lib.hid (lgAt_in b i hi (show lenGet ((bl b).drop i) = (0, 0, 2) by rw [bl_drop_end b i (by omega)]; rfl))
   have he : ((i : Int) == (b.size : Int)) = true := by simp; omega
   clear hz hi
   go_enter Try.func43, Try.ntmps43
   go_wp2
   go_returns
   rw [HA.out]
   exact ⟨rets3 rfl (by simp) rfl, Below.refl _ _⟩
  ·have hlt : i < b.size := by omega
   have he : ((i : Int) == (b.size : Int)) = false := by simp; omega
   have hD := bl_drop b i hlt
   have hx0 := bt_nonneg b i
   have hx1 := bt_le b i
   have hbt := get_bt b i hlt
   obtain ⟨x, hx⟩ : ∃ x, bt b i = x := ⟨_, rfl⟩
   rw [hx] at hD hx0 hx1 hbt
   by_cases c1 : x < 128
   ·have HA := Lib.hid (lgAt_in b i (by omega) (show lenGet ((bl b).drop i) = (x, 1, 0) by rw [hD, lenGet_cons, if_pos c1]))
    clear hD hx hi hz
    go_enter Try.func43, Try.ntmps43
    go_wp2
    go_returns
    rw [HA.out]
    exact ⟨rets3 rfl (by simp) rfl, Below.refl _ _⟩
   ·by_cases c2 : x = 128 ∨ 136 < x
    ·have HA := Lib.hid (lgAt_in b i (by omega) (show lenGet ((bl b).drop i) = (0, 0, 4) by rw [hD, lenGet_cons, if_neg c1, if_pos c2]))
     clear hD hx hi hz
     by_cases c20 : x = 128
     ·subst c20
      clear c2
      go_enter Try.func43, Try.ntmps43
      go_wp2
      go_returns
      rw [HA.out]
      exact ⟨rets3 rfl (by simp) rfl, Below.refl _ _⟩
     ·have c21 : 136 < x := by omega
      have c22 : (x == 128) = false := by simpa using c20
      clear c2 c20
      go_enter Try.func43, Try.ntmps43
      go_wp2
      go_returns
      rw [HA.out]
      exact ⟨rets3 rfl (by simp) rfl, Below.refl _ _⟩
    ·have c22 : (x == 128) = false := by simp; omega
     have c23 : ¬ 136 < x := by omega
     obtain ⟨k, hk⟩ : ∃ k : Nat, x = 128 + (k : Int) := ⟨(x - 128).toNat, by omega⟩
     have HN := Lib.hid (getNumber_any b i k hlt hb (by omega) (by omega) (by omega))
     have ek : x - 128 = (k : Int) := by omega
     have hk8 : k ≤ 8 := by omega
     generalize lgAt b (i : Int) = G at *
     clear hD hx hi hz c2 hk hb
     go_enter Try.func43, Try.ntmps43
     go_wp2_with fail
     refine (HN.out _).mono ?_
     rintro e w1 ⟨rfl, rfl⟩
     go_wp2
     go_returns
     exact ⟨rfl, Below.refl _ _⟩
end Go.Proofs.Ytiiimhamfibdbaa
/- What the landed code's Get of heads gives. -/
namespace Go.Proofs.Ytiiimhamfibdbaa
open Go.RowKit Go.PlainAid
set_option linter.unusedVariables false
theorem lenGet_at (b : ByteArray) (at_ : Int) (hb : b.size ≤ maxLen) (ha : -9223372036854775808 ≤ at_ ∧ at_ ≤ 9223372036854775807) {v n e : Int} (h : lgAt b at_ = (v, n, e)) (w : World) :
  Calls Try.prog 43 #[.string b, .int .i64 at_] w fun r w' => r = .returned (.tuple #[.int .i64 v, .int .i64 n, .int .i64 e]) ∧ Below w.heap.size w w' := by
 have := lenGet_any b at_ hb ha w
 rw [h] at this
 exact this
set_option maxHeartbeats 1600000 in
set_option maxRecDepth 100000 in
theorem headGet_any (b : ByteArray) (at_ : Int) (hb : b.size ≤ maxLen) (ha : -9223372036854775808 ≤ at_ ∧ at_ ≤ 9223372036854775807) (w : World) :
  Calls Try.prog 36 #[.string b, .int .i64 at_] w fun e w' => e = .returned (hgV (hgAt b at_)) ∧ Below w.heap.size w w' := by
 have h9 := hb9_of hb
 have HZ := Lib.hid (Row.new w 32 (hdC 0 0 false 0))
 have hB0 : Below w.heap.size w (w.alloc (.cells (hdC 0 0 false 0).toArray 32)) := (Below.refl _ _).alloc (Nat.le_refl _) _
 rcases hgAt_cases b at_ ha hb with ⟨n, e, hg, he, hr⟩ | ⟨c, t, k, n, m, e, hg, n0, n1, hl, he, hr⟩ | ⟨c, t, k, n, v, m, hg, n0, n1, hl, hr⟩
 ·have H0 := Lib.hid (identGet_is b at_ hb hg)
  have HA := Lib.hid (show hgV (hgAt b at_) = .tuple #[hdV 0 0 false 0, .int .i64 n, .int .i64 e] by rw [hr]; rfl)
  have heq : (e != 0) = true := by simpa using he
  clear hg he hr
  go_enter Try.func36, Try.ntmps36
  go_wp2_with fail
  refine (H0.out _).mono ?_
  rintro e w1 ⟨rfl, hb⟩
  have hB1 := hB0.trans (hb.mono (by simp))
  have HZ1 := Lib.hid (HZ.out.below hb HZ.out.lt)
  obtain ⟨k0, k1, k2, k3, f0, f1, f2, f3⟩ := head_facts HZ1.out
  have hlt := HZ1.out.lt
  clear hb hB0 HZ
  go_wp2
  exact bodyPost_ret (results_cell_two Try.results36 _ (ad := ⟨w.heap.size, 0, none⟩) rfl rfl rfl (head_load ((head_set HZ1.out 0 0 false 0).alloc _))) rfl ⟨by rw [HA.out]; rfl, (head_below hB1 (Nat.le_refl _) 0 0 false 0).alloc (by rw [size_set4]; exact hB1.size) _⟩
 ·have H0 := Lib.hid (identGet_is b at_ hb hg)
  have H1 := Lib.hid (fun w => lenGet_at b n hb ⟨by omega, by omega⟩ hl w)
  have HA := Lib.hid (show hgV (hgAt b at_) = .tuple #[hdV 0 0 false 0, .int .i64 m, .int .i64 e] by rw [hr]; rfl)
  have heq : (e != 0) = true := by simpa using he
  clear hg he hr hl
  go_enter Try.func36, Try.ntmps36
  go_wp2_with fail
  refine (H0.out _).mono ?_
  rintro e w1 ⟨rfl, hb⟩
  have hB1 := hB0.trans (hb.mono (by simp))
  have hs1 : w.heap.size + 1 ≤ w1.heap.size := by have := hb.size; simpa using this
  have HZ1 := Lib.hid ((HZ.out.below hb HZ.out.lt).alloc (.cells (hdC c t k 0).toArray 32))
  have HY1 := Lib.hid (Row.new w1 32 (hdC c t k 0))
  have hB1 := hB1.alloc hB1.size (.cells (hdC c t k 0).toArray 32)
  clear hb hB0 HZ
  go_wp2_with fail
  refine (H1.out _).mono ?_
  rintro e w2 ⟨rfl, hb⟩
  have hB2 := hB1.trans (hb.mono hB1.size)
  have HZ2 := Lib.hid (HZ1.out.below hb HZ1.out.lt)
  have HY2 := Lib.hid (HY1.out.below hb HY1.out.lt)
  obtain ⟨k0, k1, k2, k3, f0, f1, f2, f3⟩ := head_facts HZ2.out
  obtain ⟨j0, j1, j2, j3, q0, q1, q2, q3⟩ := head_facts HY2.out
  have hB1s : w.heap.size ≤ w1.heap.size := by omega
  have hne : ¬ w.heap.size = w1.heap.size := by omega
  have hne2 : ¬ w1.heap.size = w.heap.size := by omega
  clear hb hB1 HZ1 HY1
  go_wp2
  exact bodyPost_ret (results_cell_two Try.results36 _ (ad := ⟨w.heap.size, 0, none⟩) rfl rfl rfl (head_load (head_set (HZ2.out.far (p := ⟨w1.heap.size, 3, none⟩) hne (.int .i64 0)) 0 0 false 0))) rfl ⟨by rw [HA.out]; rfl, head_below (hB2.setCell (p := ⟨w1.heap.size, 3, none⟩) hB1s (.int .i64 0)) (Nat.le_refl _) 0 0 false 0⟩
 ·have H0 := Lib.hid (identGet_is b at_ hb hg)
  have H1 := Lib.hid (fun w => lenGet_at b n hb ⟨by omega, by omega⟩ hl w)
  have HA := Lib.hid (show hgV (hgAt b at_) = .tuple #[hdV c t k v, .int .i64 m, .int .i64 0] by rw [hr]; rfl)
  clear hg hr hl
  go_enter Try.func36, Try.ntmps36
  go_wp2_with fail
  refine (H0.out _).mono ?_
  rintro e w1 ⟨rfl, hb⟩
  have hB1 := hB0.trans (hb.mono (by simp))
  have hs1 : w.heap.size + 1 ≤ w1.heap.size := by have := hb.size; simpa using this
  have HZ1 := Lib.hid ((HZ.out.below hb HZ.out.lt).alloc (.cells (hdC c t k 0).toArray 32))
  have HY1 := Lib.hid (Row.new w1 32 (hdC c t k 0))
  have hB1 := hB1.alloc hB1.size (.cells (hdC c t k 0).toArray 32)
  clear hb hB0 HZ
  go_wp2_with fail
  refine (H1.out _).mono ?_
  rintro e w2 ⟨rfl, hb⟩
  have hB2 := hB1.trans (hb.mono hB1.size)
  have HZ2 := Lib.hid (HZ1.out.below hb HZ1.out.lt)
  have HY2 := Lib.hid (HY1.out.below hb HY1.out.lt)
  obtain ⟨k0, k1, k2, k3, f0, f1, f2, f3⟩ := head_facts HZ2.out
  obtain ⟨j0, j1, j2, j3, q0, q1, q2, q3⟩ := head_facts HY2.out
  have hB1s : w.heap.size ≤ w1.heap.size := by omega
  have hne : ¬ w.heap.size = w1.heap.size := by omega
  have hne2 : ¬ w1.heap.size = w.heap.size := by omega
  clear hb hB1 HZ1 HY1
  go_wp2
  exact bodyPost_ret (results_cell_two Try.results36 _ (ad := ⟨w.heap.size, 0, none⟩) rfl rfl rfl (head_load (head_set (HZ2.out.far (p := ⟨w1.heap.size, 3, none⟩) hne (.int .i64 v)) c t k v))) rfl ⟨by rw [HA.out]; rfl, head_below (hB2.setCell (p := ⟨w1.heap.size, 3, none⟩) hB1s (.int .i64 v)) (Nat.le_refl _) c t k v⟩
theorem str_join (l : List Int) (b : Int) : strOfNums l ++ strOfNums [b] = strOfNums (l ++ [b]) := (strOfNums_append l [b]).symm
theorem came_get {l : List Int} {b : Int} (hl : IsB l) (h0 : 0 ≤ b) (h1 : b ≤ 255) {c t : Int} {k : Bool} {v : Int} {n : Nat} {e : Int} (h : hdGet (l ++ [b]) = (c, t, k, v, n, e)) : hgAt (strOfNums (l ++ [b])) 0 = (c, t, k, v, (n : Int), e) := by
 have := hgAt_in (strOfNums (l ++ [b])) 0 (Nat.zero_le _) (c := c) (t := t) (k := k) (v := v) (n := n) (e := e) (by rw [bl_str (hl.append (IsB.cons h0 h1 IsB.nil)), List.drop_zero]; exact h)
 simpa using this
theorem headGet_at (b : ByteArray) (at_ : Int) (hb : b.size ≤ maxLen) (ha : -9223372036854775808 ≤ at_ ∧ at_ ≤ 9223372036854775807) {c t : Int} {k : Bool} {v n e : Int} (h : hgAt b at_ = (c, t, k, v, n, e)) (w : World) :
  Calls Try.prog 36 #[.string b, .int .i64 at_] w fun r w' => r = .returned (.tuple #[.agg #[.int .i64 c, .int .i64 t, .bool k, .int .i64 v], .int .i64 n, .int .i64 e]) ∧ Below w.heap.size w w' := by
 have := headGet_any b at_ hb ha w
 rw [h] at this
 exact this
end Go.Proofs.Ytiiimhamfibdbaa
