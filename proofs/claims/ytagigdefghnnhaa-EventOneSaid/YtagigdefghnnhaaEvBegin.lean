/- What the landed code's machine does with a whole head: an element begins. -/
import Derived.Test.YtagigdefghnnhaaEvCells
import Derived.Deep.RegionWith
import Derived.StillTailTactics
import Derived.Deep.QuietTactic
import Derived.BigQuiet
namespace Go.Proofs.Ytagigdefghnnhaa
open Go.RowKit Go.PlainAid
set_option linter.unusedVariables false
theorem pay_is (l : List Int) (n : Int) : pay l n = pays l n := by cases l <;> rfl
theorem enterE_is {s : SS} (h : s.ok) {n : Int} (hn : 0 ≤ n) : s.enterE n = headE s.most s.st true n := by
  obtain ⟨most, st⟩ := s
  unfold SS.enterE headE SS.last
  cases st with
  | nil =>
    simp only
    rw [if_neg (by omega), if_neg (by omega)]
    simp
  | cons y r =>
    have hy := h.bd y (List.mem_cons_self ..)
    simp only
    rw [if_neg (by omega)]
    by_cases c : y < n
    · rw [if_pos ⟨hy.1, c⟩, if_pos c]
    · rw [if_neg (by omega), if_neg c]
      simp
theorem enter_is {s : SS} (h : s.ok) {n : Int} (hn : 0 ≤ n) : s.enter n = if headE s.most s.st true n = 0 then ⟨s.most, n :: pays s.st n⟩ else s := by
  unfold SS.enter
  rw [enterE_is h hn, pay_is]
/-- What a head's last byte brings about, but for the ends of constructed elements. -/
def bgL (x : CM) (c t : Int) (f : Bool) (n : Int) : List Ev :=
  if headE x.s.most x.s.st f n ≠ 0 then []
  else if f = true then [evEnter x.p c t f n]
  else if n = 0 then [evLeaf x.p c t f n, evEnd x.p]
  else [evLeaf x.p c t f n]
def bgX (x : CM) (f : Bool) (n : Int) : CM :=
  if headE x.s.most x.s.st f n ≠ 0 then x
  else if f = true then { x with s := ⟨x.s.most, n :: pays x.s.st n⟩ }
  else { x with n := n }
theorem Evs.at {w : World} {base base' : Nat} {v : Value} {l : List Ev} (h : Evs w base v l) (hb : base' ≤ base) : Evs w base' v l := h.mono hb
set_option maxHeartbeats 4000000 in
theorem begin_cons {w : World} {k ks base : Nat} {x : CM} (hM : MR w k ks x) (hk : k < base) (hs : ks < base) (hb : base ≤ w.heap.size) (c t n : Int) (hn : 0 ≤ n ∧ n ≤ 9223372036854775807) :
    Calls Try.prog 45 #[.pointer (some ⟨k, 0, none⟩), .agg #[.int .i64 c, .int .i64 t, .bool true, .int .i64 n]] w fun e w' => ∃ v, e = .returned (.tuple #[v, .int .i64 (headE x.s.most x.s.st true n)]) ∧ Evs w' base v (bgL x c t true n) ∧ MR w' k ks (bgX x true n) ∧ Chg (FB base k ks) w w' := by
  have hok := hM.st.2.1
  have HE := Lib.hid (enterE_is hok hn.1)
  have HN := Lib.hid (enter_is hok hn.1)
  have hB0 : Below w.heap.size w (w.alloc (.cells (hdC c t true n).toArray 40)) := (Below.refl _ _).alloc (Nat.le_refl _) _
  have HH := Lib.hid (Row.new w 40 (hdC c t true n))
  have HM := Lib.hid (hM.below hB0)
  have HC := Lib.hid (chg_below (base := base) (k := k) (ks := ks) hB0)
  have hW : w.heap.size + 1 = (w.alloc (.cells (hdC c t true n).toArray 40)).heap.size := by simp
  clear hM hok
  go_enter Try.func45, Try.ntmps45
  go_upto_region 1 with fail
  have hX : w.alloc (.cells #[.int .i64 c, .int .i64 t, .bool true, .int .i64 n] 40) = w.alloc (.cells (hdC c t true n).toArray 40) := rfl
  rw [hX]
  clear hX hB0
  generalize w.alloc (.cells (hdC c t true n).toArray 40) = W at *
  generalize hhe : w.heap.size = hh at *
  obtain ⟨k0, k1, k2, k3, f0, f1, f2, f3⟩ := head_facts HH.out
  obtain ⟨q0, q1, q2, q3, q4, q5⟩ := mrow_facts HM.out.row
  have hlt := HM.out.lt
  have HEn := Lib.hid (enter_code n (HM.out.st.draws 1) ⟨by omega, hn.2⟩)
  rw [HE.out] at HEn
  rw [HN.out] at HEn
  have HMd := Lib.hid (HM.out.below (draws_below W 1))
  have HHd := Lib.hid (Row.below HH.out (draws_below W 1) HH.out.lt)
  have HCd := Lib.hid (chg_then HC.out (chg_below (draws_below W 1)))
  have hWd : (W.drewN 1).heap.size = W.heap.size := rfl
  clear HE HN HM HC HH
  go_wp2
  go_still_tail 6, (by kernel_rfl)
  change wpList _ _ _ _ _ (W.drewN 1)
  clear k0 k1 k2 k3 f0 f1 f2 f3 q0 q1 q2 q3 q4 q5
  generalize W.drewN 1 = X at *
  go_wp2_with fail
  refine HEn.out.mono ?_
  rintro e w1 ⟨rfl, hs1, hc1⟩
  have HH1 := Lib.hid (Row.chg HHd.out hc1 (by omega))
  have HM1 := Lib.hid (HMd.out.stack hs1 hc1)
  have HC1 := Lib.hid (chg_then HCd.out (chg_stack hc1))
  have hz1 : hh ≤ w1.heap.size := by have := hc1.size; omega
  clear hs1 hc1 HEn HHd HMd HCd
  by_cases he : headE x.s.most x.s.st true n = 0
  · rw [if_pos he] at HM1
    have HL : Hid (bgL x c t true n = [evEnter x.p c t true n]) := Lib.hid (by unfold bgL; rw [if_neg (fun h => h he), if_pos rfl])
    have HX : Hid (bgX x true n = { x with s := ⟨x.s.most, n :: pays x.s.st n⟩ }) := Lib.hid (by unfold bgX; rw [if_neg (fun h => h he), if_pos rfl])
    have hne : (headE x.s.most x.s.st true n != 0) = false := by simpa using he
    have HE0 := Lib.hid he
    clear he
    obtain ⟨k0, k1, k2, k3, f0, f1, f2, f3⟩ := head_facts HH1.out
    have HV := Lib.hid (eventOf_any 1 c t true n HM1.out)
    go_wp2_with fail
    refine HV.out.mono ?_
    rintro e w2 ⟨rfl, hb2⟩
    have HM2 := Lib.hid (HM1.out.below hb2)
    have HC2 := Lib.hid (chg_then HC1.out (chg_below hb2))
    have hz2 : hh ≤ w2.heap.size := Nat.le_trans hz1 hb2.size
    clear hb2 HM1 HC1 HV k0 k1 k2 k3 f0 f1 f2 f3 HH1
    go_wp2
    go_returns
    rw [HL.out, HX.out, HE0.out]
    exact ⟨_, rfl, (evs_one w2 (evEnter x.p c t true n)).mono (by omega), HM2.out.below ((Below.refl _ _).alloc (Nat.le_refl _) _), chg_then HC2.out (chg_alloc _ _ _ _)⟩
  · rw [if_neg he] at HM1
    have HL : Hid (bgL x c t true n = []) := Lib.hid (by unfold bgL; rw [if_pos he])
    have HX : Hid (bgX x true n = x) := Lib.hid (by unfold bgX; rw [if_pos he])
    have hne : (headE x.s.most x.s.st true n != 0) = true := by simpa using he
    go_wp2
    go_returns
    rw [HL.out, HX.out]
    exact ⟨_, rfl, Evs.nil _ _, HM1.out, HC1.out⟩
/-- How many are open, and what the innermost one has left. -/
theorem headE_leaf (most : Nat) (st : List Int) (n : Int) : headE most st false n = match st with | [] => 0 | y :: _ => if y < n then 5 else 0 := by
  unfold headE
  cases st with
  | nil => simp
  | cons y r => by_cases h : y < n <;> simp [h]
set_option maxHeartbeats 4000000 in
theorem begin_leaf {w : World} {k ks base : Nat} {x : CM} (hM : MR w k ks x) (hk : k < base) (hs : ks < base) (hb : base ≤ w.heap.size) (c t n : Int) (hn : 0 ≤ n ∧ n ≤ 9223372036854775807) :
    Calls Try.prog 45 #[.pointer (some ⟨k, 0, none⟩), .agg #[.int .i64 c, .int .i64 t, .bool false, .int .i64 n]] w fun e w' => ∃ v, e = .returned (.tuple #[v, .int .i64 (headE x.s.most x.s.st false n)]) ∧ Evs w' base v (bgL x c t false n) ∧ MR w' k ks (bgX x false n) ∧ Chg (FB base k ks) w w' := by
  have hB0 : Below w.heap.size w (w.alloc (.cells (hdC c t false n).toArray 40)) := (Below.refl _ _).alloc (Nat.le_refl _) _
  have HH := Lib.hid (Row.new w 40 (hdC c t false n))
  have HM := Lib.hid (hM.below hB0)
  have HC := Lib.hid (chg_below (base := base) (k := k) (ks := ks) hB0)
  have hW : w.heap.size + 1 = (w.alloc (.cells (hdC c t false n).toArray 40)).heap.size := by simp
  have hok := hM.st.2.1
  have HE := Lib.hid (headE_leaf x.s.most x.s.st n)
  clear hM
  go_enter Try.func45, Try.ntmps45
  go_upto_region 1 with fail
  have hX : w.alloc (.cells #[.int .i64 c, .int .i64 t, .bool false, .int .i64 n] 40) = w.alloc (.cells (hdC c t false n).toArray 40) := rfl
  rw [hX]
  clear hX hB0
  generalize w.alloc (.cells (hdC c t false n).toArray 40) = W at *
  generalize hhe : w.heap.size = hh at *
  obtain ⟨k0, k1, k2, k3, f0, f1, f2, f3⟩ := head_facts HH.out
  obtain ⟨q0, q1, q2, q3, q4, q5⟩ := mrow_facts HM.out.row
  have hlt := HM.out.lt
  have HD : Hid (∀ a, Calls Try.prog 42 #[.pointer (some ⟨ks, 0, none⟩)] (W.drewN a) fun e w' => e = .returned (.int .i64 x.s.depth) ∧ ∃ m, w' = (W.drewN a).drewN m) := Lib.hid (fun a => stSpec.depth (HM.out.st.draws a))
  have HF : Hid (∀ a, Calls Try.prog 48 #[.pointer (some ⟨ks, 0, none⟩)] (W.drewN a) fun e w' => e = .returned (.int .i64 x.s.last) ∧ ∃ m, w' = (W.drewN a).drewN m) := Lib.hid (fun a => stSpec.left (HM.out.st.draws a))
  have HMq := Lib.hid (fun a => HM.out.below (draws_below W a))
  have HHq := Lib.hid (fun a => Row.below HH.out (draws_below W a) HH.out.lt)
  have HCq := Lib.hid (fun a => chg_then HC.out (chg_below (draws_below W a)))
  by_cases hz0 : headE x.s.most x.s.st false n = 0
  · have HL : Hid (bgL x c t false n = if 0 < n then [evLeaf x.p c t false n] else [evLeaf x.p c t false n] ++ [evEnd x.p]) := Lib.hid (by
      unfold bgL
      rw [if_neg (fun h => h hz0), if_neg (by simp)]
      by_cases h0 : n = 0
      · rw [if_pos h0, if_neg (by omega)]; rfl
      · rw [if_neg h0, if_pos (by omega)])
    have HX : Hid (bgX x false n = { x with n := n }) := Lib.hid (by unfold bgX; rw [if_neg (fun h => h hz0), if_neg (by simp)])
    have HZ := Lib.hid hz0
    rw [HE.out] at hz0
    cases hst : x.s.st with
    | nil =>
      rw [show x.s.depth = 0 by unfold SS.depth; rw [hst]; rfl] at HD
      clear HE hst HF hz0
      go_wp2
      go_quiet (first | exact Calls.quiet_of (HD.out _) | fail)
      obtain ⟨k0, k1, k2, k3, f0, f1, f2, f3⟩ := head_facts (HHq.out nq)
      obtain ⟨q0, q1, q2, q3, q4, q5⟩ := mrow_facts (HMq.out nq).row
      have g2 := (HMq.out nq).row.frozen 2
      have hlt := (HMq.out nq).lt
      have HM1 := Lib.hid ((HMq.out nq).set_n n)
      have HC1 := Lib.hid (chg_then (HCq.out nq) (chg_setk (W.drewN nq) 2 (.int .i64 n) base ks))
      have HH1 := Lib.hid (Row.chg (HHq.out nq) (chg_setk1 (W.drewN nq) k 2 (.int .i64 n)) (by omega))
      have hz : (W.drewN nq).heap.size = hh + 1 := by rw [hW]; rfl
      clear HMq HCq HHq HM HC HH
      generalize W.drewN nq = X at *
      have hzX : hh ≤ (X.setCell ⟨k, 2, none⟩ (.int .i64 n)).heap.size := by simp; omega
      go_upto_region 9 with fail
      clear k0 k1 k2 k3 f0 f1 f2 f3 q0 q1 q2 q3 q4 q5 g2 hlt
      generalize X.setCell ⟨k, 2, none⟩ (.int .i64 n) = Y at *
      obtain ⟨k0, k1, k2, k3, f0, f1, f2, f3⟩ := head_facts HH1.out
      have HV := Lib.hid (eventOf_any 2 c t false n HM1.out)
      go_wp2_with fail
      refine HV.out.mono ?_
      rintro e w2 ⟨rfl, hb2⟩
      have HM2 := Lib.hid ((HM1.out.below hb2).below ((Below.refl _ _).alloc (Nat.le_refl _) (evO (evLeaf x.p c t false n))))
      have HC2 := Lib.hid (chg_then (chg_then HC1.out (chg_below hb2)) (chg_alloc (evO (evLeaf x.p c t false n)) base k ks))
      have hz2 : hh ≤ w2.heap.size := Nat.le_trans hzX hb2.size
      have HE2 := Lib.hid ((evs_one w2 (evLeaf x.p c t false n)).mono (base' := base) (by omega))
      have hX2 : w2.alloc (.cells #[.int .i64 2, .int .i64 (x.p : Int), .int .i64 c, .int .i64 t, .bool false, .int .i64 n, .int .u8 0] 42) = w2.alloc (evO (evLeaf x.p c t false n)) := rfl
      have hz3 : base ≤ (w2.alloc (evO (evLeaf x.p c t false n))).heap.size := by simp; omega
      have hz4 : (w2.alloc (evO (evLeaf x.p c t false n))).heap.size = w2.heap.size + 1 := by simp
      clear hb2 HM1 HC1 HV k0 k1 k2 k3 f0 f1 f2 f3 HH1
      go_wp2_with fail
      clear hX2
      generalize w2.alloc (evO (evLeaf x.p c t false n)) = Z at *
      refine (endLeaf_any HM2.out hk HE2.out hz3 (by simp)).mono ?_
      rintro e w3 ⟨v3, rfl, he3, hb3⟩
      have he3 : Evs w3 base v3 (bgL x c t false n) := by rw [HL.out]; exact he3
      obtain ⟨o3, c3, rfl⟩ := he3.isSl
      have HE3 := Lib.hid he3
      have HM3 := Lib.hid (HM2.out.above hb3 hk hs)
      have HC3 := Lib.hid (chg_then HC2.out (chg_base hb3 hz3))
      clear he3 hb3 HM2 HE2 HC2
      go_wp2
      go_returns
      rw [HZ.out, HX.out]
      exact ⟨_, rfl, HE3.out, HM3.out, HC3.out⟩
    | cons y r =>
      obtain ⟨d, hd⟩ : ∃ d : Nat, x.s.depth = (d : Int) + 1 := ⟨r.length, by unfold SS.depth; rw [hst]; simp⟩
      have hl : x.s.last = y := by unfold SS.last; rw [hst]
      have hgd : decide (0 < (d : Int) + 1) = true := decide_eq_true (by omega)
      rw [hd] at HD
      rw [hl] at HF
      rw [hst] at hz0
      simp only at hz0
      have hy : ¬ y < n := fun h => by rw [if_pos h] at hz0; cases hz0
      clear hd hl hz0 HE hst
      go_wp2
      go_quiet (first | exact Calls.quiet_of (HD.out _) | exact Calls.quiet_of (HF.out _) | fail)
      obtain ⟨k0, k1, k2, k3, f0, f1, f2, f3⟩ := head_facts (HHq.out nq)
      obtain ⟨q0, q1, q2, q3, q4, q5⟩ := mrow_facts (HMq.out nq).row
      have g2 := (HMq.out nq).row.frozen 2
      have hlt := (HMq.out nq).lt
      have HM1 := Lib.hid ((HMq.out nq).set_n n)
      have HC1 := Lib.hid (chg_then (HCq.out nq) (chg_setk (W.drewN nq) 2 (.int .i64 n) base ks))
      have HH1 := Lib.hid (Row.chg (HHq.out nq) (chg_setk1 (W.drewN nq) k 2 (.int .i64 n)) (by omega))
      have hz : (W.drewN nq).heap.size = hh + 1 := by rw [hW]; rfl
      clear HMq HCq HHq HM HC HH
      generalize W.drewN nq = X at *
      have hzX : hh ≤ (X.setCell ⟨k, 2, none⟩ (.int .i64 n)).heap.size := by simp; omega
      go_upto_region 9 with fail
      clear k0 k1 k2 k3 f0 f1 f2 f3 q0 q1 q2 q3 q4 q5 g2 hlt
      generalize X.setCell ⟨k, 2, none⟩ (.int .i64 n) = Y at *
      obtain ⟨k0, k1, k2, k3, f0, f1, f2, f3⟩ := head_facts HH1.out
      have HV := Lib.hid (eventOf_any 2 c t false n HM1.out)
      go_wp2_with fail
      refine HV.out.mono ?_
      rintro e w2 ⟨rfl, hb2⟩
      have HM2 := Lib.hid ((HM1.out.below hb2).below ((Below.refl _ _).alloc (Nat.le_refl _) (evO (evLeaf x.p c t false n))))
      have HC2 := Lib.hid (chg_then (chg_then HC1.out (chg_below hb2)) (chg_alloc (evO (evLeaf x.p c t false n)) base k ks))
      have hz2 : hh ≤ w2.heap.size := Nat.le_trans hzX hb2.size
      have HE2 := Lib.hid ((evs_one w2 (evLeaf x.p c t false n)).mono (base' := base) (by omega))
      have hX2 : w2.alloc (.cells #[.int .i64 2, .int .i64 (x.p : Int), .int .i64 c, .int .i64 t, .bool false, .int .i64 n, .int .u8 0] 42) = w2.alloc (evO (evLeaf x.p c t false n)) := rfl
      have hz3 : base ≤ (w2.alloc (evO (evLeaf x.p c t false n))).heap.size := by simp; omega
      have hz4 : (w2.alloc (evO (evLeaf x.p c t false n))).heap.size = w2.heap.size + 1 := by simp
      clear hb2 HM1 HC1 HV k0 k1 k2 k3 f0 f1 f2 f3 HH1
      go_wp2_with fail
      clear hX2
      generalize w2.alloc (evO (evLeaf x.p c t false n)) = Z at *
      refine (endLeaf_any HM2.out hk HE2.out hz3 (by simp)).mono ?_
      rintro e w3 ⟨v3, rfl, he3, hb3⟩
      have he3 : Evs w3 base v3 (bgL x c t false n) := by rw [HL.out]; exact he3
      obtain ⟨o3, c3, rfl⟩ := he3.isSl
      have HE3 := Lib.hid he3
      have HM3 := Lib.hid (HM2.out.above hb3 hk hs)
      have HC3 := Lib.hid (chg_then HC2.out (chg_base hb3 hz3))
      clear he3 hb3 HM2 HE2 HC2
      go_wp2
      go_returns
      rw [HZ.out, HX.out]
      exact ⟨_, rfl, HE3.out, HM3.out, HC3.out⟩
  · have HL : Hid (bgL x c t false n = []) := Lib.hid (by unfold bgL; rw [if_pos hz0])
    have HX : Hid (bgX x false n = x) := Lib.hid (by unfold bgX; rw [if_pos hz0])
    rw [HE.out] at hz0
    cases hst : x.s.st with
    | nil => rw [hst] at hz0; exact absurd rfl hz0
    | cons y r =>
      obtain ⟨d, hd⟩ : ∃ d : Nat, x.s.depth = (d : Int) + 1 := ⟨r.length, by unfold SS.depth; rw [hst]; simp⟩
      have hl : x.s.last = y := by unfold SS.last; rw [hst]
      have hgd : decide (0 < (d : Int) + 1) = true := decide_eq_true (by omega)
      rw [hd] at HD
      rw [hl] at HF
      rw [hst] at hz0
      simp only at hz0
      have hy : y < n := by
        by_cases h : y < n
        · exact h
        · rw [if_neg h] at hz0; exact absurd rfl hz0
      have HZ : Hid (headE x.s.most x.s.st false n = 5) := Lib.hid (by rw [HE.out, hst]; exact if_pos hy)
      clear hd hl hz0 HE hst
      go_wp2
      go_quiet (first | exact Calls.quiet_of (HD.out _) | exact Calls.quiet_of (HF.out _) | fail)
      have HM1 := Lib.hid (HMq.out nq)
      have HC1 := Lib.hid (HCq.out nq)
      go_wp2
      go_returns
      rw [HZ.out, HX.out]
      exact ⟨_, rfl, by rw [HL.out]; exact Evs.nil _ _, HM1.out, HC1.out⟩
/-- A head's last byte, whatever the head is. -/
theorem begin_any {w : World} {k ks base : Nat} {x : CM} (hM : MR w k ks x) (hk : k < base) (hs : ks < base) (hb : base ≤ w.heap.size) (c t : Int) (f : Bool) (n : Int) (hn : 0 ≤ n ∧ n ≤ 9223372036854775807) :
    Calls Try.prog 45 #[.pointer (some ⟨k, 0, none⟩), .agg #[.int .i64 c, .int .i64 t, .bool f, .int .i64 n]] w fun e w' => ∃ v, e = .returned (.tuple #[v, .int .i64 (headE x.s.most x.s.st f n)]) ∧ Evs w' base v (bgL x c t f n) ∧ MR w' k ks (bgX x f n) ∧ Chg (FB base k ks) w w' := by
  cases f
  · exact begin_leaf hM hk hs hb c t n hn
  · exact begin_cons hM hk hs hb c t n hn
end Go.Proofs.Ytagigdefghnnhaa
