/- What layer 15's reference gives: with which byte a content of any tag is wrong, and the first event of some that is wrong. Of every tag, every length that can be and every content of at most 900000 bytes; of every 400000 events that can be. -/
import Derived.Test.YtiiimhamfibdbaaGreatV1
import Derived.Test.YtiiimhamfibdbaaGreatN1
import Derived.Test.YtiiimhamfibdbaaGreatO1
import Derived.Test.YtiiimhamfibdbaaGreatBs
import Derived.Test.YtiiimhamfibdbaaGreatT2
import Derived.Test.YtiiimhamfibdbaaGreatE4
import Derived.Test.YtiiimhamfibdbaaGreatE1
import Derived.Test.YtiiimhamfibdbaaGreatB0
import Derived.Deep.LoopGhost
import Derived.Deep.Cut
import Derived.Deep.QuietTactic
import Derived.BigQuiet
namespace Go.Proofs.YtiiimhamfibdbaaGreat
open Go.RowKit Go.PlainAid
set_option linter.unusedVariables false
theorem vW_numV {tag n : Int} (s : ByteArray) (h : tag = 1 ∨ tag = 2 ∨ tag = 5 ∨ tag = 10) : nmWrong tag n s = vW tag n (bl s) := by
 unfold vW nmWrong nWl
 rw [if_pos h, bl_length, bt_g, bt_g]
theorem vW_oidV {n : Int} (s : ByteArray) : oidWrong n (bl s) = vW 6 n (bl s) := by
 unfold vW
 rw [if_neg (by omega), if_pos rfl]
theorem vW_bitsV {n : Int} (s : ByteArray) : bsW n s = vW 3 n (bl s) := by
 have h : vW 3 n (bl s) = bWl n (bl s) := by
  unfold vW
  rw [if_neg (by omega), if_neg (by omega), if_pos rfl]
 rw [h]
 unfold bsW bWl
 rw [bl_length, bt_g, bt_g]
theorem vW_whenV {tag n : Int} (s : ByteArray) (h : tag = 23 ∨ tag = 24) : whW tag n (bl s) = vW tag n (bl s) := by
 unfold vW
 rw [if_neg (by omega), if_neg (by omega), if_neg (by omega), if_pos h]
theorem vW_textV {tag n : Int} (s : ByteArray) (h : ¬ (tag = 1 ∨ tag = 2 ∨ tag = 5 ∨ tag = 10 ∨ tag = 6 ∨ tag = 3 ∨ tag = 23 ∨ tag = 24)) : txW tag n (bl s) = vW tag n (bl s) := by
 unfold vW
 rw [if_neg (by omega), if_neg (by omega), if_neg (by omega), if_neg (by omega)]
set_option maxRecDepth 100000 in
set_option maxHeartbeats 4000000 in
theorem refContent_any (tag n : Int) (s : ByteArray) (hs : s.size ≤ 900000) (hn : -9223372036854775808 ≤ n ∧ n ≤ 9223372036854775807) (w : World) :
  Calls Tryz.prog 42 #[.int .i64 tag, .int .i64 n, .string s] w fun e w' => e = .returned (.int .i64 (vW tag n (bl s))) ∧ Below w.heap.size w w' := by
 have hm : s.size ≤ maxLen := by unfold maxLen; omega
 by_cases h1 : tag = 1 ∨ tag = 2 ∨ tag = 5 ∨ tag = 10
 ·have HC := Lib.hid (refNumWrong_any tag n s hm)
  rw [vW_numV s h1] at HC
  rcases h1 with rfl | rfl | rfl | rfl
  all_goals
   go_enter Tryz.func42, Tryz.ntmps42
   go_wp2_with fail
   refine (HC.out _).mono ?_
   rintro e w1 ⟨rfl, rfl⟩
   go_wp2
   go_returns
   exact ⟨rfl, Below.refl _ _⟩
 ·have e1 : (tag == 1) = false := by simp; omega
  have e2 : (tag == 2) = false := by simp; omega
  have e5 : (tag == 5) = false := by simp; omega
  have e10 : (tag == 10) = false := by simp; omega
  by_cases h6 : tag = 6
  ·subst h6
   have HC := Lib.hid (refOidWrong_any n s hm hn)
   rw [vW_oidV s] at HC
   clear e1 e2 e5 e10 h1
   go_enter Tryz.func42, Tryz.ntmps42
   go_wp2_with fail
   refine (HC.out _).mono ?_
   rintro e w1 ⟨rfl, rfl⟩
   go_wp2
   go_returns
   exact ⟨rfl, Below.refl _ _⟩
  ·by_cases h3 : tag = 3
   ·subst h3
    have HC := Lib.hid (refBstrWrong_any n s hm hn.2)
    rw [vW_bitsV s] at HC
    clear e1 e2 e5 e10 h1
    go_enter Tryz.func42, Tryz.ntmps42
    go_wp2_with fail
    refine (HC.out _).mono ?_
    rintro e w1 ⟨rfl, hb⟩
    go_wp2
    go_returns
    exact ⟨rfl, hb⟩
   ·by_cases h4 : tag = 23 ∨ tag = 24
    ·have HC := Lib.hid (refWhenWrong_any tag n s (by omega))
     rw [vW_whenV s h4] at HC
     clear e1 e2 e5 e10 h1
     rcases h4 with rfl | rfl
     all_goals
      go_enter Tryz.func42, Tryz.ntmps42
      go_wp2_with fail
      refine (HC.out _).mono ?_
      rintro e w1 ⟨rfl, hb⟩
      go_wp2
      go_returns
      exact ⟨rfl, hb⟩
    ·have HC := Lib.hid (refTextWrong_any tag n s hs)
     rw [vW_textV s (by omega)] at HC
     have e6 : (tag == 6) = false := by simp; omega
     have e3 : (tag == 3) = false := by simp; omega
     have e23 : (tag == 23) = false := by simp; omega
     have e24 : (tag == 24) = false := by simp; omega
     clear h1 h6 h3 h4
     go_enter Tryz.func42, Tryz.ntmps42
     go_wp2_with fail
     refine (HC.out _).mono ?_
     rintro e w1 ⟨rfl, hb⟩
     go_wp2
     go_returns
     exact ⟨rfl, hb⟩
structure EvB (e : Ev) : Prop where
 c : 0 ≤ e.c ∧ e.c ≤ 3
 t : 0 ≤ e.t ∧ e.t ≤ 268435455
 n : 0 ≤ e.n ∧ e.n ≤ 2305843009213693951
 b : 0 ≤ e.b ∧ e.b ≤ 255
theorem VS.bounds {l : List Ev} : ∀ {s : VS}, VS.all s l → ∀ e ∈ l, EvB e := by
 induction l with
 |nil => intro s _ e he; simp at he
 |cons x l ih =>
  intro s h e he
  rcases List.mem_cons.1 he with rfl | h2
  ·exact ⟨h.1.c, h.1.t, h.1.n, h.1.b⟩
  ·exact ih h.2 e h2
def fstAt (L : List Ev) (i : Nat) : Int := if 0 ≤ vF (L.drop i) then (i : Int) + vF (L.drop i) else -1
theorem fstAt_zero (L : List Ev) : fstAt L 0 = vF L ∨ (vF L < 0 ∧ fstAt L 0 = -1) := by
 unfold fstAt
 rw [List.drop_zero]
 split <;> omega
theorem vF_low (l : List Ev) : -1 ≤ vF l := by
 cases l with
 |nil => exact Int.le_refl _
 |cons e r =>
  rw [vF_cons]
  split
  ·omega
  ·split <;> omega
theorem fstAt_zero' (L : List Ev) : fstAt L 0 = vF L := by
 have := vF_low L
 rcases fstAt_zero L with h | h <;> omega
theorem fstAt_end (L : List Ev) : fstAt L L.length = -1 := by unfold fstAt; rw [List.drop_length]; rfl
theorem fstAt_no {L : List Ev} {i : Nat} (h : i < L.length) (hv : vEv L[i] (L.drop (i + 1)) < 0) : fstAt L i = fstAt L (i + 1) := by
 unfold fstAt
 rw [List.drop_eq_getElem_cons h, vF_cons, if_neg (by omega : ¬ 0 ≤ vEv L[i] (L.drop (i + 1)))]
 have := vF_low (L.drop (i + 1))
 by_cases h0 : 0 ≤ vF (L.drop (i + 1))
 ·rw [if_pos h0, if_pos (by omega), if_pos h0]; omega
 ·rw [if_neg h0, if_neg (by omega), if_neg h0]
theorem fstAt_hit {L : List Ev} {i : Nat} (h : i < L.length) {x : Int} (hx : vEv L[i] (L.drop (i + 1)) = x) (hv : 0 ≤ x) : fstAt L i = (i : Int) + x := by
 unfold fstAt
 rw [List.drop_eq_getElem_cons h, vF_cons, hx, if_pos hv, if_pos hv]
theorem cameL_isB {l : List Ev} (h : ∀ e ∈ l, EvB e) : IsB (cameL l) := by
 induction l with
 |nil => exact IsB.nil
 |cons e r ih =>
  rw [cameL]
  split
  ·exact IsB.cons (h e (by simp)).b.1 (h e (by simp)).b.2 (ih (fun x hx => h x (List.mem_cons_of_mem _ hx)))
  ·exact IsB.nil
theorem cameL_le (l : List Ev) : (cameL l).length ≤ l.length := by
 induction l with
 |nil => exact Nat.le_refl _
 |cons e r ih =>
  rw [cameL]
  split
  ·simp; exact ih
  ·simp
theorem vW_hi (tag n : Int) (l : List Int) : vW tag n l ≤ l.length + max n 0 + 1 := by
 unfold vW
 split
 ·have := (num_first tag n l).1; omega
 ·split
  ·have := (oid_first n l).1; omega
  ·split
   ·unfold bWl
    repeat' split
    all_goals omega
   ·split
    ·have := (wh_first tag n l).1; omega
    ·have := (tx_first tag n l).1; omega
theorem row_grown {w w' : World} {k : Nat} {o : Option Nat} {t : TypeId} {l : List Value} (h : Row w k t l) (hg : w.grownBy w' o) (hk : k < w.heap.size) (ho : some k ≠ o) : Row w' k t l :=
 (hg.block k hk ho).trans h
set_option maxRecDepth 100000 in
set_option maxHeartbeats 16000000 in
theorem refFirst_any {w : World} {base : Nat} {v : Value} {L : List Ev} (h : Evs w base v L) (hl : L.length ≤ 400000) (hb : ∀ e ∈ L, EvB e) :
  Calls Tryz.prog 24 #[v] w fun r w' => r = .returned (.int .i64 (vF L)) ∧ Below w.heap.size w w' := by
 have HF := Lib.hid (fstAt_zero' L)
 by_cases hz : L = []
 ·subst hz
  obtain ⟨o1, c1, rfl⟩ : ∃ o1 c1, v = .slice o1 0 c1 := by rcases h.shape with ⟨rfl, _⟩ | ⟨g, c, rfl, _⟩; exact ⟨_, _, rfl⟩; exact ⟨_, _, rfl⟩
  have HF2 : Hid (vF [] = -1) := Lib.hid rfl
  generalize vF [] = F at *
  clear h hl hb HF
  go_enter Tryz.func24, Tryz.ntmps24
  go_wp2_with fail
  go_loopw [3] (fun iv wr => iv = .int .i64 0 ∧ wr = w) (fun _ _ => 0)
  case atStart => exact ⟨rfl, rfl⟩
  case round =>
   obtain ⟨rfl, rfl⟩ := hrel
   go_wp2
   go_returns
   exact ⟨rets1 (congrArg (Value.int .i64) HF2.out.symm), Below.refl _ _⟩
 ·have hl0 : 0 < L.length := List.length_pos_iff.2 hz
  obtain ⟨g1, c1, rfl, hc1, _, _, _⟩ : ∃ g c, v = .slice (some ⟨g, 0, none⟩) L.length c ∧ L.length ≤ c ∧ c ≤ maxLen ∧ base ≤ g ∧ g < w.heap.size := by
   rcases h.shape with ⟨_, hh⟩ | hh
   ·exact absurd hh hz
   ·exact hh
  have HE := Lib.hid h
  have HEnd := Lib.hid (fstAt_end L)
  have HCL := Lib.hid (fun i => cameL_le (L.drop i))
  have HIB := Lib.hid (fun i => cameL_isB (l := L.drop i) (fun e he => hb e (List.mem_of_mem_drop he)))
  have HBn := Lib.hid (fun (i : Nat) (hi : i < L.length) => hb L[i] (List.getElem_mem hi))
  have HNo := Lib.hid (fun (i : Nat) (hi : i < L.length) => fstAt_no (L := L) hi)
  have HHit := Lib.hid (fun (i : Nat) (hi : i < L.length) (x : Int) => fstAt_hit (L := L) (x := x) hi)
  rw [← HF.out]
  clear h hb hz HF
  go_enter Tryz.func24, Tryz.ntmps24
  go_wp2_with fail
  go_loopg [3] L.length (fun gk iv wr => ∃ i : Nat, iv = .int .i64 (i : Int) ∧ i ≤ L.length ∧ L.length - i ≤ gk ∧ Hid (Below w.heap.size w wr) ∧ Hid (fstAt L 0 = fstAt L i))
  case atStart => exact ⟨0, rfl, by omega, by omega, Lib.hid (Below.refl _ _), Lib.hid rfl⟩
  case round =>
   obtain ⟨i, rfl, hi, hgk, HB, HV⟩ := hrel
   by_cases hlt : i < L.length
   ·have hlt2 : (i : Int) < (L.length : Int) := by omega
    have hE := HE.out.below HB.out
    have hB1 := HBn.out i hlt
    have hno := HNo.out i hlt
    have hhit := HHit.out i hlt
    obtain ⟨⟨k, p, c, t, f, n, b⟩, he⟩ : ∃ e, L[i] = e := ⟨_, rfl⟩
    obtain ⟨x0, x1, x2, x3, x4, x5, x6⟩ := hE.evAt i hlt he
    rw [he] at hB1 hno hhit
    obtain ⟨⟨c0, c2⟩, ⟨t0, t2⟩, ⟨n0, n2⟩, _⟩ := hB1
    simp only at c0 c2 t0 t2 n0 n2
    have HNO := Lib.hid hno
    have HHIT := Lib.hid hhit
    have HQ := Lib.hid he
    clear hE he hno hhit HNo HHit HBn
    have hc1' : i < c1 := by omega
    go_upto_region 5 with (fail)
    have hX : wr.alloc (.cells #[.int .i64 c, .int .i64 t, .bool f, .int .i64 n] 32) = wr.alloc (.cells (hdC c t f n).toArray 32) := rfl
    have HR : Hid (Row (wr.alloc (.cells (hdC c t f n).toArray 32)) wr.heap.size 32 (hdC c t f n)) := Lib.hid (Row.new wr 32 (hdC c t f n))
    have HB1 : Hid (Below w.heap.size w (wr.alloc (.cells (hdC c t f n).toArray 32))) := Lib.hid (HB.out.alloc HB.out.size _)
    rw [hX]
    clear hX x0 x1 x2 x3 x4 x5 x6 HB
    generalize wr.alloc (.cells (hdC c t f n).toArray 32) = W at *
    generalize wr.heap.size = hb at *
    obtain ⟨k0, k1, k2, k3, f0, f1, f2, f3⟩ := head_facts HR.out
    obtain ⟨x0, x1, x2, x3, x4, x5, x6⟩ := (HE.out.below HB1.out).evAt i hlt HQ.out
    by_cases hc : c = 0
    ·subst hc
     by_cases h1 : k = 1
     ·subst h1
      by_cases ht : t = 16 ∨ t = 17
      ·have hn := HNO.out (by rw [vEv_enter _ rfl rfl, if_pos ht]; decide)
       have HZ := Lib.hid (HV.out.trans hn)
       clear HV hn HNO HHIT
       rcases ht with rfl | rfl
       all_goals
        go_wp2_with fail
        go_roundg (L.length - (i + 1))
        case measure => omega
        case rel => exact ⟨i + 1, by simp, by omega, by omega, HB1, HZ⟩
      ·have b16 : (t != 16) = true := by simp; omega
       have b17 : (t != 17) = true := by simp; omega
       have hh := HHIT.out 0 (by rw [vEv_enter _ rfl rfl, if_neg ht]) (Int.le_refl _)
       have HZ := Lib.hid (HV.out.trans hh)
       clear HV hh HNO HHIT ht
       go_wp2_with fail
       go_returns
       exact ⟨rets1 (congrArg (Value.int .i64) (by rw [HZ.out]; omega)), HB1.out⟩
     ·have b1 : (k == 1) = false := by simpa using h1
      by_cases h2 : k = 2
      ·subst h2
       by_cases ht : t = 0 ∨ t = 16 ∨ t = 17
       ·have hh := HHIT.out 0 (by rw [vEv_leaf _ rfl rfl, if_pos ht]) (Int.le_refl _)
        have HZ := Lib.hid (HV.out.trans hh)
        clear HV hh HNO HHIT h1 b1
        rcases ht with rfl | rfl | rfl
        all_goals
         go_wp2_with fail
         go_returns
         exact ⟨rets1 (congrArg (Value.int .i64) (by rw [HZ.out]; omega)), HB1.out⟩
       ·have b0 : (t == 0) = false := by simp; omega
        have b16 : (t == 16) = false := by simp; omega
        have b17 : (t == 17) = false := by simp; omega
        have HVE : Hid (vEv ⟨2, p, 0, t, f, n, b⟩ (L.drop (i + 1)) = vW t n (cameL (L.drop (i + 1)))) := Lib.hid (by rw [vEv_leaf _ rfl rfl, if_neg ht])
        have hwW : w.heap.size ≤ W.heap.size := HB1.out.size
        have hLt := HR.out.lt
        clear h1 ht
        go_upto_region 12 with (fail)
        clear b1 x0 x1 x2 x3 x4 x5 x6 k0 k1 k2 k3 f0 f1 f2 f3
        have hX : W.alloc (.cells #[] 5) = W.alloc (.cells (u8s []).toArray 5) := rfl
        rw [hX]
        have HB2 : Hid (Below w.heap.size w (W.alloc (.cells (u8s []).toArray 5))) := Lib.hid (HB1.out.alloc hwW _)
        have HS2 : Hid (Sl (W.alloc (.cells (u8s []).toArray 5)) 5 (.slice (some ⟨W.heap.size, 0, none⟩) 0 0) (u8s []) W.heap.size) := Lib.hid (sl_new_bytes W [] (Nat.zero_le _))
        have HR2 : Hid (Row (W.alloc (.cells (u8s []).toArray 5)) hb 32 (hdC 0 t f n)) := Lib.hid (HR.out.below ((Below.refl _ _).alloc (Nat.le_refl _) _) hLt)
        have hne : ¬ hb = W.heap.size := by omega
        have hgb : w.heap.size ≤ W.heap.size := hwW
        clear hX HB1 HR
        generalize W.alloc (.cells (u8s []).toArray 5) = W2 at *
        generalize W.heap.size = gb at *
        go_wp2_with fail
        go_loopg [5, 6] L.length (fun gk2 sv kv wr2 => ∃ (j : Nat) (acc : List Int) (gg : Nat), kv = .int .i64 ((i + 1 + j : Nat) : Int) ∧ acc.length = j ∧ i + 1 + j ≤ L.length ∧ L.length - (i + 1 + j) ≤ gk2 ∧ Hid (Sl wr2 5 sv (u8s acc) gg) ∧ Hid (w.heap.size ≤ gg ∧ gg ≠ hb) ∧ Hid (Below w.heap.size w wr2) ∧ Hid (Row wr2 hb 32 (hdC 0 t f n)) ∧ Hid (cameL (L.drop (i + 1)) = acc ++ cameL (L.drop (i + 1 + j))))
        case atStart => exact ⟨0, [], gb, by simp, rfl, by omega, by omega, HS2, Lib.hid ⟨hgb, fun h => hne h.symm⟩, HB2, HR2, Lib.hid rfl⟩
        case round =>
         obtain ⟨j, acc, gg, rfl, hj, hjl, hgk2, HS, HG, HB3, HR3, HA⟩ := hrel
         by_cases hj2 : i + 1 + j < L.length
         ·have hj3 : ((i + 1 + j : Nat) : Int) < (L.length : Int) := by omega
          have HD := Lib.hid (List.drop_eq_getElem_cons hj2)
          obtain ⟨⟨q0, q1, q2, q3, q4, q5, q6⟩, he⟩ : ∃ e, L[i + 1 + j] = e := ⟨_, rfl⟩
          obtain ⟨y0, y1, y2, y3, y4, y5, y6⟩ := (HE.out.below HB3.out).evAt (i + 1 + j) hj2 he
          rw [he] at HD
          clear he
          have hc1'' : i + 1 + j < c1 := by omega
          by_cases h3 : q0 = 3
          ·subst h3
           have HA2 : Hid (cameL (L.drop (i + 1)) = (acc ++ [q6]) ++ cameL (L.drop (i + 1 + (j + 1)))) := Lib.hid (by
            rw [HA.out, HD.out, cameL_of rfl]; simp [Nat.add_assoc])
           have hlt3 := HR3.out.lt
           have hwW3 : w.heap.size ≤ wr.heap.size := HB3.out.size
           have hgg := HG.out.1
           have hgh := HG.out.2
           clear HA HD HVE HNO HHIT HV HB2 HR2 HS2 HIB HCL HQ
           go_wp2_with (at_builtin; refine wpList_append_byte rfl (.tmp 76) (.tmp 82) rfl (l := acc) (g := gg) rfl (HS.out.alloc _) wr.heap.size 1 q6 rfl (by simp) (by omega) ?_)
           intro v' w1 g' hs1 hg1 hgr1
           have HS1 := Lib.hid hs1
           have HR4 : Hid (Row w1 hb 32 (hdC 0 t f n)) := Lib.hid (row_grown (HR3.out.below ((Below.refl _ _).alloc (Nat.le_refl _) _) hlt3) hgr1 (by simp; omega) (fun h => hgh (by cases h; rfl)))
           have HB4 : Hid (Below w.heap.size w w1) := Lib.hid ((HB3.out.alloc hwW3 _).grown hgr1 (by simp; omega) (by intro q hq; cases hq; exact hgg))
           have HG1 : Hid (w.heap.size ≤ g' ∧ g' ≠ hb) := Lib.hid (by
            rcases hg1 with rfl | rfl
            ·exact ⟨hgg, hgh⟩
            ·simp; omega)
           clear hs1 hgr1 hg1 HS HR3 HB3 HG
           go_wp2
           go_roundg (L.length - (i + 1 + (j + 1)))
           case measure => omega
           case rel => exact ⟨j + 1, acc ++ [q6], g', by simp; omega, by simp [hj], by omega, by omega, HS1, HG1, HB4, HR4, HA2⟩
          ·have hce : cameL (L.drop (i + 1 + j)) = [] := by rw [HD.out]; exact cameL_no h3
           have b3 : (q0 == 3) = false := by simpa using h3
           clear HD h3
           have HAc : cameL (L.drop (i + 1)) = acc := by rw [HA.out, hce, List.append_nil]
           have HSz : (strOfNums acc).size ≤ 900000 := by rw [strOfNums_size]; omega
           have HCn := Lib.hid (refContent_any t n (strOfNums acc) HSz ⟨by omega, by omega⟩)
           rw [bl_str (HAc ▸ HIB.out (i + 1))] at HCn
           have hcv := conv_bytes HS.out
           have hX1 := vW_hi t n acc
           rw [HAc] at HVE
           have HVX := HVE
           obtain ⟨k0, k1, k2, k3, f0, f1, f2, f3⟩ := head_facts HR3.out
           have hwW3 : w.heap.size ≤ wr.heap.size := HB3.out.size
           have HE' := HE
           clear HS HR3 HG HAc HSz HA hce HB2 HR2 HS2 HVE HIB HCL
           generalize vW t n acc = X at *
           by_cases hX0 : 0 ≤ X
           ·have hh := HHIT.out X HVX.out hX0
            have HZ := Lib.hid (HV.out.trans hh)
            clear HV hh HNO HHIT HVX
            go_wp2_with fail
            refine (HCn.out _).mono ?_
            rintro e w9 ⟨rfl, hb9⟩
            have HB9 := HB3.out.trans (hb9.mono hwW3)
            go_wp2
            go_returns
            exact ⟨rets1 (congrArg (Value.int .i64) HZ.out.symm), HB9⟩
           ·have hn := HNO.out (by rw [HVX.out]; omega)
            have HZ := Lib.hid (HV.out.trans hn)
            clear HV hn HNO HHIT HVX
            go_wp2_with fail
            refine (HCn.out _).mono ?_
            rintro e w9 ⟨rfl, hb9⟩
            have HB9 := Lib.hid (HB3.out.trans (hb9.mono hwW3))
            clear hb9 HB3
            go_wp2
            go_roundg (L.length - (i + 1))
            case measure => omega
            case rel => exact ⟨i + 1, by simp, by omega, by omega, HB9, HZ⟩
         ·have hj3 : ¬ ((i + 1 + j : Nat) : Int) < (L.length : Int) := by omega
          have hce : cameL (L.drop (i + 1 + j)) = [] := by rw [List.drop_eq_nil_of_le (by omega)]; rfl
          have HAc : cameL (L.drop (i + 1)) = acc := by rw [HA.out, hce, List.append_nil]
          have HSz : (strOfNums acc).size ≤ 900000 := by rw [strOfNums_size]; omega
          have HCn := Lib.hid (refContent_any t n (strOfNums acc) HSz ⟨by omega, by omega⟩)
          rw [bl_str (HAc ▸ HIB.out (i + 1))] at HCn
          have hcv := conv_bytes HS.out
          have hX1 := vW_hi t n acc
          rw [HAc] at HVE
          have HVX := HVE
          obtain ⟨k0, k1, k2, k3, f0, f1, f2, f3⟩ := head_facts HR3.out
          have hwW3 : w.heap.size ≤ wr.heap.size := HB3.out.size
          have HE' := HE
          clear HS HR3 HG HAc HSz HA hce HB2 HR2 HS2 HVE HIB HCL
          generalize vW t n acc = X at *
          by_cases hX0 : 0 ≤ X
          ·have hh := HHIT.out X HVX.out hX0
           have HZ := Lib.hid (HV.out.trans hh)
           clear HV hh HNO HHIT HVX
           go_wp2_with fail
           refine (HCn.out _).mono ?_
           rintro e w9 ⟨rfl, hb9⟩
           have HB9 := HB3.out.trans (hb9.mono hwW3)
           go_wp2
           go_returns
           exact ⟨rets1 (congrArg (Value.int .i64) HZ.out.symm), HB9⟩
          ·have hn := HNO.out (by rw [HVX.out]; omega)
           have HZ := Lib.hid (HV.out.trans hn)
           clear HV hn HNO HHIT HVX
           go_wp2_with fail
           refine (HCn.out _).mono ?_
           rintro e w9 ⟨rfl, hb9⟩
           have HB9 := Lib.hid (HB3.out.trans (hb9.mono hwW3))
           clear hb9 HB3
           go_wp2
           go_roundg (L.length - (i + 1))
           case measure => omega
           case rel => exact ⟨i + 1, by simp, by omega, by omega, HB9, HZ⟩
      ·have b2 : (k != 2) = true := by simpa using h2
       have hn := HNO.out (by rw [vEv_no _ (show ¬ (Ev.mk k p 0 t f n b).k = 1 from h1) (show ¬ (Ev.mk k p 0 t f n b).k = 2 from h2)]; decide)
       have HZ := Lib.hid (HV.out.trans hn)
       clear HV hn HNO HHIT h1 h2
       go_wp2_with fail
       go_roundg (L.length - (i + 1))
       case measure => omega
       case rel => exact ⟨i + 1, by simp, by omega, by omega, HB1, HZ⟩
    ·have bc : (c != 0) = true := by simpa using hc
     have hn := HNO.out (by rw [vEv_other _ (show ¬ (Ev.mk k p c t f n b).c = 0 from hc)]; decide)
     go_wp2_with fail
     go_roundg (L.length - (i + 1))
     case measure => omega
     case rel => exact ⟨i + 1, by simp, by omega, by omega, HB1, Lib.hid (by rw [HV.out, hn])⟩
   ·have hlt2 : ¬ (i : Int) < (L.length : Int) := by omega
    obtain rfl : i = L.length := by omega
    clear HNo HHit HBn HE
    go_wp2
    go_returns
    exact ⟨rets1 (congrArg (Value.int .i64) (HV.out.trans HEnd.out).symm), HB.out⟩
end Go.Proofs.YtiiimhamfibdbaaGreat
/- What the laws of layer 15 (and later ones) need of a checker's calls, whatever its memory is: VA says that block k holds a checker that knows s, that writes the blocks F alone; and the document's fixed answers. -/
namespace Go.Proofs.YtiiimhamfibdbaaGreat
open Go.RowKit Go.PlainAid
set_option linter.unusedVariables false
abbrev ValPred := World → Nat → (Nat → Prop) → VS → Prop
structure ValSpec (VA : ValPred) : Prop where
 lt : ∀ {w k F s}, VA w k F s → ∀ i, F i → i < w.heap.size
 aside : ∀ {w w' k F F' s}, VA w k F s → Chg F' w w' → (∀ i, F i → ¬ F' i) → VA w' k F s
 new : ∀ (w : World), Calls Tryz.prog 20 #[] w fun e w' => ∃ k F, e = .returned (.pointer (some ⟨k, 0, none⟩)) ∧ (∀ i, F i → w.heap.size ≤ i) ∧ VA w' k F VS.new ∧ Below w.heap.size w w'
 push : ∀ {w k F s} (e : Ev), VA w k F s → s.Ok → s.fits e →
  Calls Tryz.prog 41 #[.pointer (some ⟨k, 0, none⟩), evV e] w fun r w' => ∃ F', r = .returned (.int .i64 (if (s.next e).bad = true then 7 else 0)) ∧ (∀ i, F' i → F i ∨ w.heap.size ≤ i) ∧ VA w' k F' (s.next e) ∧ Chg F w w'
end Go.Proofs.YtiiimhamfibdbaaGreat
/- What layer 15's reference tells of a whole text. Of every text of at most 400000 bytes, and every depth. -/
namespace Go.Proofs.YtiiimhamfibdbaaGreat
open Go.RowKit Go.PlainAid
set_option linter.unusedVariables false
end Go.Proofs.YtiiimhamfibdbaaGreat
