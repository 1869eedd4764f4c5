/- What the reference's Put and Get of lengths give. -/
import Derived.Test.YtagigdefghnnhaaByteSl
import Derived.Test.YtagigdefghnnhaaLen
import Derived.Laws.BytesArg
import Derived.Handy
namespace Go.Proofs.Ytagigdefghnnhaa
open Go.RowKit Go.PlainAid
set_option linter.unusedVariables false
/-- What Put answers. -/
def lpS (n : Int) : ByteArray := if lenOk n = true then strOfNums (lenPut n) else ⟨#[]⟩
def lpE (n : Int) : Int := if lenOk n = true then 0 else 1
theorem lpS_ok {n : Int} (h : lenOk n = true) : lpS n = strOfNums (lenPut n) := by rw [lpS, if_pos h]
theorem lpS_bad {n : Int} (h : ¬ lenOk n = true) : lpS n = ⟨#[]⟩ := by rw [lpS, if_neg h]
theorem lpE_ok {n : Int} : lpE n = 0 ↔ lenOk n = true := by unfold lpE; split <;> simp_all
set_option maxHeartbeats 1600000 in
theorem refLenPut_all (n : Int) (hn : -9223372036854775808 ≤ n ∧ n ≤ 9223372036854775807) (w : World) :
    Calls Try.prog 28 #[.int .i64 n] w fun e w' => e = .returned (.tuple #[.string (lpS n), .int .i64 (lpE n)]) ∧ Below w.heap.size w w' := by
  obtain ⟨n0, n1⟩ := hn
  by_cases hok : lenOk n = true
  · obtain ⟨h0, h1⟩ := lenOk_iff.1 hok
    have HE := Lib.hid (lpE_ok.2 hok)
    obtain ⟨m, rfl⟩ := Int.eq_ofNat_of_zero_le h0
    have hl0 : ¬ (m : Int) < 0 := by omega
    have hl1 : ¬ (2305843009213693951 : Int) < m := by omega
    by_cases hs : (m : Int) < 128
    · have HF : Hid (strOfNums [(m : Int)] = lpS m) := Lib.hid (by rw [lpS_ok hok, lenPut, if_pos hs])
      have hcv := conv_at (m : Int)
      clear hok
      go_enter Try.func28, Try.ntmps28
      go_wp2
      go_returns
      exact ⟨rets2 (congrArg _ HF.out) (congrArg _ HE.out.symm), by go_grown⟩
    · have hnb := nB_le (n := m) (by omega)
      have HF : Hid (strOfNums [128 + (nB m : Int)] ++ strOfNums (hiB m) = lpS m) := Lib.hid (by rw [lpS_ok hok, lenPut, if_neg hs, ← strOfNums_append, Int.toNat_natCast]; rfl)
      have hs1 : (strOfNums [128 + (nB m : Int)]).size = 1 := by rw [strOfNums_size]; rfl
      have hs2 : (strOfNums (hiB m)).size ≤ 8 := by rw [strOfNums_size, hiB_len]; exact hnb
      have HNB := Lib.hid (show (hiB m).length = nB m from hiB_len m)
      have hcv := conv_at (128 + (nB m : Int))
      clear hok
      go_enter Try.func28, Try.ntmps28
      go_wp2
      go_loopw [0, 4] (fun tv sv wr => ∃ (t g c : Nat) (l : List Int), tv = .int .i64 (t : Int) ∧ t ≤ m ∧ Hid (hiB t ++ l = hiB m) ∧ sv = .slice (some ⟨g, 0, none⟩) l.length c ∧ Hid (Sl wr 5 (.slice (some ⟨g, 0, none⟩) l.length c) (u8s l) g) ∧ w.heap.size ≤ g ∧ Hid (Below w.heap.size w wr)) (fun tv _ _ => (intOf tv).toNat)
      case atStart => exact ⟨m, w.heap.size, 0, [], rfl, Nat.le_refl _, Lib.hid (by simp), rfl, Lib.hid (by have := sl_new_bytes w [] (by simp [maxLen]); simpa [u8s] using this), Nat.le_refl _, Lib.hid (by go_grown)⟩
      case round =>
        obtain ⟨t, g, c, l, rfl, ht, HL, rfl, HS, hg, HB⟩ := hrel
        have hll : l.length ≤ 8 := by have := congrArg List.length HL.out; rw [List.length_append, HNB.out] at this; omega
        by_cases h0 : t = 0
        · subst h0
          have hl : l = hiB m := by have := HL.out; rwa [hiB_zero, List.nil_append] at this
          have hlen : l.length = nB m := by rw [hl, HNB.out]
          rw [hlen] at HS
          rw [hl] at HS
          have hc2 : ∀ o : Obj, (convert 48 9 (.slice (some ⟨g, 0, none⟩) (nB m) c)).run Try.prog (wr.alloc o) = .ok (.string (strOfNums (hiB m))) (wr.alloc o) := fun o => conv_bytes (HS.out.alloc o)
          have hsz := HB.out.size
          clear hl HS HL
          go_wp2
          go_returns
          exact ⟨rets2 (congrArg _ HF.out) (congrArg _ HE.out.symm), HB.out.alloc hsz _⟩
        · have h01 : (0 : Int) < (t : Int) := by omega
          have HC := Lib.hid (HS.out.alloc (.cells (u8s [(t : Int) % 256]).toArray 5)).cells_u8
          go_wp2_with (at_builtin; refine wpList_append_bytes rfl (.tmp 23) (.tmp 24) rfl (l := [(t : Int) % 256]) (g := wr.heap.size) rfl (sl_new_bytes wr [(t : Int) % 256] (by simp [maxLen])) g l.length c l rfl rfl HC.out (by simp; omega) ?_)
          intro v' w1 g' hsl hg1 hgr1
          have HN := Lib.hid (show hiB (t / 256) ++ ([(t : Int) % 256] ++ l) = hiB m by rw [← HL.out, hiB_pos h0, List.append_assoc, show (t : Int) % 256 = ((t % 256 : Nat) : Int) by omega])
          obtain ⟨c', rfl, _, _⟩ := hsl.open (n := ([(t : Int) % 256] ++ l).length) (u8s_length _)
          have hsz := HB.out.size
          have HS1 := Lib.hid hsl
          have HB1 := Lib.hid ((HB.out.alloc hsz (.cells (u8s [(t : Int) % 256]).toArray 5)).grown hgr1 (by simp; omega) (by intro k hk; cases hk; exact hsz))
          clear hsl hgr1 HC HS HB HL
          go_wp2
          go_roundw
          case rel => exact ⟨t / 256, g', c', [(t : Int) % 256] ++ l, by simp, by omega, HN, by simp, HS1, by rcases hg1 with h | h <;> first | omega | (simp at h; omega), HB1⟩
          case measure => simp [intOf]; omega
  · have HE : Hid (lpE n = 1) := Lib.hid (by unfold lpE; rw [if_neg hok])
    have HF := Lib.hid (lpS_bad hok)
    have hn : n < 0 ∨ (0 ≤ n ∧ 2305843009213693951 < n) := by rw [lenOk_iff] at hok; omega
    clear hok
    rcases hn with h | ⟨h, h'⟩
    all_goals
      go_enter Try.func28, Try.ntmps28
      go_wp2
      go_returns
      exact ⟨rets2 (congrArg _ HF.out.symm) (congrArg _ HE.out.symm), Below.refl _ _⟩
/-- What Get tells at a place: the number, the place, the error. -/
def lgAt (b : ByteArray) (at_ : Int) : Int × Int × Int :=
  if at_ < 0 ∨ (b.size : Int) < at_ then (0, 0, 1)
  else ((lenGet ((bl b).drop at_.toNat)).1, at_ + (lenGet ((bl b).drop at_.toNat)).2.1, (lenGet ((bl b).drop at_.toNat)).2.2)
theorem lgAt_in (b : ByteArray) (i : Nat) (hi : i ≤ b.size) {v : Int} {n : Nat} {e : Int} (h : lenGet ((bl b).drop i) = (v, n, e)) : lgAt b (i : Int) = (v, (i : Int) + n, e) := by
  unfold lgAt
  rw [if_neg (by omega), Int.toNat_natCast, h]
theorem lgAt_out (b : ByteArray) (at_ : Int) (h : at_ < 0 ∨ (b.size : Int) < at_) : lgAt b at_ = (0, 0, 1) := by
  unfold lgAt; rw [if_pos h]
theorem val_step (l : List Int) (i : Nat) (h : i < l.length) : val (l.take (i + 1)) 0 = val (l.take i) 0 * 256 + l[i] := by
  rw [List.take_add_one, List.getElem?_eq_getElem h, Option.toList_some, val_append]; rfl
set_option maxRecDepth 100000 in
set_option maxHeartbeats 1600000 in
theorem refLenGet_any (b : ByteArray) (at_ : Int) (hb : b.size ≤ maxLen) (ha : -9223372036854775808 ≤ at_ ∧ at_ ≤ 9223372036854775807) (w : World) :
    Calls Try.prog 47 #[.string b, .int .i64 at_] w fun e w' => e = .returned (.tuple #[.int .i64 (lgAt b at_).1, .int .i64 (lgAt b at_).2.1, .int .i64 (lgAt b at_).2.2]) ∧ Below w.heap.size w w' := by
  have hb9 : (b.size : Int) ≤ 9223372036854775807 := by unfold maxLen at hb; omega
  by_cases ho : at_ < 0 ∨ (b.size : Int) < at_
  · have HA := Lib.hid (lgAt_out b at_ ho)
    have hw : at_ < 0 ∨ (0 ≤ at_ ∧ (b.size : Int) < at_) := by omega
    clear ho
    rcases hw with h1 | ⟨h1, h2⟩
    all_goals
      go_enter Try.func47, Try.ntmps47
      go_wp2
      go_returns
      rw [HA.out]
      exact ⟨rfl, Below.refl _ _⟩
  · obtain ⟨i, rfl⟩ := Int.eq_ofNat_of_zero_le (show 0 ≤ at_ by omega)
    have hi : i ≤ b.size := by omega
    have hl : ¬ (b.size : Int) < (i : Int) := by omega
    have hl0 : ¬ (i : Int) < 0 := by omega
    clear ho ha
    by_cases hz : i = b.size
    · have HA := Lib.hid (lgAt_in b i hi (show lenGet ((bl b).drop i) = (0, 0, 2) by rw [bl_drop_end b i (by omega)]; rfl))
      have he : ((i : Int) == (b.size : Int)) = true := by simp; omega
      clear hz hi
      go_enter Try.func47, Try.ntmps47
      go_wp2
      go_returns
      rw [HA.out]
      exact ⟨rets3 rfl (by simp) rfl, Below.refl _ _⟩
    · have hlt : i < b.size := by omega
      have he : ((i : Int) == (b.size : Int)) = false := by simp; omega
      have hD := bl_drop b i hlt
      have hx0 := bt_nonneg b i
      have hx1 := bt_le b i
      have hbt := get_bt b i hlt
      generalize hx : bt b i = x at *
      clear hx hi hz
      by_cases c1 : x < 128
      · have HA := Lib.hid (lgAt_in b i (by omega) (show lenGet ((bl b).drop i) = (x, 1, 0) by rw [hD, lenGet_cons, if_pos c1]))
        clear hD
        go_enter Try.func47, Try.ntmps47
        go_wp2
        go_returns
        rw [HA.out]
        exact ⟨rets3 rfl (by simp) rfl, Below.refl _ _⟩
      · by_cases c2 : x = 128 ∨ 136 < x
        · have HA := Lib.hid (lgAt_in b i (by omega) (show lenGet ((bl b).drop i) = (0, 0, 4) by rw [hD, lenGet_cons, if_neg c1, if_pos c2]))
          clear hD
          by_cases c20 : x = 128
          · subst c20
            clear c2
            go_enter Try.func47, Try.ntmps47
            go_wp2
            go_returns
            rw [HA.out]
            exact ⟨rets3 rfl (by simp) rfl, Below.refl _ _⟩
          · have c21 : 136 < x := by omega
            have c22 : (x == 128) = false := by simpa using c20
            clear c2 c20
            go_enter Try.func47, Try.ntmps47
            go_wp2
            go_returns
            rw [HA.out]
            exact ⟨rets3 rfl (by simp) rfl, Below.refl _ _⟩
        · have c22 : (x == 128) = false := by simp; omega
          have c23 : ¬ 136 < x := by omega
          obtain ⟨k, hk⟩ : ∃ k : Nat, x = 128 + (k : Int) := ⟨(x - 128).toNat, by omega⟩
          have hk1 : 1 ≤ k := by omega
          have hk8 : k ≤ 8 := by omega
          obtain ⟨s, hs⟩ : ∃ s, b.extract (i + 1) b.size = s := ⟨_, rfl⟩
          have hsz : s.size = b.size - (i + 1) := by rw [← hs, ByteArray.size_extract]; omega
          have hsb : bl s = (bl b).drop (i + 1) := by
            rw [← hs, bl_extract _ _ _ (Nat.le_refl _), List.take_of_length_le]
            rw [List.length_drop, bl_length]
            omega
          have hrl : ((bl b).drop (i + 1)).length = s.size := by rw [← hsb, bl_length]
          have hG : lenGet ((bl b).drop i) = if 0 < (bl s).length ∧ ((bl s).headD 0 = 0 ∨ (x = 129 ∧ (bl s).headD 0 < 128)) then (0, 1, 4)
              else if ((bl s).length : Int) < x - 128 then (0, 1 + (bl s).length, 2)
              else if 2305843009213693951 < val ((bl s).take (x - 128).toNat) 0 then (0, (x - 128).toNat, 4)
              else (val ((bl s).take (x - 128).toNat) 0, 1 + (x - 128).toNat, 0) := by
            rw [hD, hsb, lenGet_cons, if_neg c1, if_neg c2]
          rw [bl_length, show (x - 128).toNat = k by omega, show x - 128 = (k : Int) by omega] at hG
          have hsl : ∀ W : World, (Instr.slice 9 (.string b) (some (.int .i64 ((i : Int) + 1))) none none).run Try.prog W = .ok (.string s) W := by
            intro W
            rw [run_slice_string_from_if (P := Try.prog) W 9 b .i64 _ Try.underlying9, if_pos (by omega), show ((i : Int) + 1).toNat = i + 1 by omega, hs]
          clear hD hsb hrl hs
          by_cases hs0 : s.size = 0
          · have HA := Lib.hid (lgAt_in b i (by omega) (show lenGet ((bl b).drop i) = (0, 1 + s.size, 2) by rw [hG, if_neg (by omega), if_pos (by omega)]))
            have HS := Lib.hid hsz
            have hsz0 : (s.size : Int) = 0 := by omega
            subst hk
            clear hG hsz hs0 c2
            go_enter Try.func47, Try.ntmps47
            go_wp2
            go_returns
            rw [HA.out]
            exact ⟨rets3 rfl (by have := HS.out; simp <;> omega) rfl, Below.refl _ _⟩
          · have hs0' : 0 < s.size := by omega
            have hs1 : (0 : Int) < (s.size : Int) := by omega
            have hh : (bl s).headD 0 = bt s 0 := by
              have := bl_drop s 0 hs0'
              rw [List.drop_zero] at this
              rw [this]; rfl
            rw [hh] at hG
            have hy0 := bt_nonneg s 0
            have hy1 := bt_le s 0
            have hyt := get_bt s 0 hs0'
            generalize hy : bt s 0 = y at *
            clear hh hs0 hy
            by_cases c3 : y = 0 ∨ (x = 129 ∧ y < 128)
            · have HA := Lib.hid (lgAt_in b i (by omega) (show lenGet ((bl b).drop i) = (0, 1, 4) by rw [hG, if_pos ⟨hs0', c3⟩]))
              clear hG
              by_cases c30 : y = 0
              · subst c30
                subst hk
                clear c3 c2 hsz
                go_enter Try.func47, Try.ntmps47
                go_wp2
                go_returns
                rw [HA.out]
                exact ⟨rets3 rfl (by simp) rfl, Below.refl _ _⟩
              · have hy3 : (y == 0) = false := by simpa using c30
                have hk2 : k = 1 := by omega
                have hy4 : y < 128 := by omega
                subst hk
                subst hk2
                clear c3 c2 hsz c30
                go_enter Try.func47, Try.ntmps47
                go_wp2
                go_returns
                rw [HA.out]
                exact ⟨rets3 rfl (by simp) rfl, Below.refl _ _⟩
            · have hy3 : (y == 0) = false := by simp; omega
              have hy4 : (((128 + (k : Int)) - 128) == 1) = true → ¬ y < 128 := by intro h; simp at h; omega
              rw [if_neg (by omega)] at hG
              by_cases c4 : (s.size : Int) < k
              · have HA := Lib.hid (lgAt_in b i (by omega) (show lenGet ((bl b).drop i) = (0, 1 + s.size, 2) by rw [hG, if_pos c4]))
                have HS := Lib.hid hsz
                subst hk
                clear hG hsz c2 c3
                by_cases k1 : k = 1
                · omega
                · have hk1b : (((128 + (k : Int)) - 128) == 1) = false := by simp; omega
                  clear hy4
                  go_enter Try.func47, Try.ntmps47
                  go_wp2
                  go_returns
                  rw [HA.out]
                  exact ⟨rets3 rfl (by have := HS.out; simp <;> omega) rfl, Below.refl _ _⟩
              · rw [if_neg c4] at hG
                have HG := Lib.hid hG
                have hkl : k ≤ s.size := by omega
                have hik : (i : Int) + (k : Int) + 1 ≤ (b.size : Int) := by omega
                clear hG hsz c3 c2
                subst hk
                have HVS := Lib.hid (fun (j : Nat) (h : j < s.size) => (val_step (bl s) j (by rw [bl_length]; exact h)).trans (by rw [bl_get]))
                have HVN := Lib.hid (fun (j : Nat) => val_nonneg ((bl s).take j) 0 ((bl_isB s).take j) (by decide))
                have HVG : Hid (∀ j, j ≤ k → 9007199254740991 < val ((bl s).take j) 0 → j < k → 2305843009213693951 < val ((bl s).take k) 0) := Lib.hid (by
                  intro j hj hv hjk
                  have h1 := HVS.out j (by omega)
                  have h2 : val ((bl s).take (j + 1)) 0 ≤ val ((bl s).take k) 0 := by
                    have := val_ge (((bl s).drop (j + 1)).take (k - (j + 1))) (val ((bl s).take (j + 1)) 0) (((bl_isB s).drop _).take _) (val_nonneg _ _ ((bl_isB s).take _) (Int.le_refl 0))
                    rwa [← val_append, ← List.take_add, show j + 1 + (k - (j + 1)) = k by omega] at this
                  have := bt_nonneg s j
                  omega)
                by_cases k1 : k = 1
                case' pos => have hy5 := hy4 (by simp; omega)
                case' neg => have hk1b : (((128 + (k : Int)) - 128) == 1) = false := by simp; omega
                all_goals
                  clear hy4
                  go_enter Try.func47, Try.ntmps47
                  go_wp2
                  go_loop [10, 11] (fun nv jv => ∃ (j : Nat) (V : Int), nv = .int .i64 V ∧ jv = .int .i64 (j : Int) ∧ j ≤ k ∧ 0 ≤ V ∧ V ≤ 2305843009213693951 ∧ Hid (val ((bl s).take j) 0 = V)) (fun _ jv => k - (intOf jv).toNat)
                  case atStart => exact ⟨0, 0, rfl, rfl, by omega, by omega, by omega, Lib.hid rfl⟩
                  case round =>
                    obtain ⟨j, V, rfl, rfl, hj, hV0, hV1, HV⟩ := hrel
                    by_cases hjk : j < k
                    · have hjk2 : (j : Int) < 128 + (k : Int) - 128 := by omega
                      by_cases hbig : 9007199254740991 < V
                      · have HA := Lib.hid (lgAt_in b i (by omega) (show lenGet ((bl b).drop i) = (0, k, 4) by rw [HG.out, if_pos (HVG.out j hj (by rw [HV.out]; exact hbig) hjk)]))
                        clear HG HVG HVS HVN HV
                        go_wp2
                        go_returns
                        rw [HA.out]
                        exact ⟨rets3 rfl (by simp <;> omega) rfl, Below.refl _ _⟩
                      · have hz0 := bt_nonneg s j
                        have hz1 := bt_le s j
                        have hzt := get_bt s j (by omega)
                        have hjs : j < s.size := by omega
                        have hst := HVS.out j hjs
                        rw [HV.out] at hst
                        generalize bt s j = z at *
                        have hz2 : ¬ 255 < z := by omega
                        have hb0 : 256 * V + z = V * 256 + z := by omega
                        have hb1 : 0 ≤ V * 256 + z := by omega
                        have hb2 : V * 256 + z ≤ 2305843009213693951 := by omega
                        have HST := Lib.hid hst
                        clear hst HV
                        by_cases hVe : V = 9007199254740991
                        case' pos =>
                          have hVq : (V == 9007199254740991) = true := by simpa using hVe
                        case' neg =>
                          have hVq : (V == 9007199254740991) = false := by simpa using hVe
                        all_goals
                          clear hVe
                          generalize hV2 : V * 256 + z = V2 at *
                          clear hV2
                          go_wp2
                          go_round
                          case rel => exact ⟨j + 1, V2, rfl, by simp, by omega, hb1, hb2, HST⟩
                          case measure => simp [intOf]; omega
                    · have hjk2 : ¬ (j : Int) < 128 + (k : Int) - 128 := by omega
                      have hje : j = k := by omega
                      have HA := Lib.hid (lgAt_in b i (by omega) (show lenGet ((bl b).drop i) = (V, 1 + k, 0) by rw [HG.out, ← hje, HV.out, if_neg (by omega)]))
                      have hVm : ¬ 2305843009213693951 < V := by omega
                      clear HG HVG HVS HVN HV hje
                      go_wp2
                      go_returns
                      rw [HA.out]
                      exact ⟨rets3 rfl (by simp <;> omega) rfl, Below.refl _ _⟩
end Go.Proofs.Ytagigdefghnnhaa
