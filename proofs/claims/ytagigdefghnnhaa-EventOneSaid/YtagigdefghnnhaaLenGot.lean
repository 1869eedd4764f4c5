/- What length's Get gives: the landed code's contract. Of every text and place that the form lets come. -/
import Derived.Test.YtagigdefghnnhaaByteSl
import Derived.Test.YtagigdefghnnhaaLen
import Derived.Test.YtagigdefghnnhaaRefLen
import Derived.Laws.BytesArg
import Derived.Handy
namespace Go.Proofs.Ytagigdefghnnhaa
open Go.RowKit Go.PlainAid
set_option linter.unusedVariables false
/-- The number of the first bytes behind a place. -/
def vAt (b : ByteArray) (i j : Nat) : Int := val (((bl b).drop (i + 1)).take j) 0
theorem vAt_zero (b : ByteArray) (i : Nat) : vAt b i 0 = 0 := rfl
theorem vAt_succ (b : ByteArray) (i j : Nat) (h : i + 1 + j < b.size) : vAt b i (j + 1) = vAt b i j * 256 + bt b (i + 1 + j) := by
  have hl : j < ((bl b).drop (i + 1)).length := by rw [List.length_drop, bl_length]; omega
  unfold vAt
  rw [val_step _ j hl, List.getElem_drop, bl_get]
theorem vAt_nonneg (b : ByteArray) (i j : Nat) : 0 ≤ vAt b i j := val_nonneg _ 0 (((bl_isB b).drop _).take _) (by decide)
theorem vAt_lt (b : ByteArray) (i j : Nat) (h : j ≤ 7) : vAt b i j < 72057594037927936 := by
  have := val_lt (((bl b).drop (i + 1)).take j) 0 (((bl_isB b).drop _).take _)
  have h2 : (256 : Nat) ^ (((bl b).drop (i + 1)).take j).length ≤ 256 ^ 7 := Nat.pow_le_pow_right (by decide) (by rw [List.length_take]; omega)
  unfold vAt
  have h3 : (256 : Nat) ^ 7 = 72057594037927936 := by decide
  rw [h3] at h2
  simp only [Nat.zero_add, Nat.one_mul] at this
  have : val (List.take j (List.drop (i + 1) (bl b))) (0 : Nat) < 72057594037927936 := by omega
  exact this
theorem lenAt (b : ByteArray) (i k : Nat) (hi : i < b.size) (hk1 : 1 ≤ k) (hk8 : k ≤ 8) (hx : bt b i = 128 + (k : Int)) :
    lgAt b (i : Int) = if i + 1 < b.size ∧ (bt b (i + 1) = 0 ∨ (k = 1 ∧ bt b (i + 1) < 128)) then (0, (i : Int) + 1, 4)
      else if b.size - (i + 1) < k then (0, (b.size : Int), 2)
      else if 2305843009213693951 < vAt b i k then (0, (i : Int) + k, 4)
      else (vAt b i k, (i : Int) + k + 1, 0) := by
  have hD := bl_drop b i hi
  have hlen : ((bl b).drop (i + 1)).length = b.size - (i + 1) := by rw [List.length_drop, bl_length]
  have hh : i + 1 < b.size → ((bl b).drop (i + 1)).headD 0 = bt b (i + 1) := by intro h; rw [bl_drop b (i + 1) h]; rfl
  have e1 : (128 + (k : Int) - 128).toNat = k := by omega
  have hG := lenGet_cons (bt b i) ((bl b).drop (i + 1))
  rw [← hD, hx, if_neg (by omega), if_neg (by omega), hlen, e1] at hG
  by_cases c3 : i + 1 < b.size ∧ (bt b (i + 1) = 0 ∨ (k = 1 ∧ bt b (i + 1) < 128))
  · rw [if_pos c3]
    rw [if_pos ⟨by omega, by rw [hh c3.1]; omega⟩] at hG
    rw [lgAt_in b i (by omega) hG]; rfl
  · rw [if_neg c3]
    rw [if_neg (by rintro ⟨h1, h2⟩; rw [hh (by omega)] at h2; exact c3 ⟨by omega, by omega⟩)] at hG
    by_cases c4 : b.size - (i + 1) < k
    · rw [if_pos c4]
      rw [if_pos (by omega)] at hG
      rw [lgAt_in b i (by omega) hG, show (i : Int) + ((1 + (b.size - (i + 1)) : Nat) : Int) = (b.size : Int) by omega]
    · rw [if_neg c4]
      rw [if_neg (by omega)] at hG
      by_cases c5 : 2305843009213693951 < vAt b i k
      · rw [if_pos c5]
        rw [if_pos (show 2305843009213693951 < val _ 0 from c5)] at hG
        rw [lgAt_in b i (by omega) hG]
      · rw [if_neg c5]
        rw [if_neg (show ¬ 2305843009213693951 < val _ 0 from c5)] at hG
        rw [lgAt_in b i (by omega) hG, show (i : Int) + ((1 + k : Nat) : Int) = (i : Int) + k + 1 by omega]; rfl
set_option maxRecDepth 100000 in
set_option maxHeartbeats 1600000 in
theorem getNumber_any (b : ByteArray) (i k : Nat) (hi : i < b.size) (hb : b.size ≤ maxLen) (hk1 : 1 ≤ k) (hk8 : k ≤ 8) (hx : bt b i = 128 + (k : Int)) (w : World) :
    Calls Try.prog 54 #[.string b, .int .i64 ((i : Int) + 1), .int .i64 k] w fun e w' => e = .returned (.tuple #[.int .i64 (lgAt b i).1, .int .i64 (lgAt b i).2.1, .int .i64 (lgAt b i).2.2]) ∧ w' = w := by
  have hb9 : (b.size : Int) ≤ 9223372036854775807 := by unfold maxLen at hb; omega
  have HG := Lib.hid (lenAt b i k hi hk1 hk8 hx)
  have HV0 := Lib.hid (vAt_zero b i)
  have HVS := Lib.hid (vAt_succ b i)
  have HVN := Lib.hid (vAt_nonneg b i)
  have HVL := Lib.hid (vAt_lt b i)
  have HBT := Lib.hid (get_bt b)
  have HB0 := Lib.hid (bt_nonneg b)
  have HB1 := Lib.hid (bt_le b)
  generalize lgAt b (i : Int) = G at *
  generalize vAt b i = V at *
  clear hx hb
  go_enter Try.func54, Try.ntmps54
  go_wp2
  go_loopw [9, 13] (fun nv iv wr => ∃ (j : Nat), nv = .int .u64 (V j) ∧ iv = .int .i64 (j : Int) ∧ j ≤ k ∧ i + 1 + j ≤ b.size ∧ Hid (0 < j → ¬ (i + 1 < b.size ∧ (bt b (i + 1) = 0 ∨ (k = 1 ∧ bt b (i + 1) < 128)))) ∧ wr = w) (fun _ iv _ => ((k : Int) - intOf iv).toNat)
  case atStart => exact ⟨0, by rw [HV0.out], rfl, by omega, by omega, Lib.hid (by intro h; omega), rfl⟩
  case round =>
    obtain ⟨j, rfl, rfl, hj, hjs, HN, rfl⟩ := hrel
    have hn := HVN.out j
    by_cases hjk : j = k
    · subst hjk
      rw [if_neg (HN.out (by omega)), if_neg (by omega)] at HG
      by_cases c5 : 2305843009213693951 < V j
      · rw [if_pos c5] at HG
        clear HN HVS HV0 HBT HB0 HB1 hj
        go_wp2
        go_returns
        rw [HG.out]
        exact ⟨rets3 rfl (by simp <;> omega) rfl, rfl⟩
      · rw [if_neg c5] at HG
        clear HN HVS HV0 HBT HB0 HB1 hj
        have c6 : V j ≤ 2305843009213693951 := by omega
        go_wp2
        go_returns
        rw [HG.out]
        exact ⟨rets3 rfl (by simp <;> omega) rfl, rfl⟩
    · have hjk' : j < k := by omega
      by_cases hz : i + 1 + j = b.size
      · have he : ((i : Int) + 1 + j == (b.size : Int)) = true := by simp; omega
        rw [if_neg, if_pos (by omega)] at HG
        rotate_left
        · intro h
          by_cases h0 : 0 < j
          · exact HN.out h0 h
          · omega
        have HZ := Lib.hid hz
        clear HN HVS HV0 HBT HB0 HB1 hj hz hjk
        go_wp2
        go_returns
        rw [HG.out]
        exact ⟨rets3 rfl (by have := HZ.out; simp <;> omega) rfl, rfl⟩
      · have he : ((i : Int) + 1 + j == (b.size : Int)) = false := by simp; omega
        have hlt : i + 1 + j < b.size := by omega
        have hbt := HBT.out (i + 1 + j) hlt
        have hv := HVS.out j hlt
        have hy0 := HB0.out (i + 1 + j)
        have hy1 := HB1.out (i + 1 + j)
        have hvl := HVL.out j (by omega)
        obtain ⟨y, hY⟩ : ∃ y, bt b (i + 1 + j) = y := ⟨_, rfl⟩
        rw [hY] at hbt hv hy0 hy1
        have HY := Lib.hid hY
        clear hY
        have HV := Lib.hid hv
        have HZ := Lib.hid hz
        have hor : bits .or .u64 (V j * 256) y = V j * 256 + y := or64_add (V j) y 8 hn hy0 (by omega) (by omega)
        by_cases h0 : j = 0
        · subst h0
          have hY : bt b (i + 1) = y := HY.out
          rw [hY] at HG
          have hx : V 0 * 256 + y = y := by rw [HV0.out]; omega
          by_cases c1 : y = 0
          · have ht : (V 0 * 256 + y == 0) = true := by rw [hx]; simpa using c1
            rw [if_pos ⟨by omega, .inl c1⟩] at HG
            clear hv hz hjk hj HV0 HVS HBT HB0 HB1 HN hjs hY HY c1 hx HV
            go_wp2
            go_returns
            rw [HG.out]
            exact ⟨rets3 rfl (by simp <;> omega) rfl, by trivial⟩
          · have ht : (V 0 * 256 + y == 0) = false := by rw [hx]; simpa using c1
            by_cases c2 : k = 1
            · have ck : ((k : Int) == 1) = true := by simp; omega
              by_cases c3 : y < 128
              · have ht2 : V 0 * 256 + y < 128 := by omega
                rw [if_pos ⟨by omega, .inr ⟨c2, c3⟩⟩] at HG
                clear hv hz hjk hj HV0 HVS HBT HB0 HB1 HN hjs hY HY c1 hx HV c2 c3
                go_wp2
                go_returns
                rw [HG.out]
                exact ⟨rets3 rfl (by simp <;> omega) rfl, by trivial⟩
              · have ht2 : ¬ V 0 * 256 + y < 128 := by omega
                have HN' : Hid (¬ (i + 1 < b.size ∧ (bt b (i + 1) = 0 ∨ (k = 1 ∧ bt b (i + 1) < 128)))) := Lib.hid (by rw [hY]; omega)
                clear hv hz hjk hj HV0 HVS HBT HB0 HB1 HN hjs hY HY c1 hx HG c2 c3
                go_wp2
                go_roundw
                case rel => exact ⟨1, by rw [HV.out], by simp, by omega, by have := HZ.out; omega, Lib.hid (fun _ => HN'.out), by trivial⟩
                case measure => simp [intOf] <;> omega
            · have ck : ((k : Int) == 1) = false := by simp; omega
              have HN' : Hid (¬ (i + 1 < b.size ∧ (bt b (i + 1) = 0 ∨ (k = 1 ∧ bt b (i + 1) < 128)))) := Lib.hid (by rw [hY]; omega)
              clear hv hz hjk hj HV0 HVS HBT HB0 HB1 HN hjs hY HY c1 hx HG c2
              go_wp2
              go_roundw
              case rel => exact ⟨1, by rw [HV.out], by simp, by omega, by have := HZ.out; omega, Lib.hid (fun _ => HN'.out), by trivial⟩
              case measure => simp [intOf] <;> omega
        · have hj0 : ((j : Int) == 0) = false := by simp; omega
          have HN' := Lib.hid (HN.out (by omega))
          clear hv hz hjk hj HV0 HVS HBT HB0 HB1 HN hjs HY HG
          go_wp2
          go_roundw
          case rel => exact ⟨j + 1, by rw [HV.out], by simp, by omega, by have := HZ.out; omega, Lib.hid (fun _ => HN'.out), by trivial⟩
          case measure => simp [intOf] <;> omega
set_option maxRecDepth 100000 in
set_option maxHeartbeats 1600000 in
theorem lenGet_any (b : ByteArray) (at_ : Int) (hb : b.size ≤ maxLen) (ha : -9223372036854775808 ≤ at_ ∧ at_ ≤ 9223372036854775807) (w : World) :
    Calls Try.prog 50 #[.string b, .int .i64 at_] w fun e w' => e = .returned (.tuple #[.int .i64 (lgAt b at_).1, .int .i64 (lgAt b at_).2.1, .int .i64 (lgAt b at_).2.2]) ∧ Below w.heap.size w w' := by
  have hb9 : (b.size : Int) ≤ 9223372036854775807 := by unfold maxLen at hb; omega
  by_cases ho : at_ < 0 ∨ (b.size : Int) < at_
  · have HA := Lib.hid (lgAt_out b at_ ho)
    have hw : at_ < 0 ∨ (0 ≤ at_ ∧ (b.size : Int) < at_) := by omega
    clear ho
    rcases hw with h1 | ⟨h1, h2⟩
    all_goals
      go_enter Try.func50, Try.ntmps50
      go_wp2
      go_returns
      rw [HA.out]
      exact ⟨rfl, Below.refl _ _⟩
  · obtain ⟨i, rfl⟩ := Int.eq_ofNat_of_zero_le (show 0 ≤ at_ by omega)
    have hi : i ≤ b.size := by omega
    have hl : ¬ (b.size : Int) < (i : Int) := by omega
    have hl0 : ¬ (i : Int) < 0 := by omega
    clear ho ha
    by_cases hz : i = b.size
    · have HA := Lib.hid (lgAt_in b i hi (show lenGet ((bl b).drop i) = (0, 0, 2) by rw [bl_drop_end b i (by omega)]; rfl))
      have he : ((i : Int) == (b.size : Int)) = true := by simp; omega
      clear hz hi
      go_enter Try.func50, Try.ntmps50
      go_wp2
      go_returns
      rw [HA.out]
      exact ⟨rets3 rfl (by simp) rfl, Below.refl _ _⟩
    · have hlt : i < b.size := by omega
      have he : ((i : Int) == (b.size : Int)) = false := by simp; omega
      have hD := bl_drop b i hlt
      have hx0 := bt_nonneg b i
      have hx1 := bt_le b i
      have hbt := get_bt b i hlt
      obtain ⟨x, hx⟩ : ∃ x, bt b i = x := ⟨_, rfl⟩
      rw [hx] at hD hx0 hx1 hbt
      by_cases c1 : x < 128
      · have HA := Lib.hid (lgAt_in b i (by omega) (show lenGet ((bl b).drop i) = (x, 1, 0) by rw [hD, lenGet_cons, if_pos c1]))
        clear hD hx hi hz
        go_enter Try.func50, Try.ntmps50
        go_wp2
        go_returns
        rw [HA.out]
        exact ⟨rets3 rfl (by simp) rfl, Below.refl _ _⟩
      · by_cases c2 : x = 128 ∨ 136 < x
        · have HA := Lib.hid (lgAt_in b i (by omega) (show lenGet ((bl b).drop i) = (0, 0, 4) by rw [hD, lenGet_cons, if_neg c1, if_pos c2]))
          clear hD hx hi hz
          by_cases c20 : x = 128
          · subst c20
            clear c2
            go_enter Try.func50, Try.ntmps50
            go_wp2
            go_returns
            rw [HA.out]
            exact ⟨rets3 rfl (by simp) rfl, Below.refl _ _⟩
          · have c21 : 136 < x := by omega
            have c22 : (x == 128) = false := by simpa using c20
            clear c2 c20
            go_enter Try.func50, Try.ntmps50
            go_wp2
            go_returns
            rw [HA.out]
            exact ⟨rets3 rfl (by simp) rfl, Below.refl _ _⟩
        · have c22 : (x == 128) = false := by simp; omega
          have c23 : ¬ 136 < x := by omega
          obtain ⟨k, hk⟩ : ∃ k : Nat, x = 128 + (k : Int) := ⟨(x - 128).toNat, by omega⟩
          have HN := Lib.hid (getNumber_any b i k hlt hb (by omega) (by omega) (by omega))
          have ek : x - 128 = (k : Int) := by omega
          have hk8 : k ≤ 8 := by omega
          generalize lgAt b (i : Int) = G at *
          clear hD hx hi hz c2 hk hb
          go_enter Try.func50, Try.ntmps50
          go_wp2_with fail
          refine (HN.out _).mono ?_
          rintro e w1 ⟨rfl, rfl⟩
          go_wp2
          go_returns
          exact ⟨rfl, Below.refl _ _⟩
end Go.Proofs.Ytagigdefghnnhaa
