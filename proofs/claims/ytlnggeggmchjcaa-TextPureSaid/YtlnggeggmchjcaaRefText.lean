/- What the reference's char of strings gives. Of every text of at most a million bytes. -/
import Derived.Test.YtlnggeggmchjcaaByteSl
import Derived.Test.YtlnggeggmchjcaaText
import Derived.Lib.Strings
import Derived.Laws.Cover1
import Derived.Handy
import Derived.Laws.BytesArg
namespace Go.Proofs.Ytlnggeggmchjcaa
open Go.RowKit Go.PlainAid
set_option linter.unusedVariables false
theorem charN_one {l : List Int} {k : Nat} (hk : k < l.length) (h : g l k < 128) : charN l k = 1 := by
  have hs : sz (g l k) = 1 := if_pos h
  unfold charN
  rw [hs, if_pos ⟨by omega, fun i hi h5 => by omega⟩]
theorem charN_none {l : List Int} {k : Nat} (h : sz (g l k) = 0) : charN l k = 0 := by
  unfold charN
  rw [h]
  split <;> rfl
theorem charN_out {l : List Int} {k : Nat} (h : ¬ k + sz (g l k) ≤ l.length) : charN l k = 0 := by
  unfold charN
  rw [if_neg (fun hh => h hh.1)]
theorem charN_two {l : List Int} {k : Nat} (h0 : 192 ≤ g l k) (h1 : g l k < 224) (hk : k + 2 ≤ l.length) :
    charN l k = if (128 ≤ g l (k + 1) ∧ g l (k + 1) ≤ 191) ∧ 128 ≤ 64 * (g l k - 192) + g l (k + 1) - 128 then 2 else 0 := by
  by_cases h2 : g l k < 194
  · rw [charN_none (by unfold sz; rw [if_neg (by omega), if_pos h2]), if_neg (by omega)]
  · have hs : sz (g l k) = 2 := by unfold sz; rw [if_neg (by omega), if_neg h2, if_pos (by omega)]
    unfold charN
    rw [hs]
    by_cases hc : (128 ≤ g l (k + 1) ∧ g l (k + 1) ≤ 191) ∧ 128 ≤ 64 * (g l k - 192) + g l (k + 1) - 128
    · rw [if_pos hc, if_pos]
      refine ⟨hk, fun i hi h5 => ?_⟩
      obtain rfl : i = 1 := by omega
      exact ⟨hc.1.1, hc.1.2, fun _ => ⟨by omega, by omega, by omega, by omega⟩⟩
    · rw [if_neg hc, if_neg]
      rintro ⟨_, hh⟩
      obtain ⟨q1, q2, _⟩ := hh 1 (by omega) (by omega)
      exact hc ⟨⟨q1, q2⟩, by omega⟩
theorem charN_three {l : List Int} {k : Nat} (h0 : 224 ≤ g l k) (h1 : g l k < 240) (hk : k + 3 ≤ l.length) :
    charN l k = if ((128 ≤ g l (k + 1) ∧ g l (k + 1) ≤ 191) ∧ (128 ≤ g l (k + 2) ∧ g l (k + 2) ≤ 191)) ∧ 2048 ≤ 64 * (64 * (g l k - 224) + g l (k + 1) - 128) + g l (k + 2) - 128 ∧ ¬ (55296 ≤ 64 * (64 * (g l k - 224) + g l (k + 1) - 128) + g l (k + 2) - 128 ∧ 64 * (64 * (g l k - 224) + g l (k + 1) - 128) + g l (k + 2) - 128 ≤ 57343) then 3 else 0 := by
  have hs : sz (g l k) = 3 := by unfold sz; rw [if_neg (by omega), if_neg (by omega), if_neg (by omega), if_pos (by omega)]
  unfold charN
  rw [hs]
  by_cases hc : ((128 ≤ g l (k + 1) ∧ g l (k + 1) ≤ 191) ∧ (128 ≤ g l (k + 2) ∧ g l (k + 2) ≤ 191)) ∧ 2048 ≤ 64 * (64 * (g l k - 224) + g l (k + 1) - 128) + g l (k + 2) - 128 ∧ ¬ (55296 ≤ 64 * (64 * (g l k - 224) + g l (k + 1) - 128) + g l (k + 2) - 128 ∧ 64 * (64 * (g l k - 224) + g l (k + 1) - 128) + g l (k + 2) - 128 ≤ 57343)
  · rw [if_pos hc, if_pos]
    refine ⟨hk, fun i hi h5 => ?_⟩
    rcases (by omega : i = 1 ∨ i = 2) with rfl | rfl
    · exact ⟨hc.1.1.1, hc.1.1.2, fun _ => ⟨by omega, by omega, by omega, by omega⟩⟩
    · exact ⟨hc.1.2.1, hc.1.2.2, fun e => absurd e (by decide)⟩
  · rw [if_neg hc, if_neg]
    rintro ⟨_, hh⟩
    obtain ⟨q1, q2, q3⟩ := hh 1 (by omega) (by omega)
    obtain ⟨q4, q5, _⟩ := hh 2 (by omega) (by omega)
    obtain ⟨q6, q7, _, _⟩ := q3 rfl
    exact hc ⟨⟨⟨q1, q2⟩, ⟨q4, q5⟩⟩, by omega, by omega⟩
theorem charN_four {l : List Int} {k : Nat} (h0 : 240 ≤ g l k) (h1 : g l k < 248) (hk : k + 4 ≤ l.length) :
    charN l k = if ((128 ≤ g l (k + 1) ∧ g l (k + 1) ≤ 191) ∧ (128 ≤ g l (k + 2) ∧ g l (k + 2) ≤ 191) ∧ (128 ≤ g l (k + 3) ∧ g l (k + 3) ≤ 191)) ∧ 65536 ≤ 64 * (64 * (64 * (g l k - 240) + g l (k + 1) - 128) + g l (k + 2) - 128) + g l (k + 3) - 128 ∧ 64 * (64 * (64 * (g l k - 240) + g l (k + 1) - 128) + g l (k + 2) - 128) + g l (k + 3) - 128 ≤ 1114111 then 4 else 0 := by
  by_cases h2 : 245 ≤ g l k
  · rw [charN_none (by unfold sz; rw [if_neg (by omega), if_neg (by omega), if_neg (by omega), if_neg (by omega), if_neg (by omega)]), if_neg (by omega)]
  · have hs : sz (g l k) = 4 := by unfold sz; rw [if_neg (by omega), if_neg (by omega), if_neg (by omega), if_neg (by omega), if_pos (by omega)]
    unfold charN
    rw [hs]
    by_cases hc : ((128 ≤ g l (k + 1) ∧ g l (k + 1) ≤ 191) ∧ (128 ≤ g l (k + 2) ∧ g l (k + 2) ≤ 191) ∧ (128 ≤ g l (k + 3) ∧ g l (k + 3) ≤ 191)) ∧ 65536 ≤ 64 * (64 * (64 * (g l k - 240) + g l (k + 1) - 128) + g l (k + 2) - 128) + g l (k + 3) - 128 ∧ 64 * (64 * (64 * (g l k - 240) + g l (k + 1) - 128) + g l (k + 2) - 128) + g l (k + 3) - 128 ≤ 1114111
    · rw [if_pos hc, if_pos]
      refine ⟨hk, fun i hi h5 => ?_⟩
      rcases (by omega : i = 1 ∨ i = 2 ∨ i = 3) with rfl | rfl | rfl
      · exact ⟨hc.1.1.1, hc.1.1.2, fun _ => ⟨by omega, by omega, by omega, by omega⟩⟩
      · exact ⟨hc.1.2.1.1, hc.1.2.1.2, fun e => absurd e (by decide)⟩
      · exact ⟨hc.1.2.2.1, hc.1.2.2.2, fun e => absurd e (by decide)⟩
    · rw [if_neg hc, if_neg]
      rintro ⟨_, hh⟩
      obtain ⟨q1, q2, q3⟩ := hh 1 (by omega) (by omega)
      obtain ⟨q4, q5, _⟩ := hh 2 (by omega) (by omega)
      obtain ⟨q8, q9, _⟩ := hh 3 (by omega) (by omega)
      obtain ⟨_, _, q6, q7⟩ := q3 rfl
      exact hc ⟨⟨⟨q1, q2⟩, ⟨q4, q5⟩, ⟨q8, q9⟩⟩, by omega, by omega⟩
theorem charN_outs {l : List Int} {k : Nat} (h0 : 192 ≤ g l k) (h : ¬ k + (if g l k < 224 then 2 else if g l k < 240 then 3 else 4) ≤ l.length) : charN l k = 0 := by
  by_cases hs : sz (g l k) = 0
  · exact charN_none hs
  · refine charN_out ?_
    unfold sz at *
    split at h
    · rw [if_neg (by omega), if_neg (by intro h2; rw [if_neg (by omega), if_pos h2] at hs; exact hs rfl), if_pos (by omega)]; omega
    · split at h
      · rw [if_neg (by omega), if_neg (by omega), if_neg (by omega), if_pos (by omega)]; omega
      · rw [if_neg (by omega), if_neg (by omega), if_neg (by omega), if_neg (by omega)] at hs ⊢
        by_cases h5 : g l k < 245
        · rw [if_pos h5]; omega
        · rw [if_neg h5] at hs; exact absurd rfl hs
set_option maxHeartbeats 8000000 in
theorem refChar_any (s : ByteArray) (k : Nat) (hs : s.size ≤ 1000000) (hk : k < s.size) (w : World) :
    Calls Try.prog 20 #[.string s, .int .i64 (k : Int)] w fun e w' => e = .returned (.int .i64 (charN (bl s) k : Int)) ∧ w' = w := by
  have hki : (k : Int) < (s.size : Int) := by omega
  have ga := get_bt s k hk
  have a0 := bt_nonneg s k
  have a1 := bt_le s k
  have ha : g (bl s) k = bt s k := (bt_g s k).symm
  have hl : (bl s).length = s.size := bl_length s
  by_cases hc1 : bt s k < 128
  · have HF : Hid (charN (bl s) k = 1) := Lib.hid (charN_one (by omega) (by omega))
    generalize charN (bl s) k = R at *
    generalize bt s k = a at *
    have HR : Hid ((1 : Int) = (R : Int)) := Lib.hid (by rw [HF.out]; rfl)
    clear HF
    clear hl ha
    go_enter Try.func20, Try.ntmps20
    go_wp2
    go_returns
    exact ⟨rets1 (congrArg (Value.int .i64) HR.out), rfl⟩
  · by_cases hc2 : bt s k < 192
    · have HF : Hid (charN (bl s) k = 0) := Lib.hid (charN_none (by unfold sz; rw [ha, if_neg hc1, if_pos (by omega)]))
      generalize charN (bl s) k = R at *
      generalize bt s k = a at *
      have HR : Hid ((0 : Int) = (R : Int)) := Lib.hid (by rw [HF.out]; rfl)
      clear HF
      clear hl ha
      go_enter Try.func20, Try.ntmps20
      go_wp2
      go_returns
      exact ⟨rets1 (congrArg (Value.int .i64) HR.out), rfl⟩
    · by_cases hc5 : 248 ≤ bt s k
      · have HF : Hid (charN (bl s) k = 0) := Lib.hid (charN_none (by unfold sz; rw [ha, if_neg hc1, if_neg (by omega), if_neg (by omega), if_neg (by omega), if_neg (by omega)]))
        generalize charN (bl s) k = R at *
        generalize bt s k = a at *
        have HR : Hid ((0 : Int) = (R : Int)) := Lib.hid (by rw [HF.out]; rfl)
        clear HF
        clear hl ha
        go_enter Try.func20, Try.ntmps20
        go_wp2
        go_returns
        exact ⟨rets1 (congrArg (Value.int .i64) HR.out), rfl⟩
      · by_cases hc3 : bt s k < 224
        · skip
          have hout0 : ¬ k + 2 ≤ s.size → charN (bl s) k = 0 := fun h => charN_outs (by omega) (by rw [ha, if_pos (by omega), hl]; omega)
          by_cases hout : k + 2 ≤ s.size
          · have HF := Lib.hid (charN_two (l := bl s) (k := k) (by omega) (by omega) (by omega))
            clear hout0
            rw [ha] at HF
            have hb1 : k + 1 < s.size := by omega
            have g1 := get_bt s (k + 1) hb1
            have x1 := bt_nonneg s (k + 1)
            have y1 := bt_le s (k + 1)
            have hi1 : (k : Int) + 1 < (s.size : Int) := by omega
            have hn1 : ((k : Int) + 1).toNat = k + 1 := by omega
            rw [← bt_g s (k + 1)] at HF
            generalize charN (bl s) k = R at *
            generalize bt s k = a at *
            generalize bt s (k + 1) = b1 at *
            have hz : ¬ (s.size : Int) < (k : Int) + 2 := by omega
            clear hl ha hout
            go_enter Try.func20, Try.ntmps20
            go_wp2
            go_loopw [7, 8] (fun nv iv wr => ∃ (j : Nat) (n : Int), iv = .int .i64 (j : Int) ∧ nv = .int .i64 n ∧ wr = w ∧ Hid ((j = 1 ∧ n = a - 192) ∨ (j = 2 ∧ n = 64 * (a - 192) + b1 - 128 ∧ 128 ≤ b1 ∧ b1 ≤ 191))) (fun _ iv _ => 2 - (intOf iv).toNat)
            case atStart => exact ⟨1, a - 192, rfl, rfl, rfl, Lib.hid (.inl ⟨rfl, rfl⟩)⟩
            case round =>
              obtain ⟨j, n, rfl, rfl, rfl, HK⟩ := hrel
              rcases HK.out with ⟨rfl, hn⟩ | ⟨rfl, hn, p1, q1⟩
              · have n0 : 0 ≤ n ∧ n ≤ 31 := by omega
                obtain ⟨n0, n1⟩ := n0
                clear HK
                by_cases t1 : b1 < 128
                · have HR : Hid ((0 : Int) = (R : Int)) := Lib.hid (by rw [HF.out, if_neg (by omega)]; rfl)
                  clear HF hn
                  go_wp2
                  go_returns
                  exact ⟨rets1 (congrArg (Value.int .i64) HR.out), rfl⟩
                · by_cases t2 : 191 < b1
                  · have HR : Hid ((0 : Int) = (R : Int)) := Lib.hid (by rw [HF.out, if_neg (by omega)]; rfl)
                    clear HF hn
                    go_wp2
                    go_returns
                    exact ⟨rets1 (congrArg (Value.int .i64) HR.out), rfl⟩
                  · have HN := Lib.hid hn
                    clear hn
                    go_wp2
                    go_roundw
                    case rel => exact ⟨2, 64 * n + b1 - 128, rfl, rfl, trivial, Lib.hid (.inr (⟨rfl, by rw [HN.out], by omega, by omega⟩))⟩
                    case measure => simp [intOf]
              · have n0 : 0 ≤ n ∧ n ≤ 2047 := by omega
                obtain ⟨n0, n1⟩ := n0
                clear HK
                by_cases u0 : n < 128
                · have HR : Hid ((0 : Int) = (R : Int)) := Lib.hid (by rw [HF.out, if_neg (by omega)]; rfl)
                  clear HF hn
                  go_wp2
                  go_returns
                  exact ⟨rets1 (congrArg (Value.int .i64) HR.out), rfl⟩
                · have HR : Hid ((2 : Int) = (R : Int)) := Lib.hid (by rw [HF.out, if_pos (by omega)]; rfl)
                  clear HF hn
                  go_wp2
                  go_returns
                  exact ⟨rets1 (congrArg (Value.int .i64) HR.out), rfl⟩
          · have HF : Hid (charN (bl s) k = 0) := Lib.hid (hout0 hout)
            clear hout0
            generalize charN (bl s) k = R at *
            generalize bt s k = a at *
            have hz : (s.size : Int) < (k : Int) + 2 := by omega
            have HR : Hid ((0 : Int) = (R : Int)) := Lib.hid (by rw [HF.out]; rfl)
            clear HF
            clear hl ha hout
            go_enter Try.func20, Try.ntmps20
            go_wp2
            go_returns
            exact ⟨rets1 (congrArg (Value.int .i64) HR.out), rfl⟩
        · by_cases hc4 : bt s k < 240
          · skip
            have hout0 : ¬ k + 3 ≤ s.size → charN (bl s) k = 0 := fun h => charN_outs (by omega) (by rw [ha, if_neg (by omega), if_pos (by omega), hl]; omega)
            by_cases hout : k + 3 ≤ s.size
            · have HF := Lib.hid (charN_three (l := bl s) (k := k) (by omega) (by omega) (by omega))
              clear hout0
              rw [ha] at HF
              have hb1 : k + 1 < s.size := by omega
              have g1 := get_bt s (k + 1) hb1
              have x1 := bt_nonneg s (k + 1)
              have y1 := bt_le s (k + 1)
              have hi1 : (k : Int) + 1 < (s.size : Int) := by omega
              have hn1 : ((k : Int) + 1).toNat = k + 1 := by omega
              rw [← bt_g s (k + 1)] at HF
              have hb2 : k + 2 < s.size := by omega
              have g2 := get_bt s (k + 2) hb2
              have x2 := bt_nonneg s (k + 2)
              have y2 := bt_le s (k + 2)
              have hi2 : (k : Int) + 2 < (s.size : Int) := by omega
              have hn2 : ((k : Int) + 2).toNat = k + 2 := by omega
              rw [← bt_g s (k + 2)] at HF
              generalize charN (bl s) k = R at *
              generalize bt s k = a at *
              generalize bt s (k + 1) = b1 at *
              generalize bt s (k + 2) = b2 at *
              have hz : ¬ (s.size : Int) < (k : Int) + 3 := by omega
              clear hl ha hout
              go_enter Try.func20, Try.ntmps20
              go_wp2
              go_loopw [7, 8] (fun nv iv wr => ∃ (j : Nat) (n : Int), iv = .int .i64 (j : Int) ∧ nv = .int .i64 n ∧ wr = w ∧ Hid ((j = 1 ∧ n = a - 224) ∨ (j = 2 ∧ n = 64 * (a - 224) + b1 - 128 ∧ 128 ≤ b1 ∧ b1 ≤ 191) ∨ (j = 3 ∧ n = 64 * (64 * (a - 224) + b1 - 128) + b2 - 128 ∧ 128 ≤ b1 ∧ b1 ≤ 191 ∧ 128 ≤ b2 ∧ b2 ≤ 191))) (fun _ iv _ => 3 - (intOf iv).toNat)
              case atStart => exact ⟨1, a - 224, rfl, rfl, rfl, Lib.hid (.inl ⟨rfl, rfl⟩)⟩
              case round =>
                obtain ⟨j, n, rfl, rfl, rfl, HK⟩ := hrel
                rcases HK.out with ⟨rfl, hn⟩ | ⟨rfl, hn, p1, q1⟩ | ⟨rfl, hn, p1, q1, p2, q2⟩
                · have n0 : 0 ≤ n ∧ n ≤ 31 := by omega
                  obtain ⟨n0, n1⟩ := n0
                  clear HK
                  by_cases t1 : b1 < 128
                  · have HR : Hid ((0 : Int) = (R : Int)) := Lib.hid (by rw [HF.out, if_neg (by omega)]; rfl)
                    clear HF hn
                    go_wp2
                    go_returns
                    exact ⟨rets1 (congrArg (Value.int .i64) HR.out), rfl⟩
                  · by_cases t2 : 191 < b1
                    · have HR : Hid ((0 : Int) = (R : Int)) := Lib.hid (by rw [HF.out, if_neg (by omega)]; rfl)
                      clear HF hn
                      go_wp2
                      go_returns
                      exact ⟨rets1 (congrArg (Value.int .i64) HR.out), rfl⟩
                    · have HN := Lib.hid hn
                      clear hn
                      go_wp2
                      go_roundw
                      case rel => exact ⟨2, 64 * n + b1 - 128, rfl, rfl, trivial, Lib.hid (.inr (.inl ⟨rfl, by rw [HN.out], by omega, by omega⟩))⟩
                      case measure => simp [intOf]
                · have n0 : 0 ≤ n ∧ n ≤ 2047 := by omega
                  obtain ⟨n0, n1⟩ := n0
                  clear HK
                  by_cases t1 : b2 < 128
                  · have HR : Hid ((0 : Int) = (R : Int)) := Lib.hid (by rw [HF.out, if_neg (by omega)]; rfl)
                    clear HF hn
                    go_wp2
                    go_returns
                    exact ⟨rets1 (congrArg (Value.int .i64) HR.out), rfl⟩
                  · by_cases t2 : 191 < b2
                    · have HR : Hid ((0 : Int) = (R : Int)) := Lib.hid (by rw [HF.out, if_neg (by omega)]; rfl)
                      clear HF hn
                      go_wp2
                      go_returns
                      exact ⟨rets1 (congrArg (Value.int .i64) HR.out), rfl⟩
                    · have HN := Lib.hid hn
                      clear hn
                      go_wp2
                      go_roundw
                      case rel => exact ⟨3, 64 * n + b2 - 128, rfl, rfl, trivial, Lib.hid (.inr (.inr (⟨rfl, by rw [HN.out], by omega, by omega, by omega, by omega⟩)))⟩
                      case measure => simp [intOf]
                · have n0 : 0 ≤ n ∧ n ≤ 65535 := by omega
                  obtain ⟨n0, n1⟩ := n0
                  clear HK
                  by_cases u0 : n < 2048
                  · have HR : Hid ((0 : Int) = (R : Int)) := Lib.hid (by rw [HF.out, if_neg (by omega)]; rfl)
                    clear HF hn
                    go_wp2
                    go_returns
                    exact ⟨rets1 (congrArg (Value.int .i64) HR.out), rfl⟩
                  · by_cases u1 : n < 55296
                    · have HR : Hid ((3 : Int) = (R : Int)) := Lib.hid (by rw [HF.out, if_pos (by omega)]; rfl)
                      clear HF hn
                      go_wp2
                      go_returns
                      exact ⟨rets1 (congrArg (Value.int .i64) HR.out), rfl⟩
                    · by_cases u2 : 57343 < n
                      · have HR : Hid ((3 : Int) = (R : Int)) := Lib.hid (by rw [HF.out, if_pos (by omega)]; rfl)
                        clear HF hn
                        go_wp2
                        go_returns
                        exact ⟨rets1 (congrArg (Value.int .i64) HR.out), rfl⟩
                      · have HR : Hid ((0 : Int) = (R : Int)) := Lib.hid (by rw [HF.out, if_neg (by omega)]; rfl)
                        clear HF hn
                        go_wp2
                        go_returns
                        exact ⟨rets1 (congrArg (Value.int .i64) HR.out), rfl⟩
            · have HF : Hid (charN (bl s) k = 0) := Lib.hid (hout0 hout)
              clear hout0
              generalize charN (bl s) k = R at *
              generalize bt s k = a at *
              have hz : (s.size : Int) < (k : Int) + 3 := by omega
              have HR : Hid ((0 : Int) = (R : Int)) := Lib.hid (by rw [HF.out]; rfl)
              clear HF
              clear hl ha hout
              go_enter Try.func20, Try.ntmps20
              go_wp2
              go_returns
              exact ⟨rets1 (congrArg (Value.int .i64) HR.out), rfl⟩
          · skip
            have hout0 : ¬ k + 4 ≤ s.size → charN (bl s) k = 0 := fun h => charN_outs (by omega) (by rw [ha, if_neg (by omega), if_neg (by omega), hl]; omega)
            by_cases hout : k + 4 ≤ s.size
            · have HF := Lib.hid (charN_four (l := bl s) (k := k) (by omega) (by omega) (by omega))
              clear hout0
              rw [ha] at HF
              have hb1 : k + 1 < s.size := by omega
              have g1 := get_bt s (k + 1) hb1
              have x1 := bt_nonneg s (k + 1)
              have y1 := bt_le s (k + 1)
              have hi1 : (k : Int) + 1 < (s.size : Int) := by omega
              have hn1 : ((k : Int) + 1).toNat = k + 1 := by omega
              rw [← bt_g s (k + 1)] at HF
              have hb2 : k + 2 < s.size := by omega
              have g2 := get_bt s (k + 2) hb2
              have x2 := bt_nonneg s (k + 2)
              have y2 := bt_le s (k + 2)
              have hi2 : (k : Int) + 2 < (s.size : Int) := by omega
              have hn2 : ((k : Int) + 2).toNat = k + 2 := by omega
              rw [← bt_g s (k + 2)] at HF
              have hb3 : k + 3 < s.size := by omega
              have g3 := get_bt s (k + 3) hb3
              have x3 := bt_nonneg s (k + 3)
              have y3 := bt_le s (k + 3)
              have hi3 : (k : Int) + 3 < (s.size : Int) := by omega
              have hn3 : ((k : Int) + 3).toNat = k + 3 := by omega
              rw [← bt_g s (k + 3)] at HF
              generalize charN (bl s) k = R at *
              generalize bt s k = a at *
              generalize bt s (k + 1) = b1 at *
              generalize bt s (k + 2) = b2 at *
              generalize bt s (k + 3) = b3 at *
              have hz : ¬ (s.size : Int) < (k : Int) + 4 := by omega
              clear hl ha hout
              go_enter Try.func20, Try.ntmps20
              go_wp2
              go_loopw [7, 8] (fun nv iv wr => ∃ (j : Nat) (n : Int), iv = .int .i64 (j : Int) ∧ nv = .int .i64 n ∧ wr = w ∧ Hid ((j = 1 ∧ n = a - 240) ∨ (j = 2 ∧ n = 64 * (a - 240) + b1 - 128 ∧ 128 ≤ b1 ∧ b1 ≤ 191) ∨ (j = 3 ∧ n = 64 * (64 * (a - 240) + b1 - 128) + b2 - 128 ∧ 128 ≤ b1 ∧ b1 ≤ 191 ∧ 128 ≤ b2 ∧ b2 ≤ 191) ∨ (j = 4 ∧ n = 64 * (64 * (64 * (a - 240) + b1 - 128) + b2 - 128) + b3 - 128 ∧ 128 ≤ b1 ∧ b1 ≤ 191 ∧ 128 ≤ b2 ∧ b2 ≤ 191 ∧ 128 ≤ b3 ∧ b3 ≤ 191))) (fun _ iv _ => 4 - (intOf iv).toNat)
              case atStart => exact ⟨1, a - 240, rfl, rfl, rfl, Lib.hid (.inl ⟨rfl, rfl⟩)⟩
              case round =>
                obtain ⟨j, n, rfl, rfl, rfl, HK⟩ := hrel
                rcases HK.out with ⟨rfl, hn⟩ | ⟨rfl, hn, p1, q1⟩ | ⟨rfl, hn, p1, q1, p2, q2⟩ | ⟨rfl, hn, p1, q1, p2, q2, p3, q3⟩
                · have n0 : 0 ≤ n ∧ n ≤ 31 := by omega
                  obtain ⟨n0, n1⟩ := n0
                  clear HK
                  by_cases t1 : b1 < 128
                  · have HR : Hid ((0 : Int) = (R : Int)) := Lib.hid (by rw [HF.out, if_neg (by omega)]; rfl)
                    clear HF hn
                    go_wp2
                    go_returns
                    exact ⟨rets1 (congrArg (Value.int .i64) HR.out), rfl⟩
                  · by_cases t2 : 191 < b1
                    · have HR : Hid ((0 : Int) = (R : Int)) := Lib.hid (by rw [HF.out, if_neg (by omega)]; rfl)
                      clear HF hn
                      go_wp2
                      go_returns
                      exact ⟨rets1 (congrArg (Value.int .i64) HR.out), rfl⟩
                    · have HN := Lib.hid hn
                      clear hn
                      go_wp2
                      go_roundw
                      case rel => exact ⟨2, 64 * n + b1 - 128, rfl, rfl, trivial, Lib.hid (.inr (.inl ⟨rfl, by rw [HN.out], by omega, by omega⟩))⟩
                      case measure => simp [intOf]
                · have n0 : 0 ≤ n ∧ n ≤ 2047 := by omega
                  obtain ⟨n0, n1⟩ := n0
                  clear HK
                  by_cases t1 : b2 < 128
                  · have HR : Hid ((0 : Int) = (R : Int)) := Lib.hid (by rw [HF.out, if_neg (by omega)]; rfl)
                    clear HF hn
                    go_wp2
                    go_returns
                    exact ⟨rets1 (congrArg (Value.int .i64) HR.out), rfl⟩
                  · by_cases t2 : 191 < b2
                    · have HR : Hid ((0 : Int) = (R : Int)) := Lib.hid (by rw [HF.out, if_neg (by omega)]; rfl)
                      clear HF hn
                      go_wp2
                      go_returns
                      exact ⟨rets1 (congrArg (Value.int .i64) HR.out), rfl⟩
                    · have HN := Lib.hid hn
                      clear hn
                      go_wp2
                      go_roundw
                      case rel => exact ⟨3, 64 * n + b2 - 128, rfl, rfl, trivial, Lib.hid (.inr (.inr (.inl ⟨rfl, by rw [HN.out], by omega, by omega, by omega, by omega⟩)))⟩
                      case measure => simp [intOf]
                · have n0 : 0 ≤ n ∧ n ≤ 65535 := by omega
                  obtain ⟨n0, n1⟩ := n0
                  clear HK
                  by_cases t1 : b3 < 128
                  · have HR : Hid ((0 : Int) = (R : Int)) := Lib.hid (by rw [HF.out, if_neg (by omega)]; rfl)
                    clear HF hn
                    go_wp2
                    go_returns
                    exact ⟨rets1 (congrArg (Value.int .i64) HR.out), rfl⟩
                  · by_cases t2 : 191 < b3
                    · have HR : Hid ((0 : Int) = (R : Int)) := Lib.hid (by rw [HF.out, if_neg (by omega)]; rfl)
                      clear HF hn
                      go_wp2
                      go_returns
                      exact ⟨rets1 (congrArg (Value.int .i64) HR.out), rfl⟩
                    · have HN := Lib.hid hn
                      clear hn
                      go_wp2
                      go_roundw
                      case rel => exact ⟨4, 64 * n + b3 - 128, rfl, rfl, trivial, Lib.hid (.inr (.inr (.inr (⟨rfl, by rw [HN.out], by omega, by omega, by omega, by omega, by omega, by omega⟩))))⟩
                      case measure => simp [intOf]
                · have n0 : 0 ≤ n ∧ n ≤ 2097151 := by omega
                  obtain ⟨n0, n1⟩ := n0
                  clear HK
                  by_cases u0 : n < 65536
                  · have HR : Hid ((0 : Int) = (R : Int)) := Lib.hid (by rw [HF.out, if_neg (by omega)]; rfl)
                    clear HF hn
                    go_wp2
                    go_returns
                    exact ⟨rets1 (congrArg (Value.int .i64) HR.out), rfl⟩
                  · by_cases u1 : 1114111 < n
                    · have HR : Hid ((0 : Int) = (R : Int)) := Lib.hid (by rw [HF.out, if_neg (by omega)]; rfl)
                      clear HF hn
                      go_wp2
                      go_returns
                      exact ⟨rets1 (congrArg (Value.int .i64) HR.out), rfl⟩
                    · have HR : Hid ((4 : Int) = (R : Int)) := Lib.hid (by rw [HF.out, if_pos (by omega)]; rfl)
                      clear HF hn
                      go_wp2
                      go_returns
                      exact ⟨rets1 (congrArg (Value.int .i64) HR.out), rfl⟩
            · have HF : Hid (charN (bl s) k = 0) := Lib.hid (hout0 hout)
              clear hout0
              generalize charN (bl s) k = R at *
              generalize bt s k = a at *
              have hz : (s.size : Int) < (k : Int) + 4 := by omega
              have HR : Hid ((0 : Int) = (R : Int)) := Lib.hid (by rw [HF.out]; rfl)
              clear HF
              clear hl ha hout
              go_enter Try.func20, Try.ntmps20
              go_wp2
              go_returns
              exact ⟨rets1 (congrArg (Value.int .i64) HR.out), rfl⟩
end Go.Proofs.Ytlnggeggmchjcaa
