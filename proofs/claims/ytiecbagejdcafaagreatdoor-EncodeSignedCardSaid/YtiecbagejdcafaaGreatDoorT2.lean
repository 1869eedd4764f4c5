/- What the reference's char of strings gives. Of every text of at most a million bytes. -/
import Derived.Test.YtiecbagejdcafaaGreatDoorB0
import Derived.Test.YtiecbagejdcafaaGreatDoorP0
import Derived.Lib.Strings
import Derived.Laws.Cover1
import Derived.Handy
import Derived.Laws.BytesArg
namespace Go.Proofs.YtiecbagejdcafaaGreatDoor
open Go.RowKit Go.PlainAid
set_option linter.unusedVariables false
theorem charN_one {l : List Int} {k : Nat} (hk : k < l.length) (h : g l k < 128) : charN l k = 1 := by
 have hs : sz (g l k) = 1 := if_pos h
 unfold charN
 rw [hs, if_pos ⟨by omega, fun i hi h5 => by omega⟩]
theorem charN_none {l : List Int} {k : Nat} (h : sz (g l k) = 0) : charN l k = 0 := by
 unfold charN
 rw [h]
 split <;> rfl
theorem charN_out {l : List Int} {k : Nat} (h : ¬ k + sz (g l k) ≤ l.length) : charN l k = 0 := by
 unfold charN
 rw [if_neg (fun hh => h hh.1)]
theorem charN_two {l : List Int} {k : Nat} (h0 : 192 ≤ g l k) (h1 : g l k < 224) (hk : k + 2 ≤ l.length) :
  charN l k = if (128 ≤ g l (k + 1) ∧ g l (k + 1) ≤ 191) ∧ 128 ≤ 64 * (g l k - 192) + g l (k + 1) - 128 then 2 else 0 := by
 by_cases h2 : g l k < 194
 ·rw [charN_none (by unfold sz; rw [if_neg (by omega), if_pos h2]), if_neg (by omega)]
 ·have hs : sz (g l k) = 2 := by unfold sz; rw [if_neg (by omega), if_neg h2, if_pos (by omega)]
  unfold charN
  rw [hs]
  by_cases hc : (128 ≤ g l (k + 1) ∧ g l (k + 1) ≤ 191) ∧ 128 ≤ 64 * (g l k - 192) + g l (k + 1) - 128
  ·rw [if_pos hc, if_pos]
   refine ⟨hk, fun i hi h5 => ?_⟩
   obtain rfl : i = 1 := by omega
   exact ⟨hc.1.1, hc.1.2, fun _ => ⟨by omega, by omega, by omega, by omega⟩⟩
  ·rw [if_neg hc, if_neg]
   rintro ⟨_, hh⟩
   obtain ⟨q1, q2, _⟩ := hh 1 (by omega) (by omega)
   exact hc ⟨⟨q1, q2⟩, by omega⟩
theorem charN_three {l : List Int} {k : Nat} (h0 : 224 ≤ g l k) (h1 : g l k < 240) (hk : k + 3 ≤ l.length) :
  charN l k = if ((128 ≤ g l (k + 1) ∧ g l (k + 1) ≤ 191) ∧ (128 ≤ g l (k + 2) ∧ g l (k + 2) ≤ 191)) ∧ 2048 ≤ 64 * (64 * (g l k - 224) + g l (k + 1) - 128) + g l (k + 2) - 128 ∧ ¬ (55296 ≤ 64 * (64 * (g l k - 224) + g l (k + 1) - 128) + g l (k + 2) - 128 ∧ 64 * (64 * (g l k - 224) + g l (k + 1) - 128) + g l (k + 2) - 128 ≤ 57343) then 3 else 0 := by
 have hs : sz (g l k) = 3 := by unfold sz; rw [if_neg (by omega), if_neg (by omega), if_neg (by omega), if_pos (by omega)]
 unfold charN
 rw [hs]
 by_cases hc : ((128 ≤ g l (k + 1) ∧ g l (k + 1) ≤ 191) ∧ (128 ≤ g l (k + 2) ∧ g l (k + 2) ≤ 191)) ∧ 2048 ≤ 64 * (64 * (g l k - 224) + g l (k + 1) - 128) + g l (k + 2) - 128 ∧ ¬ (55296 ≤ 64 * (64 * (g l k - 224) + g l (k + 1) - 128) + g l (k + 2) - 128 ∧ 64 * (64 * (g l k - 224) + g l (k + 1) - 128) + g l (k + 2) - 128 ≤ 57343)
 ·rw [if_pos hc, if_pos]
  refine ⟨hk, fun i hi h5 => ?_⟩
  rcases (by omega : i = 1 ∨ i = 2) with rfl | rfl
  ·exact ⟨hc.1.1.1, hc.1.1.2, fun _ => ⟨by omega, by omega, by omega, by omega⟩⟩
  ·exact ⟨hc.1.2.1, hc.1.2.2, fun e => absurd e (by decide)⟩
 ·rw [if_neg hc, if_neg]
  rintro ⟨_, hh⟩
  obtain ⟨q1, q2, q3⟩ := hh 1 (by omega) (by omega)
  obtain ⟨q4, q5, _⟩ := hh 2 (by omega) (by omega)
  obtain ⟨q6, q7, _, _⟩ := q3 rfl
  exact hc ⟨⟨⟨q1, q2⟩, ⟨q4, q5⟩⟩, by omega, by omega⟩
theorem charN_four {l : List Int} {k : Nat} (h0 : 240 ≤ g l k) (h1 : g l k < 248) (hk : k + 4 ≤ l.length) :
  charN l k = if ((128 ≤ g l (k + 1) ∧ g l (k + 1) ≤ 191) ∧ (128 ≤ g l (k + 2) ∧ g l (k + 2) ≤ 191) ∧ (128 ≤ g l (k + 3) ∧ g l (k + 3) ≤ 191)) ∧ 65536 ≤ 64 * (64 * (64 * (g l k - 240) + g l (k + 1) - 128) + g l (k + 2) - 128) + g l (k + 3) - 128 ∧ 64 * (64 * (64 * (g l k - 240) + g l (k + 1) - 128) + g l (k + 2) - 128) + g l (k + 3) - 128 ≤ 1114111 then 4 else 0 := by
 by_cases h2 : 245 ≤ g l k
 ·rw [charN_none (by unfold sz; rw [if_neg (by omega), if_neg (by omega), if_neg (by omega), if_neg (by omega), if_neg (by omega)]), if_neg (by omega)]
 ·have hs : sz (g l k) = 4 := by unfold sz; rw [if_neg (by omega), if_neg (by omega), if_neg (by omega), if_neg (by omega), if_pos (by omega)]
  unfold charN
  rw [hs]
  by_cases hc : ((128 ≤ g l (k + 1) ∧ g l (k + 1) ≤ 191) ∧ (128 ≤ g l (k + 2) ∧ g l (k + 2) ≤ 191) ∧ (128 ≤ g l (k + 3) ∧ g l (k + 3) ≤ 191)) ∧ 65536 ≤ 64 * (64 * (64 * (g l k - 240) + g l (k + 1) - 128) + g l (k + 2) - 128) + g l (k + 3) - 128 ∧ 64 * (64 * (64 * (g l k - 240) + g l (k + 1) - 128) + g l (k + 2) - 128) + g l (k + 3) - 128 ≤ 1114111
  ·rw [if_pos hc, if_pos]
   refine ⟨hk, fun i hi h5 => ?_⟩
   rcases (by omega : i = 1 ∨ i = 2 ∨ i = 3) with rfl | rfl | rfl
   ·exact ⟨hc.1.1.1, hc.1.1.2, fun _ => ⟨by omega, by omega, by omega, by omega⟩⟩
   ·exact ⟨hc.1.2.1.1, hc.1.2.1.2, fun e => absurd e (by decide)⟩
   ·exact ⟨hc.1.2.2.1, hc.1.2.2.2, fun e => absurd e (by decide)⟩
  ·rw [if_neg hc, if_neg]
   rintro ⟨_, hh⟩
   obtain ⟨q1, q2, q3⟩ := hh 1 (by omega) (by omega)
   obtain ⟨q4, q5, _⟩ := hh 2 (by omega) (by omega)
   obtain ⟨q8, q9, _⟩ := hh 3 (by omega) (by omega)
   obtain ⟨_, _, q6, q7⟩ := q3 rfl
   exact hc ⟨⟨⟨q1, q2⟩, ⟨q4, q5⟩, ⟨q8, q9⟩⟩, by omega, by omega⟩
theorem charN_outs {l : List Int} {k : Nat} (h0 : 192 ≤ g l k) (h : ¬ k + (if g l k < 224 then 2 else if g l k < 240 then 3 else 4) ≤ l.length) : charN l k = 0 := by
 by_cases hs : sz (g l k) = 0
 ·exact charN_none hs
 ·refine charN_out ?_
  unfold sz at *
  split at h
  ·rw [if_neg (by omega), if_neg (by intro h2; rw [if_neg (by omega), if_pos h2] at hs; exact hs rfl), if_pos (by omega)]; omega
  ·split at h
   ·rw [if_neg (by omega), if_neg (by omega), if_neg (by omega), if_pos (by omega)]; omega
   ·rw [if_neg (by omega), if_neg (by omega), if_neg (by omega), if_neg (by omega)] at hs ⊢
    by_cases h5 : g l k < 245
    ·rw [if_pos h5]; omega
    ·rw [if_neg h5] at hs; exact absurd rfl hs
set_option maxHeartbeats 8000000 in
theorem refChar_any (s : ByteArray) (k : Nat) (hs : s.size ≤ 1000000) (hk : k < s.size) (w : World) :
  Calls Tryz.prog 90 #[.string s, .int .i64 (k : Int)] w fun e w' => e = .returned (.int .i64 (charN (bl s) k : Int)) ∧ w' = w := by
 have hki : (k : Int) < (s.size : Int) := by omega
 have ga := get_bt s k hk
 have a0 := bt_nonneg s k
 have a1 := bt_le s k
 have ha : g (bl s) k = bt s k := (bt_g s k).symm
 have hl : (bl s).length = s.size := bl_length s
 by_cases hc1 : bt s k < 128
 ·have HF : Hid (charN (bl s) k = 1) := Lib.hid (charN_one (by omega) (by omega))
  generalize charN (bl s) k = R at *
  generalize bt s k = a at *
  have HR : Hid ((1 : Int) = (R : Int)) := Lib.hid (by rw [HF.out]; rfl)
  clear HF
  clear hl ha
  go_enter Tryz.func90, Tryz.ntmps90
  go_wp2
  go_returns
  exact ⟨rets1 (congrArg (Value.int .i64) HR.out), rfl⟩
 ·by_cases hc2 : bt s k < 192
  ·have HF : Hid (charN (bl s) k = 0) := Lib.hid (charN_none (by unfold sz; rw [ha, if_neg hc1, if_pos (by omega)]))
   generalize charN (bl s) k = R at *
   generalize bt s k = a at *
   have HR : Hid ((0 : Int) = (R : Int)) := Lib.hid (by rw [HF.out]; rfl)
   clear HF
   clear hl ha
   go_enter Tryz.func90, Tryz.ntmps90
   go_wp2
   go_returns
   exact ⟨rets1 (congrArg (Value.int .i64) HR.out), rfl⟩
  ·by_cases hc5 : 248 ≤ bt s k
   ·have HF : Hid (charN (bl s) k = 0) := Lib.hid (charN_none (by unfold sz; rw [ha, if_neg hc1, if_neg (by omega), if_neg (by omega), if_neg (by omega), if_neg (by omega)]))
    generalize charN (bl s) k = R at *
    generalize bt s k = a at *
    have HR : Hid ((0 : Int) = (R : Int)) := Lib.hid (by rw [HF.out]; rfl)
    clear HF
    clear hl ha
    go_enter Tryz.func90, Tryz.ntmps90
    go_wp2
    go_returns
    exact ⟨rets1 (congrArg (Value.int .i64) HR.out), rfl⟩
   ·by_cases hc3 : bt s k < 224
    ·skip
     have hout0 : ¬ k + 2 ≤ s.size → charN (bl s) k = 0 := fun h => charN_outs (by omega) (by rw [ha, if_pos (by omega), hl]; omega)
     by_cases hout : k + 2 ≤ s.size
     ·have HF := Lib.hid (charN_two (l := bl s) (k := k) (by omega) (by omega) (by omega))
      clear hout0
      rw [ha] at HF
      have hb1 : k + 1 < s.size := by omega
      have g1 := get_bt s (k + 1) hb1
      have x1 := bt_nonneg s (k + 1)
      have y1 := bt_le s (k + 1)
      have hi1 : (k : Int) + 1 < (s.size : Int) := by omega
      have hn1 : ((k : Int) + 1).toNat = k + 1 := by omega
      rw [← bt_g s (k + 1)] at HF
      generalize charN (bl s) k = R at *
      generalize bt s k = a at *
      generalize bt s (k + 1) = b1 at *
      have hz : ¬ (s.size : Int) < (k : Int) + 2 := by omega
      clear hl ha hout
      go_enter Tryz.func90, Tryz.ntmps90
      go_wp2
      go_loopw [7, 8] (fun nv iv wr => ∃ (j : Nat) (n : Int), iv = .int .i64 (j : Int) ∧ nv = .int .i64 n ∧ wr = w ∧ Hid ((j = 1 ∧ n = a - 192) ∨ (j = 2 ∧ n = 64 * (a - 192) + b1 - 128 ∧ 128 ≤ b1 ∧ b1 ≤ 191))) (fun _ iv _ => 2 - (intOf iv).toNat)
      case atStart => exact ⟨1, a - 192, rfl, rfl, rfl, Lib.hid (.inl ⟨rfl, rfl⟩)⟩
      case round =>
       obtain ⟨j, n, rfl, rfl, rfl, HK⟩ := hrel
       rcases HK.out with ⟨rfl, hn⟩ | ⟨rfl, hn, p1, q1⟩
       ·have n0 : 0 ≤ n ∧ n ≤ 31 := by omega
        obtain ⟨n0, n1⟩ := n0
        clear HK
        by_cases t1 : b1 < 128
        ·have HR : Hid ((0 : Int) = (R : Int)) := Lib.hid (by rw [HF.out, if_neg (by omega)]; rfl)
         clear HF hn
         go_wp2
         go_returns
         exact ⟨rets1 (congrArg (Value.int .i64) HR.out), rfl⟩
        ·by_cases t2 : 191 < b1
         ·have HR : Hid ((0 : Int) = (R : Int)) := Lib.hid (by rw [HF.out, if_neg (by omega)]; rfl)
          clear HF hn
          go_wp2
          go_returns
          exact ⟨rets1 (congrArg (Value.int .i64) HR.out), rfl⟩
         ·have HN := Lib.hid hn
          clear hn
          go_wp2
          go_roundw
          case rel => exact ⟨2, 64 * n + b1 - 128, rfl, rfl, trivial, Lib.hid (.inr (⟨rfl, by rw [HN.out], by omega, by omega⟩))⟩
          case measure => simp [intOf]
       ·have n0 : 0 ≤ n ∧ n ≤ 2047 := by omega
        obtain ⟨n0, n1⟩ := n0
        clear HK
        by_cases u0 : n < 128
        ·have HR : Hid ((0 : Int) = (R : Int)) := Lib.hid (by rw [HF.out, if_neg (by omega)]; rfl)
         clear HF hn
         go_wp2
         go_returns
         exact ⟨rets1 (congrArg (Value.int .i64) HR.out), rfl⟩
        ·have HR : Hid ((2 : Int) = (R : Int)) := Lib.hid (by rw [HF.out, if_pos (by omega)]; rfl)
         clear HF hn
         go_wp2
         go_returns
         exact ⟨rets1 (congrArg (Value.int .i64) HR.out), rfl⟩
     ·have HF : Hid (charN (bl s) k = 0) := Lib.hid (hout0 hout)
      clear hout0
      generalize charN (bl s) k = R at *
      generalize bt s k = a at *
      have hz : (s.size : Int) < (k : Int) + 2 := by omega
      have HR : Hid ((0 : Int) = (R : Int)) := Lib.hid (by rw [HF.out]; rfl)
      clear HF
      clear hl ha hout
      go_enter Tryz.func90, Tryz.ntmps90
      go_wp2
      go_returns
      exact ⟨rets1 (congrArg (Value.int .i64) HR.out), rfl⟩
    ·by_cases hc4 : bt s k < 240
     ·skip
      have hout0 : ¬ k + 3 ≤ s.size → charN (bl s) k = 0 := fun h => charN_outs (by omega) (by rw [ha, if_neg (by omega), if_pos (by omega), hl]; omega)
      by_cases hout : k + 3 ≤ s.size
      ·have HF := Lib.hid (charN_three (l := bl s) (k := k) (by omega) (by omega) (by omega))
       clear hout0
       rw [ha] at HF
       have hb1 : k + 1 < s.size := by omega
       have g1 := get_bt s (k + 1) hb1
       have x1 := bt_nonneg s (k + 1)
       have y1 := bt_le s (k + 1)
       have hi1 : (k : Int) + 1 < (s.size : Int) := by omega
       have hn1 : ((k : Int) + 1).toNat = k + 1 := by omega
       rw [← bt_g s (k + 1)] at HF
       have hb2 : k + 2 < s.size := by omega
       have g2 := get_bt s (k + 2) hb2
       have x2 := bt_nonneg s (k + 2)
       have y2 := bt_le s (k + 2)
       have hi2 : (k : Int) + 2 < (s.size : Int) := by omega
       have hn2 : ((k : Int) + 2).toNat = k + 2 := by omega
       rw [← bt_g s (k + 2)] at HF
       generalize charN (bl s) k = R at *
       generalize bt s k = a at *
       generalize bt s (k + 1) = b1 at *
       generalize bt s (k + 2) = b2 at *
       have hz : ¬ (s.size : Int) < (k : Int) + 3 := by omega
       clear hl ha hout
       go_enter Tryz.func90, Tryz.ntmps90
       go_wp2
       go_loopw [7, 8] (fun nv iv wr => ∃ (j : Nat) (n : Int), iv = .int .i64 (j : Int) ∧ nv = .int .i64 n ∧ wr = w ∧ Hid ((j = 1 ∧ n = a - 224) ∨ (j = 2 ∧ n = 64 * (a - 224) + b1 - 128 ∧ 128 ≤ b1 ∧ b1 ≤ 191) ∨ (j = 3 ∧ n = 64 * (64 * (a - 224) + b1 - 128) + b2 - 128 ∧ 128 ≤ b1 ∧ b1 ≤ 191 ∧ 128 ≤ b2 ∧ b2 ≤ 191))) (fun _ iv _ => 3 - (intOf iv).toNat)
       case atStart => exact ⟨1, a - 224, rfl, rfl, rfl, Lib.hid (.inl ⟨rfl, rfl⟩)⟩
       case round =>
        obtain ⟨j, n, rfl, rfl, rfl, HK⟩ := hrel
        rcases HK.out with ⟨rfl, hn⟩ | ⟨rfl, hn, p1, q1⟩ | ⟨rfl, hn, p1, q1, p2, q2⟩
        ·have n0 : 0 ≤ n ∧ n ≤ 31 := by omega
         obtain ⟨n0, n1⟩ := n0
         clear HK
         by_cases t1 : b1 < 128
         ·have HR : Hid ((0 : Int) = (R : Int)) := Lib.hid (by rw [HF.out, if_neg (by omega)]; rfl)
          clear HF hn
          go_wp2
          go_returns
          exact ⟨rets1 (congrArg (Value.int .i64) HR.out), rfl⟩
         ·by_cases t2 : 191 < b1
          ·have HR : Hid ((0 : Int) = (R : Int)) := Lib.hid (by rw [HF.out, if_neg (by omega)]; rfl)
           clear HF hn
           go_wp2
           go_returns
           exact ⟨rets1 (congrArg (Value.int .i64) HR.out), rfl⟩
          ·have HN := Lib.hid hn
           clear hn
           go_wp2
           go_roundw
           case rel => exact ⟨2, 64 * n + b1 - 128, rfl, rfl, trivial, Lib.hid (.inr (.inl ⟨rfl, by rw [HN.out], by omega, by omega⟩))⟩
           case measure => simp [intOf]
        ·have n0 : 0 ≤ n ∧ n ≤ 2047 := by omega
         obtain ⟨n0, n1⟩ := n0
         clear HK
         by_cases t1 : b2 < 128
         ·have HR : Hid ((0 : Int) = (R : Int)) := Lib.hid (by rw [HF.out, if_neg (by omega)]; rfl)
          clear HF hn
          go_wp2
          go_returns
          exact ⟨rets1 (congrArg (Value.int .i64) HR.out), rfl⟩
         ·by_cases t2 : 191 < b2
          ·have HR : Hid ((0 : Int) = (R : Int)) := Lib.hid (by rw [HF.out, if_neg (by omega)]; rfl)
           clear HF hn
           go_wp2
           go_returns
           exact ⟨rets1 (congrArg (Value.int .i64) HR.out), rfl⟩
          ·have HN := Lib.hid hn
           clear hn
           go_wp2
           go_roundw
           case rel => exact ⟨3, 64 * n + b2 - 128, rfl, rfl, trivial, Lib.hid (.inr (.inr (⟨rfl, by rw [HN.out], by omega, by omega, by omega, by omega⟩)))⟩
           case measure => simp [intOf]
        ·have n0 : 0 ≤ n ∧ n ≤ 65535 := by omega
         obtain ⟨n0, n1⟩ := n0
         clear HK
         by_cases u0 : n < 2048
         ·have HR : Hid ((0 : Int) = (R : Int)) := Lib.hid (by rw [HF.out, if_neg (by omega)]; rfl)
          clear HF hn
          go_wp2
          go_returns
          exact ⟨rets1 (congrArg (Value.int .i64) HR.out), rfl⟩
         ·by_cases u1 : n < 55296
          ·have HR : Hid ((3 : Int) = (R : Int)) := Lib.hid (by rw [HF.out, if_pos (by omega)]; rfl)
           clear HF hn
           go_wp2
           go_returns
           exact ⟨rets1 (congrArg (Value.int .i64) HR.out), rfl⟩
          ·by_cases u2 : 57343 < n
           ·have HR : Hid ((3 : Int) = (R : Int)) := Lib.hid (by rw [HF.out, if_pos (by omega)]; rfl)
            clear HF hn
            go_wp2
            go_returns
            exact ⟨rets1 (congrArg (Value.int .i64) HR.out), rfl⟩
           ·have HR : Hid ((0 : Int) = (R : Int)) := Lib.hid (by rw [HF.out, if_neg (by omega)]; rfl)
            clear HF hn
            go_wp2
            go_returns
            exact ⟨rets1 (congrArg (Value.int .i64) HR.out), rfl⟩
      ·have HF : Hid (charN (bl s) k = 0) := Lib.hid (hout0 hout)
       clear hout0
       generalize charN (bl s) k = R at *
       generalize bt s k = a at *
       have hz : (s.size : Int) < (k : Int) + 3 := by omega
       have HR : Hid ((0 : Int) = (R : Int)) := Lib.hid (by rw [HF.out]; rfl)
       clear HF
       clear hl ha hout
       go_enter Tryz.func90, Tryz.ntmps90
       go_wp2
       go_returns
       exact ⟨rets1 (congrArg (Value.int .i64) HR.out), rfl⟩
     ·skip
      have hout0 : ¬ k + 4 ≤ s.size → charN (bl s) k = 0 := fun h => charN_outs (by omega) (by rw [ha, if_neg (by omega), if_neg (by omega), hl]; omega)
      by_cases hout : k + 4 ≤ s.size
      ·have HF := Lib.hid (charN_four (l := bl s) (k := k) (by omega) (by omega) (by omega))
       clear hout0
       rw [ha] at HF
       have hb1 : k + 1 < s.size := by omega
       have g1 := get_bt s (k + 1) hb1
       have x1 := bt_nonneg s (k + 1)
       have y1 := bt_le s (k + 1)
       have hi1 : (k : Int) + 1 < (s.size : Int) := by omega
       have hn1 : ((k : Int) + 1).toNat = k + 1 := by omega
       rw [← bt_g s (k + 1)] at HF
       have hb2 : k + 2 < s.size := by omega
       have g2 := get_bt s (k + 2) hb2
       have x2 := bt_nonneg s (k + 2)
       have y2 := bt_le s (k + 2)
       have hi2 : (k : Int) + 2 < (s.size : Int) := by omega
       have hn2 : ((k : Int) + 2).toNat = k + 2 := by omega
       rw [← bt_g s (k + 2)] at HF
       have hb3 : k + 3 < s.size := by omega
       have g3 := get_bt s (k + 3) hb3
       have x3 := bt_nonneg s (k + 3)
       have y3 := bt_le s (k + 3)
       have hi3 : (k : Int) + 3 < (s.size : Int) := by omega
       have hn3 : ((k : Int) + 3).toNat = k + 3 := by omega
       rw [← bt_g s (k + 3)] at HF
       generalize charN (bl s) k = R at *
       generalize bt s k = a at *
       generalize bt s (k + 1) = b1 at *
       generalize bt s (k + 2) = b2 at *
       generalize bt s (k + 3) = b3 at *
       have hz : ¬ (s.size : Int) < (k : Int) + 4 := by omega
       clear hl ha hout
       go_enter Tryz.func90, Tryz.ntmps90
       go_wp2
       go_loopw [7, 8] (fun nv iv wr => ∃ (j : Nat) (n : Int), iv = .int .i64 (j : Int) ∧ nv = .int .i64 n ∧ wr = w ∧ Hid ((j = 1 ∧ n = a - 240) ∨ (j = 2 ∧ n = 64 * (a - 240) + b1 - 128 ∧ 128 ≤ b1 ∧ b1 ≤ 191) ∨ (j = 3 ∧ n = 64 * (64 * (a - 240) + b1 - 128) + b2 - 128 ∧ 128 ≤ b1 ∧ b1 ≤ 191 ∧ 128 ≤ b2 ∧ b2 ≤ 191) ∨ (j = 4 ∧ n = 64 * (64 * (64 * (a - 240) + b1 - 128) + b2 - 128) + b3 - 128 ∧ 128 ≤ b1 ∧ b1 ≤ 191 ∧ 128 ≤ b2 ∧ b2 ≤ 191 ∧ 128 ≤ b3 ∧ b3 ≤ 191))) (fun _ iv _ => 4 - (intOf iv).toNat)
       case atStart => exact ⟨1, a - 240, rfl, rfl, rfl, Lib.hid (.inl ⟨rfl, rfl⟩)⟩
       case round =>
        obtain ⟨j, n, rfl, rfl, rfl, HK⟩ := hrel
        rcases HK.out with ⟨rfl, hn⟩ | ⟨rfl, hn, p1, q1⟩ | ⟨rfl, hn, p1, q1, p2, q2⟩ | ⟨rfl, hn, p1, q1, p2, q2, p3, q3⟩
        ·have n0 : 0 ≤ n ∧ n ≤ 31 := by omega
         obtain ⟨n0, n1⟩ := n0
         clear HK
         by_cases t1 : b1 < 128
         ·have HR : Hid ((0 : Int) = (R : Int)) := Lib.hid (by rw [HF.out, if_neg (by omega)]; rfl)
          clear HF hn
          go_wp2
          go_returns
          exact ⟨rets1 (congrArg (Value.int .i64) HR.out), rfl⟩
         ·by_cases t2 : 191 < b1
          ·have HR : Hid ((0 : Int) = (R : Int)) := Lib.hid (by rw [HF.out, if_neg (by omega)]; rfl)
           clear HF hn
           go_wp2
           go_returns
           exact ⟨rets1 (congrArg (Value.int .i64) HR.out), rfl⟩
          ·have HN := Lib.hid hn
           clear hn
           go_wp2
           go_roundw
           case rel => exact ⟨2, 64 * n + b1 - 128, rfl, rfl, trivial, Lib.hid (.inr (.inl ⟨rfl, by rw [HN.out], by omega, by omega⟩))⟩
           case measure => simp [intOf]
        ·have n0 : 0 ≤ n ∧ n ≤ 2047 := by omega
         obtain ⟨n0, n1⟩ := n0
         clear HK
         by_cases t1 : b2 < 128
         ·have HR : Hid ((0 : Int) = (R : Int)) := Lib.hid (by rw [HF.out, if_neg (by omega)]; rfl)
          clear HF hn
          go_wp2
          go_returns
          exact ⟨rets1 (congrArg (Value.int .i64) HR.out), rfl⟩
         ·by_cases t2 : 191 < b2
          ·have HR : Hid ((0 : Int) = (R : Int)) := Lib.hid (by rw [HF.out, if_neg (by omega)]; rfl)
           clear HF hn
           go_wp2
           go_returns
           exact ⟨rets1 (congrArg (Value.int .i64) HR.out), rfl⟩
          ·have HN := Lib.hid hn
           clear hn
           go_wp2
           go_roundw
           case rel => exact ⟨3, 64 * n + b2 - 128, rfl, rfl, trivial, Lib.hid (.inr (.inr (.inl ⟨rfl, by rw [HN.out], by omega, by omega, by omega, by omega⟩)))⟩
           case measure => simp [intOf]
        ·have n0 : 0 ≤ n ∧ n ≤ 65535 := by omega
         obtain ⟨n0, n1⟩ := n0
         clear HK
         by_cases t1 : b3 < 128
         ·have HR : Hid ((0 : Int) = (R : Int)) := Lib.hid (by rw [HF.out, if_neg (by omega)]; rfl)
          clear HF hn
          go_wp2
          go_returns
          exact ⟨rets1 (congrArg (Value.int .i64) HR.out), rfl⟩
         ·by_cases t2 : 191 < b3
          ·have HR : Hid ((0 : Int) = (R : Int)) := Lib.hid (by rw [HF.out, if_neg (by omega)]; rfl)
           clear HF hn
           go_wp2
           go_returns
           exact ⟨rets1 (congrArg (Value.int .i64) HR.out), rfl⟩
          ·have HN := Lib.hid hn
           clear hn
           go_wp2
           go_roundw
           case rel => exact ⟨4, 64 * n + b3 - 128, rfl, rfl, trivial, Lib.hid (.inr (.inr (.inr (⟨rfl, by rw [HN.out], by omega, by omega, by omega, by omega, by omega, by omega⟩))))⟩
           case measure => simp [intOf]
        ·have n0 : 0 ≤ n ∧ n ≤ 2097151 := by omega
         obtain ⟨n0, n1⟩ := n0
         clear HK
         by_cases u0 : n < 65536
         ·have HR : Hid ((0 : Int) = (R : Int)) := Lib.hid (by rw [HF.out, if_neg (by omega)]; rfl)
          clear HF hn
          go_wp2
          go_returns
          exact ⟨rets1 (congrArg (Value.int .i64) HR.out), rfl⟩
         ·by_cases u1 : 1114111 < n
          ·have HR : Hid ((0 : Int) = (R : Int)) := Lib.hid (by rw [HF.out, if_neg (by omega)]; rfl)
           clear HF hn
           go_wp2
           go_returns
           exact ⟨rets1 (congrArg (Value.int .i64) HR.out), rfl⟩
          ·have HR : Hid ((4 : Int) = (R : Int)) := Lib.hid (by rw [HF.out, if_pos (by omega)]; rfl)
           clear HF hn
           go_wp2
           go_returns
           exact ⟨rets1 (congrArg (Value.int .i64) HR.out), rfl⟩
      ·have HF : Hid (charN (bl s) k = 0) := Lib.hid (hout0 hout)
       clear hout0
       generalize charN (bl s) k = R at *
       generalize bt s k = a at *
       have hz : (s.size : Int) < (k : Int) + 4 := by omega
       have HR : Hid ((0 : Int) = (R : Int)) := Lib.hid (by rw [HF.out]; rfl)
       clear HF
       clear hl ha hout
       go_enter Tryz.func90, Tryz.ntmps90
       go_wp2
       go_returns
       exact ⟨rets1 (congrArg (Value.int .i64) HR.out), rfl⟩
end Go.Proofs.YtiecbagejdcafaaGreatDoor
/- What the reference's plain, Utf8, Check and last of strings give. Of every tag, byte, and text of at most a million bytes. -/
namespace Go.Proofs.YtiecbagejdcafaaGreatDoor
open Go.RowKit Go.PlainAid
set_option linter.unusedVariables false
def othS : ByteArray := ⟨#[32, 39, 40, 41, 43, 44, 45, 46, 47, 58, 61, 63]⟩
theorem oth_in {x : Int} : (∃ i : Nat, i < 12 ∧ bt othS i = x) ↔ (x = 32 ∨ (39 ≤ x ∧ x ≤ 41) ∨ (43 ≤ x ∧ x ≤ 47) ∨ x = 58 ∨ x = 61 ∨ x = 63) := by
 constructor
 ·rintro ⟨i, hi, rfl⟩
  rcases (by omega : i = 0 ∨ i = 1 ∨ i = 2 ∨ i = 3 ∨ i = 4 ∨ i = 5 ∨ i = 6 ∨ i = 7 ∨ i = 8 ∨ i = 9 ∨ i = 10 ∨ i = 11) with rfl | rfl | rfl | rfl | rfl | rfl | rfl | rfl | rfl | rfl | rfl | rfl <;> decide +kernel
 ·intro h
  rcases (by omega : x = 32 ∨ x = 39 ∨ x = 40 ∨ x = 41 ∨ x = 43 ∨ x = 44 ∨ x = 45 ∨ x = 46 ∨ x = 47 ∨ x = 58 ∨ x = 61 ∨ x = 63) with rfl | rfl | rfl | rfl | rfl | rfl | rfl | rfl | rfl | rfl | rfl | rfl
  ·exact ⟨0, by decide, by decide +kernel⟩
  ·exact ⟨1, by decide, by decide +kernel⟩
  ·exact ⟨2, by decide, by decide +kernel⟩
  ·exact ⟨3, by decide, by decide +kernel⟩
  ·exact ⟨4, by decide, by decide +kernel⟩
  ·exact ⟨5, by decide, by decide +kernel⟩
  ·exact ⟨6, by decide, by decide +kernel⟩
  ·exact ⟨7, by decide, by decide +kernel⟩
  ·exact ⟨8, by decide, by decide +kernel⟩
  ·exact ⟨9, by decide, by decide +kernel⟩
  ·exact ⟨10, by decide, by decide +kernel⟩
  ·exact ⟨11, by decide, by decide +kernel⟩
set_option maxHeartbeats 4000000 in
theorem refTextPlain_any (tag x : Int) (hx : 0 ≤ x ∧ x ≤ 255) (w : World) :
  Calls Tryz.prog 63 #[.int .i64 tag, .int .u8 x] w fun e w' => e = .returned (.bool (decide (plT tag x))) ∧ w' = w := by
 obtain ⟨x0, x1⟩ := hx
 by_cases h22 : tag = 22
 ·subst h22
  have HF : Hid (decide (x < 128) = decide (plT 22 x)) := Lib.hid (decide_eq_decide.2 ⟨fun h => ⟨fun _ => h, fun e => absurd e (by decide)⟩, fun h => h.1 rfl⟩)
  generalize decide (plT 22 x) = R at *
  go_enter Tryz.func63, Tryz.ntmps63
  go_wp2
  go_returns
  exact ⟨rets1 (congrArg Value.bool HF.out), rfl⟩
 ·have h22b : (tag == 22) = false := by simpa using h22
  by_cases h19 : tag = 19
  ·subst h19
   have HF : Hid (decide (plT 19 x) = decide ((65 ≤ x ∧ x ≤ 90) ∨ (97 ≤ x ∧ x ≤ 122) ∨ (48 ≤ x ∧ x ≤ 57) ∨ (∃ i : Nat, i < 12 ∧ bt othS i = x))) := Lib.hid (decide_eq_decide.2 (by
    rw [oth_in]
    exact ⟨fun h => h.2 rfl, fun h => ⟨fun e => absurd e (by decide), fun _ => h⟩⟩))
   generalize decide (plT 19 x) = R at *
   by_cases c1 : 65 ≤ x ∧ x ≤ 90
   ·obtain ⟨p, q⟩ := c1
    have HR : Hid (true = R) := Lib.hid (by rw [HF.out, decide_eq_true (.inl ⟨p, q⟩)])
    clear HF
    go_enter Tryz.func63, Tryz.ntmps63
    go_wp2
    go_returns
    exact ⟨rets1 (congrArg Value.bool HR.out), rfl⟩
   ·by_cases c2 : 97 ≤ x ∧ x ≤ 122
    ·obtain ⟨p, q⟩ := c2
     have HR : Hid (true = R) := Lib.hid (by rw [HF.out, decide_eq_true (.inr (.inl ⟨p, q⟩))])
     have n1 : ¬ x ≤ 90 := by omega
     clear HF c1
     go_enter Tryz.func63, Tryz.ntmps63
     go_wp2
     go_returns
     exact ⟨rets1 (congrArg Value.bool HR.out), rfl⟩
    ·by_cases c3 : 48 ≤ x ∧ x ≤ 57
     ·obtain ⟨p, q⟩ := c3
      have HR : Hid (true = R) := Lib.hid (by rw [HF.out, decide_eq_true (.inr (.inr (.inl ⟨p, q⟩)))])
      have n1 : ¬ 65 ≤ x := by omega
      have n2 : ¬ 97 ≤ x := by omega
      clear HF c1 c2
      go_enter Tryz.func63, Tryz.ntmps63
      go_wp2
      go_returns
      exact ⟨rets1 (congrArg Value.bool HR.out), rfl⟩
     ·have HI : Hid (R = decide (∃ i : Nat, i < 12 ∧ bt othS i = x)) := Lib.hid (by rw [HF.out]; exact decide_eq_decide.2 ⟨fun h => by rcases h with h | h | h | h; exact absurd h c1; exact absurd h c2; exact absurd h c3; exact h, fun h => .inr (.inr (.inr h))⟩)
      have HG : Hid (∀ (i : Nat) (hi : i < 12), ((((⟨#[32, 39, 40, 41, 43, 44, 45, 46, 47, 58, 61, 63]⟩ : ByteArray)[i]'hi).toNat : Nat) : Int) = bt othS i) := Lib.hid (fun i hi => get_bt othS i hi)
      clear HF
      rcases (by omega : x < 48 ∨ (57 < x ∧ x < 65) ∨ (90 < x ∧ x < 97) ∨ 122 < x) with hx | hx | hx | hx
      ·have n1 : ¬ 65 ≤ x := by omega
       have n2 : ¬ 97 ≤ x := by omega
       have n3 : ¬ 48 ≤ x := by omega
       clear hx c1 c2 c3
       go_enter Tryz.func63, Tryz.ntmps63
       go_wp2
       go_loopw [6] (fun iv wr => ∃ (i : Nat), iv = .int .i64 (i : Int) ∧ i ≤ 12 ∧ wr = w ∧ Hid (∀ j : Nat, j < i → bt othS j ≠ x)) (fun iv _ => 12 - (intOf iv).toNat)
       case atStart => exact ⟨0, rfl, by omega, rfl, Lib.hid (fun j hj => by omega)⟩
       case round =>
        obtain ⟨i, rfl, hi, rfl, HN⟩ := hrel
        by_cases hlt : i < 12
        ·have hbt := HG.out i hlt
         have hlti : (i : Int) < 12 := by omega
         obtain ⟨z, hz⟩ : ∃ z, bt othS i = z := ⟨_, rfl⟩
         by_cases he : z = x
         ·have HR : Hid (true = R) := Lib.hid (by rw [HI.out, decide_eq_true ⟨i, hlt, hz.trans he⟩])
          rw [hz] at hbt
          subst he
          clear hz HI HN
          go_wp2
          go_returns
          exact ⟨rets1 (congrArg Value.bool HR.out), rfl⟩
         ·have hne : (z == x) = false := by simpa using he
          have HN2 : Hid (∀ j : Nat, j < i + 1 → bt othS j ≠ x) := Lib.hid (fun j hj => by
           by_cases hji : j = i
           ·rw [hji, hz]; exact he
           ·exact HN.out j (by omega))
          rw [hz] at hbt
          clear he hz HN
          go_wp2
          go_roundw
          case rel => exact ⟨i + 1, by simp, by omega, trivial, HN2⟩
          case measure => simp [intOf]; omega
        ·have HR : Hid (false = R) := Lib.hid (by rw [HI.out, decide_eq_false (fun h => by obtain ⟨j, hj, hh⟩ := h; exact HN.out j (by omega) hh)])
         have hge : ¬ (i : Int) < 12 := by omega
         clear HI HN
         go_wp2
         go_returns
         exact ⟨rets1 (congrArg Value.bool HR.out), rfl⟩
      ·have n1 : ¬ 65 ≤ x := by omega
       have n2 : ¬ 97 ≤ x := by omega
       have n3 : 48 ≤ x := by omega
       have n4 : ¬ x ≤ 57 := by omega
       clear hx c1 c2 c3
       go_enter Tryz.func63, Tryz.ntmps63
       go_wp2
       go_loopw [6] (fun iv wr => ∃ (i : Nat), iv = .int .i64 (i : Int) ∧ i ≤ 12 ∧ wr = w ∧ Hid (∀ j : Nat, j < i → bt othS j ≠ x)) (fun iv _ => 12 - (intOf iv).toNat)
       case atStart => exact ⟨0, rfl, by omega, rfl, Lib.hid (fun j hj => by omega)⟩
       case round =>
        obtain ⟨i, rfl, hi, rfl, HN⟩ := hrel
        by_cases hlt : i < 12
        ·have hbt := HG.out i hlt
         have hlti : (i : Int) < 12 := by omega
         obtain ⟨z, hz⟩ : ∃ z, bt othS i = z := ⟨_, rfl⟩
         by_cases he : z = x
         ·have HR : Hid (true = R) := Lib.hid (by rw [HI.out, decide_eq_true ⟨i, hlt, hz.trans he⟩])
          rw [hz] at hbt
          subst he
          clear hz HI HN
          go_wp2
          go_returns
          exact ⟨rets1 (congrArg Value.bool HR.out), rfl⟩
         ·have hne : (z == x) = false := by simpa using he
          have HN2 : Hid (∀ j : Nat, j < i + 1 → bt othS j ≠ x) := Lib.hid (fun j hj => by
           by_cases hji : j = i
           ·rw [hji, hz]; exact he
           ·exact HN.out j (by omega))
          rw [hz] at hbt
          clear he hz HN
          go_wp2
          go_roundw
          case rel => exact ⟨i + 1, by simp, by omega, trivial, HN2⟩
          case measure => simp [intOf]; omega
        ·have HR : Hid (false = R) := Lib.hid (by rw [HI.out, decide_eq_false (fun h => by obtain ⟨j, hj, hh⟩ := h; exact HN.out j (by omega) hh)])
         have hge : ¬ (i : Int) < 12 := by omega
         clear HI HN
         go_wp2
         go_returns
         exact ⟨rets1 (congrArg Value.bool HR.out), rfl⟩
      ·have n1 : 65 ≤ x := by omega
       have n5 : ¬ x ≤ 90 := by omega
       have n2 : ¬ 97 ≤ x := by omega
       have n3 : 48 ≤ x := by omega
       have n4 : ¬ x ≤ 57 := by omega
       clear hx c1 c2 c3
       go_enter Tryz.func63, Tryz.ntmps63
       go_wp2
       go_loopw [6] (fun iv wr => ∃ (i : Nat), iv = .int .i64 (i : Int) ∧ i ≤ 12 ∧ wr = w ∧ Hid (∀ j : Nat, j < i → bt othS j ≠ x)) (fun iv _ => 12 - (intOf iv).toNat)
       case atStart => exact ⟨0, rfl, by omega, rfl, Lib.hid (fun j hj => by omega)⟩
       case round =>
        obtain ⟨i, rfl, hi, rfl, HN⟩ := hrel
        by_cases hlt : i < 12
        ·have hbt := HG.out i hlt
         have hlti : (i : Int) < 12 := by omega
         obtain ⟨z, hz⟩ : ∃ z, bt othS i = z := ⟨_, rfl⟩
         by_cases he : z = x
         ·have HR : Hid (true = R) := Lib.hid (by rw [HI.out, decide_eq_true ⟨i, hlt, hz.trans he⟩])
          rw [hz] at hbt
          subst he
          clear hz HI HN
          go_wp2
          go_returns
          exact ⟨rets1 (congrArg Value.bool HR.out), rfl⟩
         ·have hne : (z == x) = false := by simpa using he
          have HN2 : Hid (∀ j : Nat, j < i + 1 → bt othS j ≠ x) := Lib.hid (fun j hj => by
           by_cases hji : j = i
           ·rw [hji, hz]; exact he
           ·exact HN.out j (by omega))
          rw [hz] at hbt
          clear he hz HN
          go_wp2
          go_roundw
          case rel => exact ⟨i + 1, by simp, by omega, trivial, HN2⟩
          case measure => simp [intOf]; omega
        ·have HR : Hid (false = R) := Lib.hid (by rw [HI.out, decide_eq_false (fun h => by obtain ⟨j, hj, hh⟩ := h; exact HN.out j (by omega) hh)])
         have hge : ¬ (i : Int) < 12 := by omega
         clear HI HN
         go_wp2
         go_returns
         exact ⟨rets1 (congrArg Value.bool HR.out), rfl⟩
      ·have n1 : 65 ≤ x := by omega
       have n5 : ¬ x ≤ 90 := by omega
       have n2 : 97 ≤ x := by omega
       have n6 : ¬ x ≤ 122 := by omega
       have n3 : 48 ≤ x := by omega
       have n4 : ¬ x ≤ 57 := by omega
       clear hx c1 c2 c3
       go_enter Tryz.func63, Tryz.ntmps63
       go_wp2
       go_loopw [6] (fun iv wr => ∃ (i : Nat), iv = .int .i64 (i : Int) ∧ i ≤ 12 ∧ wr = w ∧ Hid (∀ j : Nat, j < i → bt othS j ≠ x)) (fun iv _ => 12 - (intOf iv).toNat)
       case atStart => exact ⟨0, rfl, by omega, rfl, Lib.hid (fun j hj => by omega)⟩
       case round =>
        obtain ⟨i, rfl, hi, rfl, HN⟩ := hrel
        by_cases hlt : i < 12
        ·have hbt := HG.out i hlt
         have hlti : (i : Int) < 12 := by omega
         obtain ⟨z, hz⟩ : ∃ z, bt othS i = z := ⟨_, rfl⟩
         by_cases he : z = x
         ·have HR : Hid (true = R) := Lib.hid (by rw [HI.out, decide_eq_true ⟨i, hlt, hz.trans he⟩])
          rw [hz] at hbt
          subst he
          clear hz HI HN
          go_wp2
          go_returns
          exact ⟨rets1 (congrArg Value.bool HR.out), rfl⟩
         ·have hne : (z == x) = false := by simpa using he
          have HN2 : Hid (∀ j : Nat, j < i + 1 → bt othS j ≠ x) := Lib.hid (fun j hj => by
           by_cases hji : j = i
           ·rw [hji, hz]; exact he
           ·exact HN.out j (by omega))
          rw [hz] at hbt
          clear he hz HN
          go_wp2
          go_roundw
          case rel => exact ⟨i + 1, by simp, by omega, trivial, HN2⟩
          case measure => simp [intOf]; omega
        ·have HR : Hid (false = R) := Lib.hid (by rw [HI.out, decide_eq_false (fun h => by obtain ⟨j, hj, hh⟩ := h; exact HN.out j (by omega) hh)])
         have hge : ¬ (i : Int) < 12 := by omega
         clear HI HN
         go_wp2
         go_returns
         exact ⟨rets1 (congrArg Value.bool HR.out), rfl⟩
  ·have h19b : (tag != 19) = true := by simpa using h19
   have HF : Hid (true = decide (plT tag x)) := Lib.hid (decide_eq_true ⟨fun e => absurd e h22, fun e => absurd e h19⟩).symm
   generalize decide (plT tag x) = R at *
   clear h22 h19
   go_enter Tryz.func63, Tryz.ntmps63
   go_wp2
   go_returns
   exact ⟨rets1 (congrArg Value.bool HF.out), rfl⟩
set_option maxHeartbeats 1600000 in
theorem refUtf8_any (s : ByteArray) (hs : s.size ≤ 1000000) (w : World) :
  Calls Tryz.prog 62 #[.string s] w fun e w' => e = .returned (.bool (decide (rightT 12 (bl s)))) ∧ w' = w := by
 have hb9 : (s.size : Int) ≤ 1000000 := by omega
 have HC := Lib.hid (fun (k : Nat) (hk : k < s.size) => refChar_any s k hs hk)
 have HL := Lib.hid (bl_length s)
 have HF : Hid (decide (rightT 12 (bl s)) = decide (uR (bl s) = some [])) := Lib.hid (decide_eq_decide.2 right_utf8)
 generalize decide (rightT 12 (bl s)) = R at *
 go_enter Tryz.func62, Tryz.ntmps62
 go_wp2
 go_loopw [3] (fun iv wr => ∃ (k : Nat), iv = .int .i64 (k : Int) ∧ k ≤ s.size ∧ wr = w ∧ Hid (uR ((bl s).take k) = some [])) (fun iv _ => s.size - (intOf iv).toNat)
 case atStart => exact ⟨0, rfl, by omega, rfl, Lib.hid (by rw [List.take_zero]; rfl)⟩
 case round =>
  obtain ⟨k, rfl, hk, rfl, HU⟩ := hrel
  by_cases hlt : k < s.size
  ·have hlti : (k : Int) < (s.size : Int) := by omega
   have HCk := Lib.hid (HC.out k hlt)
   have hkl : k < (bl s).length := by rw [HL.out]; exact hlt
   obtain ⟨m, hm⟩ : ∃ m, charN (bl s) k = m := ⟨_, rfl⟩
   rw [hm] at HCk
   by_cases h0 : m = 0
   ·subst h0
    have HR : Hid (false = R) := Lib.hid (by
     rw [HF.out, uR_stuck HU.out hkl hm]
     refine (decide_eq_false ?_).symm
     split
     ·intro e
      have := congrArg List.length (Option.some.inj e)
      rw [List.length_drop] at this
      simp at this
      omega
     ·intro e; cases e)
    clear hm HU HF
    go_wp2_with fail
    refine (HCk.out _).mono ?_
    rintro e w1 ⟨rfl, rfl⟩
    go_wp2
    go_returns
    exact ⟨rets1 (congrArg Value.bool HR.out), rfl⟩
   ·obtain ⟨hu, hle⟩ := uR_char HU.out hkl hm (by omega)
    have HU2 := Lib.hid hu
    rw [HL.out] at hle
    have hm4 : (m : Int) ≤ 1000000 := by omega
    have hmb : ((m : Int) == 0) = false := by simpa using h0
    clear hm HU hu
    go_wp2_with fail
    refine (HCk.out _).mono ?_
    rintro e w1 ⟨rfl, rfl⟩
    go_wp2
    go_roundw
    case rel => exact ⟨k + m, by simp, hle, trivial, HU2⟩
    case measure => simp [intOf]; omega
  ·have hge : ¬ (k : Int) < (s.size : Int) := by omega
   have HR : Hid (true = R) := Lib.hid (by
    have h := HU.out
    rw [List.take_of_length_le (by rw [HL.out]; omega)] at h
    rw [HF.out, decide_eq_true h])
   clear HF HU
   go_wp2
   go_returns
   exact ⟨rets1 (congrArg Value.bool HR.out), rfl⟩
set_option maxHeartbeats 1600000 in
theorem refTextCheck_any (tag : Int) (s : ByteArray) (hs : s.size ≤ 1000000) (w : World) :
  Calls Tryz.prog 37 #[.int .i64 tag, .string s] w fun e w' => e = .returned (.bool (decide (rightT tag (bl s)))) ∧ w' = w := by
 have hb9 : (s.size : Int) ≤ 1000000 := by omega
 by_cases ht : tag = 12
 ·subst ht
  have HU := Lib.hid (refUtf8_any s hs)
  generalize decide (rightT 12 (bl s)) = R at *
  go_enter Tryz.func37, Tryz.ntmps37
  go_wp2_with fail
  refine (HU.out _).mono ?_
  rintro e w1 ⟨rfl, rfl⟩
  go_wp2
  go_returns
  exact ⟨rfl, rfl⟩
 ·have htb : (tag == 12) = false := by simpa using ht
  have HF : Hid (decide (rightT tag (bl s)) = decide (∀ i : Nat, i < s.size → plT tag (bt s i))) := Lib.hid (decide_eq_decide.2 (by
   rw [right_plain ht]
   constructor
   ·intro h i hi
    have := h ((bl s)[i]'(by rw [bl_length]; exact hi)) (List.getElem_mem _)
    rwa [bl_get] at this
   ·intro h x hx
    obtain ⟨i, hi, rfl⟩ := List.getElem_of_mem hx
    rw [bl_get]
    exact h i (by rw [bl_length] at hi; exact hi)))
  generalize decide (rightT tag (bl s)) = R at *
  have HP := Lib.hid (fun (i : Nat) => refTextPlain_any tag (bt s i) ⟨bt_nonneg s i, bt_le s i⟩)
  have HG := Lib.hid (get_bt s)
  clear ht
  go_enter Tryz.func37, Tryz.ntmps37
  go_wp2
  go_loopw [5] (fun iv wr => ∃ (i : Nat), iv = .int .i64 (i : Int) ∧ i ≤ s.size ∧ wr = w ∧ Hid (∀ j : Nat, j < i → plT tag (bt s j))) (fun iv _ => s.size - (intOf iv).toNat)
  case atStart => exact ⟨0, rfl, by omega, rfl, Lib.hid (fun j hj => by omega)⟩
  case round =>
   obtain ⟨i, rfl, hi, rfl, HA⟩ := hrel
   by_cases hlt : i < s.size
   ·have hlti : (i : Int) < (s.size : Int) := by omega
    have hbt := HG.out i hlt
    have HPi := Lib.hid (HP.out i)
    by_cases hp : plT tag (bt s i)
    ·have HA2 : Hid (∀ j : Nat, j < i + 1 → plT tag (bt s j)) := Lib.hid (fun j hj => by
      by_cases hji : j = i
      ·rw [hji]; exact hp
      ·exact HA.out j (by omega))
     rw [decide_eq_true hp] at HPi
     generalize bt s i = z at *
     clear hp HA
     go_wp2_with fail
     refine (HPi.out _).mono ?_
     rintro e w1 ⟨rfl, rfl⟩
     go_wp2
     go_roundw
     case rel => exact ⟨i + 1, by simp, by omega, trivial, HA2⟩
     case measure => simp [intOf]; omega
    ·have HR : Hid (false = R) := Lib.hid (by rw [HF.out]; exact (decide_eq_false (fun h => hp (h i hlt))).symm)
     rw [decide_eq_false hp] at HPi
     generalize bt s i = z at *
     clear hp HA HF
     go_wp2_with fail
     refine (HPi.out _).mono ?_
     rintro e w1 ⟨rfl, rfl⟩
     go_wp2
     go_returns
     exact ⟨rets1 (congrArg Value.bool HR.out), rfl⟩
   ·have hge : ¬ (i : Int) < (s.size : Int) := by omega
    have HR : Hid (true = R) := Lib.hid (by rw [HF.out]; exact (decide_eq_true (fun j hj => HA.out j (by omega))).symm)
    clear HA HF
    go_wp2
    go_returns
    exact ⟨rets1 (congrArg Value.bool HR.out), rfl⟩
end Go.Proofs.YtiecbagejdcafaaGreatDoor
