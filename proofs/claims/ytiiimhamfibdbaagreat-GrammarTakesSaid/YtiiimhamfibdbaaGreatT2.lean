/- What the reference's char of strings gives. Of every text of at most a million bytes. -/
import Derived.Test.YtiiimhamfibdbaaGreatB0
import Derived.Test.YtiiimhamfibdbaaGreatP0
import Derived.Lib.Strings
import Derived.Laws.Cover1
import Derived.Handy
import Derived.Laws.BytesArg
import Derived.Deep.LoopGhost
namespace Go.Proofs.YtiiimhamfibdbaaGreat
open Go.RowKit Go.PlainAid
set_option linter.unusedVariables false
theorem charN_one {l : List Int} {k : Nat} (hk : k < l.length) (h : g l k < 128) : charN l k = 1 := by
 have hs : sz (g l k) = 1 := if_pos h
 unfold charN
 rw [hs, if_pos ⟨by omega, fun i hi h5 => by omega⟩]
theorem charN_none {l : List Int} {k : Nat} (h : sz (g l k) = 0) : charN l k = 0 := by
 unfold charN
 rw [h]
 split <;> rfl
theorem charN_out {l : List Int} {k : Nat} (h : ¬ k + sz (g l k) ≤ l.length) : charN l k = 0 := by
 unfold charN
 rw [if_neg (fun hh => h hh.1)]
theorem charN_two {l : List Int} {k : Nat} (h0 : 192 ≤ g l k) (h1 : g l k < 224) (hk : k + 2 ≤ l.length) :
  charN l k = if (128 ≤ g l (k + 1) ∧ g l (k + 1) ≤ 191) ∧ 128 ≤ 64 * (g l k - 192) + g l (k + 1) - 128 then 2 else 0 := by
 by_cases h2 : g l k < 194
 ·rw [charN_none (by unfold sz; rw [if_neg (by omega), if_pos h2]), if_neg (by omega)]
 ·have hs : sz (g l k) = 2 := by unfold sz; rw [if_neg (by omega), if_neg h2, if_pos (by omega)]
  unfold charN
  rw [hs]
  by_cases hc : (128 ≤ g l (k + 1) ∧ g l (k + 1) ≤ 191) ∧ 128 ≤ 64 * (g l k - 192) + g l (k + 1) - 128
  ·rw [if_pos hc, if_pos]
   refine ⟨hk, fun i hi h5 => ?_⟩
   obtain rfl : i = 1 := by omega
   exact ⟨hc.1.1, hc.1.2, fun _ => ⟨by omega, by omega, by omega, by omega⟩⟩
  ·rw [if_neg hc, if_neg]
   rintro ⟨_, hh⟩
   obtain ⟨q1, q2, _⟩ := hh 1 (by omega) (by omega)
   exact hc ⟨⟨q1, q2⟩, by omega⟩
theorem charN_three {l : List Int} {k : Nat} (h0 : 224 ≤ g l k) (h1 : g l k < 240) (hk : k + 3 ≤ l.length) :
  charN l k = if ((128 ≤ g l (k + 1) ∧ g l (k + 1) ≤ 191) ∧ (128 ≤ g l (k + 2) ∧ g l (k + 2) ≤ 191)) ∧ 2048 ≤ 64 * (64 * (g l k - 224) + g l (k + 1) - 128) + g l (k + 2) - 128 ∧ ¬ (55296 ≤ 64 * (64 * (g l k - 224) + g l (k + 1) - 128) + g l (k + 2) - 128 ∧ 64 * (64 * (g l k - 224) + g l (k + 1) - 128) + g l (k + 2) - 128 ≤ 57343) then 3 else 0 := by
 have hs : sz (g l k) = 3 := by unfold sz; rw [if_neg (by omega), if_neg (by omega), if_neg (by omega), if_pos (by omega)]
 unfold charN
 rw [hs]
 by_cases hc : ((128 ≤ g l (k + 1) ∧ g l (k + 1) ≤ 191) ∧ (128 ≤ g l (k + 2) ∧ g l (k + 2) ≤ 191)) ∧ 2048 ≤ 64 * (64 * (g l k - 224) + g l (k + 1) - 128) + g l (k + 2) - 128 ∧ ¬ (55296 ≤ 64 * (64 * (g l k - 224) + g l (k + 1) - 128) + g l (k + 2) - 128 ∧ 64 * (64 * (g l k - 224) + g l (k + 1) - 128) + g l (k + 2) - 128 ≤ 57343)
 ·rw [if_pos hc, if_pos]
  refine ⟨hk, fun i hi h5 => ?_⟩
  rcases (by omega : i = 1 ∨ i = 2) with rfl | rfl
  ·exact ⟨hc.1.1.1, hc.1.1.2, fun _ => ⟨by omega, by omega, by omega, by omega⟩⟩
  ·exact ⟨hc.1.2.1, hc.1.2.2, fun e => absurd e (by decide)⟩
 ·rw [if_neg hc, if_neg]
  rintro ⟨_, hh⟩
  obtain ⟨q1, q2, q3⟩ := hh 1 (by omega) (by omega)
  obtain ⟨q4, q5, _⟩ := hh 2 (by omega) (by omega)
  obtain ⟨q6, q7, _, _⟩ := q3 rfl
  exact hc ⟨⟨⟨q1, q2⟩, ⟨q4, q5⟩⟩, by omega, by omega⟩
theorem charN_four {l : List Int} {k : Nat} (h0 : 240 ≤ g l k) (h1 : g l k < 248) (hk : k + 4 ≤ l.length) :
  charN l k = if ((128 ≤ g l (k + 1) ∧ g l (k + 1) ≤ 191) ∧ (128 ≤ g l (k + 2) ∧ g l (k + 2) ≤ 191) ∧ (128 ≤ g l (k + 3) ∧ g l (k + 3) ≤ 191)) ∧ 65536 ≤ 64 * (64 * (64 * (g l k - 240) + g l (k + 1) - 128) + g l (k + 2) - 128) + g l (k + 3) - 128 ∧ 64 * (64 * (64 * (g l k - 240) + g l (k + 1) - 128) + g l (k + 2) - 128) + g l (k + 3) - 128 ≤ 1114111 then 4 else 0 := by
 by_cases h2 : 245 ≤ g l k
 ·rw [charN_none (by unfold sz; rw [if_neg (by omega), if_neg (by omega), if_neg (by omega), if_neg (by omega), if_neg (by omega)]), if_neg (by omega)]
 ·have hs : sz (g l k) = 4 := by unfold sz; rw [if_neg (by omega), if_neg (by omega), if_neg (by omega), if_neg (by omega), if_pos (by omega)]
  unfold charN
  rw [hs]
  by_cases hc : ((128 ≤ g l (k + 1) ∧ g l (k + 1) ≤ 191) ∧ (128 ≤ g l (k + 2) ∧ g l (k + 2) ≤ 191) ∧ (128 ≤ g l (k + 3) ∧ g l (k + 3) ≤ 191)) ∧ 65536 ≤ 64 * (64 * (64 * (g l k - 240) + g l (k + 1) - 128) + g l (k + 2) - 128) + g l (k + 3) - 128 ∧ 64 * (64 * (64 * (g l k - 240) + g l (k + 1) - 128) + g l (k + 2) - 128) + g l (k + 3) - 128 ≤ 1114111
  ·rw [if_pos hc, if_pos]
   refine ⟨hk, fun i hi h5 => ?_⟩
   rcases (by omega : i = 1 ∨ i = 2 ∨ i = 3) with rfl | rfl | rfl
   ·exact ⟨hc.1.1.1, hc.1.1.2, fun _ => ⟨by omega, by omega, by omega, by omega⟩⟩
   ·exact ⟨hc.1.2.1.1, hc.1.2.1.2, fun e => absurd e (by decide)⟩
   ·exact ⟨hc.1.2.2.1, hc.1.2.2.2, fun e => absurd e (by decide)⟩
  ·rw [if_neg hc, if_neg]
   rintro ⟨_, hh⟩
   obtain ⟨q1, q2, q3⟩ := hh 1 (by omega) (by omega)
   obtain ⟨q4, q5, _⟩ := hh 2 (by omega) (by omega)
   obtain ⟨q8, q9, _⟩ := hh 3 (by omega) (by omega)
   obtain ⟨_, _, q6, q7⟩ := q3 rfl
   exact hc ⟨⟨⟨q1, q2⟩, ⟨q4, q5⟩, ⟨q8, q9⟩⟩, by omega, by omega⟩
theorem charN_outs {l : List Int} {k : Nat} (h0 : 192 ≤ g l k) (h : ¬ k + (if g l k < 224 then 2 else if g l k < 240 then 3 else 4) ≤ l.length) : charN l k = 0 := by
 by_cases hs : sz (g l k) = 0
 ·exact charN_none hs
 ·refine charN_out ?_
  unfold sz at *
  split at h
  ·rw [if_neg (by omega), if_neg (by intro h2; rw [if_neg (by omega), if_pos h2] at hs; exact hs rfl), if_pos (by omega)]; omega
  ·split at h
   ·rw [if_neg (by omega), if_neg (by omega), if_neg (by omega), if_pos (by omega)]; omega
   ·rw [if_neg (by omega), if_neg (by omega), if_neg (by omega), if_neg (by omega)] at hs ⊢
    by_cases h5 : g l k < 245
    ·rw [if_pos h5]; omega
    ·rw [if_neg h5] at hs; exact absurd rfl hs
set_option maxHeartbeats 8000000 in
theorem refChar_any (s : ByteArray) (k : Nat) (hs : s.size ≤ 1000000) (hk : k < s.size) (w : World) :
  Calls Tryz.prog 113 #[.string s, .int .i64 (k : Int)] w fun e w' => e = .returned (.int .i64 (charN (bl s) k : Int)) ∧ w' = w := by
 have hki : (k : Int) < (s.size : Int) := by omega
 have ga := get_bt s k hk
 have a0 := bt_nonneg s k
 have a1 := bt_le s k
 have ha : g (bl s) k = bt s k := (bt_g s k).symm
 have hl : (bl s).length = s.size := bl_length s
 by_cases hc1 : bt s k < 128
 ·have HF : Hid (charN (bl s) k = 1) := Lib.hid (charN_one (by omega) (by omega))
  generalize charN (bl s) k = R at *
  generalize bt s k = a at *
  have HR : Hid ((1 : Int) = (R : Int)) := Lib.hid (by rw [HF.out]; rfl)
  clear HF
  clear hl ha
  go_enter Tryz.func113, Tryz.ntmps113
  go_wp2
  go_returns
  exact ⟨rets1 (congrArg (Value.int .i64) HR.out), rfl⟩
 ·by_cases hc2 : bt s k < 192
  ·have HF : Hid (charN (bl s) k = 0) := Lib.hid (charN_none (by unfold sz; rw [ha, if_neg hc1, if_pos (by omega)]))
   generalize charN (bl s) k = R at *
   generalize bt s k = a at *
   have HR : Hid ((0 : Int) = (R : Int)) := Lib.hid (by rw [HF.out]; rfl)
   clear HF
   clear hl ha
   go_enter Tryz.func113, Tryz.ntmps113
   go_wp2
   go_returns
   exact ⟨rets1 (congrArg (Value.int .i64) HR.out), rfl⟩
  ·by_cases hc5 : 248 ≤ bt s k
   ·have HF : Hid (charN (bl s) k = 0) := Lib.hid (charN_none (by unfold sz; rw [ha, if_neg hc1, if_neg (by omega), if_neg (by omega), if_neg (by omega), if_neg (by omega)]))
    generalize charN (bl s) k = R at *
    generalize bt s k = a at *
    have HR : Hid ((0 : Int) = (R : Int)) := Lib.hid (by rw [HF.out]; rfl)
    clear HF
    clear hl ha
    go_enter Tryz.func113, Tryz.ntmps113
    go_wp2
    go_returns
    exact ⟨rets1 (congrArg (Value.int .i64) HR.out), rfl⟩
   ·by_cases hc3 : bt s k < 224
    ·skip
     have hout0 : ¬ k + 2 ≤ s.size → charN (bl s) k = 0 := fun h => charN_outs (by omega) (by rw [ha, if_pos (by omega), hl]; omega)
     by_cases hout : k + 2 ≤ s.size
     ·have HF := Lib.hid (charN_two (l := bl s) (k := k) (by omega) (by omega) (by omega))
      clear hout0
      rw [ha] at HF
      have hb1 : k + 1 < s.size := by omega
      have g1 := get_bt s (k + 1) hb1
      have x1 := bt_nonneg s (k + 1)
      have y1 := bt_le s (k + 1)
      have hi1 : (k : Int) + 1 < (s.size : Int) := by omega
      have hn1 : ((k : Int) + 1).toNat = k + 1 := by omega
      rw [← bt_g s (k + 1)] at HF
      generalize charN (bl s) k = R at *
      generalize bt s k = a at *
      generalize bt s (k + 1) = b1 at *
      have hz : ¬ (s.size : Int) < (k : Int) + 2 := by omega
      clear hl ha hout
      go_enter Tryz.func113, Tryz.ntmps113
      go_wp2
      go_loopw [7, 8] (fun nv iv wr => ∃ (j : Nat) (n : Int), iv = .int .i64 (j : Int) ∧ nv = .int .i64 n ∧ wr = w ∧ Hid ((j = 1 ∧ n = a - 192) ∨ (j = 2 ∧ n = 64 * (a - 192) + b1 - 128 ∧ 128 ≤ b1 ∧ b1 ≤ 191))) (fun _ iv _ => 2 - (intOf iv).toNat)
      case atStart => exact ⟨1, a - 192, rfl, rfl, rfl, Lib.hid (.inl ⟨rfl, rfl⟩)⟩
      case round =>
       obtain ⟨j, n, rfl, rfl, rfl, HK⟩ := hrel
       rcases HK.out with ⟨rfl, hn⟩ | ⟨rfl, hn, p1, q1⟩
       ·have n0 : 0 ≤ n ∧ n ≤ 31 := by omega
        obtain ⟨n0, n1⟩ := n0
        clear HK
        by_cases t1 : b1 < 128
        ·have HR : Hid ((0 : Int) = (R : Int)) := Lib.hid (by rw [HF.out, if_neg (by omega)]; rfl)
         clear HF hn
         go_wp2
         go_returns
         exact ⟨rets1 (congrArg (Value.int .i64) HR.out), rfl⟩
        ·by_cases t2 : 191 < b1
         ·have HR : Hid ((0 : Int) = (R : Int)) := Lib.hid (by rw [HF.out, if_neg (by omega)]; rfl)
          clear HF hn
          go_wp2
          go_returns
          exact ⟨rets1 (congrArg (Value.int .i64) HR.out), rfl⟩
         ·have HN := Lib.hid hn
          clear hn
          go_wp2
          go_roundw
          case rel => exact ⟨2, 64 * n + b1 - 128, rfl, rfl, trivial, Lib.hid (.inr (⟨rfl, by rw [HN.out], by omega, by omega⟩))⟩
          case measure => simp [intOf]
       ·have n0 : 0 ≤ n ∧ n ≤ 2047 := by omega
        obtain ⟨n0, n1⟩ := n0
        clear HK
        by_cases u0 : n < 128
        ·have HR : Hid ((0 : Int) = (R : Int)) := Lib.hid (by rw [HF.out, if_neg (by omega)]; rfl)
         clear HF hn
         go_wp2
         go_returns
         exact ⟨rets1 (congrArg (Value.int .i64) HR.out), rfl⟩
        ·have HR : Hid ((2 : Int) = (R : Int)) := Lib.hid (by rw [HF.out, if_pos (by omega)]; rfl)
         clear HF hn
         go_wp2
         go_returns
         exact ⟨rets1 (congrArg (Value.int .i64) HR.out), rfl⟩
     ·have HF : Hid (charN (bl s) k = 0) := Lib.hid (hout0 hout)
      clear hout0
      generalize charN (bl s) k = R at *
      generalize bt s k = a at *
      have hz : (s.size : Int) < (k : Int) + 2 := by omega
      have HR : Hid ((0 : Int) = (R : Int)) := Lib.hid (by rw [HF.out]; rfl)
      clear HF
      clear hl ha hout
      go_enter Tryz.func113, Tryz.ntmps113
      go_wp2
      go_returns
      exact ⟨rets1 (congrArg (Value.int .i64) HR.out), rfl⟩
    ·by_cases hc4 : bt s k < 240
     ·skip
      have hout0 : ¬ k + 3 ≤ s.size → charN (bl s) k = 0 := fun h => charN_outs (by omega) (by rw [ha, if_neg (by omega), if_pos (by omega), hl]; omega)
      by_cases hout : k + 3 ≤ s.size
      ·have HF := Lib.hid (charN_three (l := bl s) (k := k) (by omega) (by omega) (by omega))
       clear hout0
       rw [ha] at HF
       have hb1 : k + 1 < s.size := by omega
       have g1 := get_bt s (k + 1) hb1
       have x1 := bt_nonneg s (k + 1)
       have y1 := bt_le s (k + 1)
       have hi1 : (k : Int) + 1 < (s.size : Int) := by omega
       have hn1 : ((k : Int) + 1).toNat = k + 1 := by omega
       rw [← bt_g s (k + 1)] at HF
       have hb2 : k + 2 < s.size := by omega
       have g2 := get_bt s (k + 2) hb2
       have x2 := bt_nonneg s (k + 2)
       have y2 := bt_le s (k + 2)
       have hi2 : (k : Int) + 2 < (s.size : Int) := by omega
       have hn2 : ((k : Int) + 2).toNat = k + 2 := by omega
       rw [← bt_g s (k + 2)] at HF
       generalize charN (bl s) k = R at *
       generalize bt s k = a at *
       generalize bt s (k + 1) = b1 at *
       generalize bt s (k + 2) = b2 at *
       have hz : ¬ (s.size : Int) < (k : Int) + 3 := by omega
       clear hl ha hout
       go_enter Tryz.func113, Tryz.ntmps113
       go_wp2
       go_loopw [7, 8] (fun nv iv wr => ∃ (j : Nat) (n : Int), iv = .int .i64 (j : Int) ∧ nv = .int .i64 n ∧ wr = w ∧ Hid ((j = 1 ∧ n = a - 224) ∨ (j = 2 ∧ n = 64 * (a - 224) + b1 - 128 ∧ 128 ≤ b1 ∧ b1 ≤ 191) ∨ (j = 3 ∧ n = 64 * (64 * (a - 224) + b1 - 128) + b2 - 128 ∧ 128 ≤ b1 ∧ b1 ≤ 191 ∧ 128 ≤ b2 ∧ b2 ≤ 191))) (fun _ iv _ => 3 - (intOf iv).toNat)
       case atStart => exact ⟨1, a - 224, rfl, rfl, rfl, Lib.hid (.inl ⟨rfl, rfl⟩)⟩
       case round =>
        obtain ⟨j, n, rfl, rfl, rfl, HK⟩ := hrel
        rcases HK.out with ⟨rfl, hn⟩ | ⟨rfl, hn, p1, q1⟩ | ⟨rfl, hn, p1, q1, p2, q2⟩
        ·have n0 : 0 ≤ n ∧ n ≤ 31 := by omega
         obtain ⟨n0, n1⟩ := n0
         clear HK
         by_cases t1 : b1 < 128
         ·have HR : Hid ((0 : Int) = (R : Int)) := Lib.hid (by rw [HF.out, if_neg (by omega)]; rfl)
          clear HF hn
          go_wp2
          go_returns
          exact ⟨rets1 (congrArg (Value.int .i64) HR.out), rfl⟩
         ·by_cases t2 : 191 < b1
          ·have HR : Hid ((0 : Int) = (R : Int)) := Lib.hid (by rw [HF.out, if_neg (by omega)]; rfl)
           clear HF hn
           go_wp2
           go_returns
           exact ⟨rets1 (congrArg (Value.int .i64) HR.out), rfl⟩
          ·have HN := Lib.hid hn
           clear hn
           go_wp2
           go_roundw
           case rel => exact ⟨2, 64 * n + b1 - 128, rfl, rfl, trivial, Lib.hid (.inr (.inl ⟨rfl, by rw [HN.out], by omega, by omega⟩))⟩
           case measure => simp [intOf]
        ·have n0 : 0 ≤ n ∧ n ≤ 2047 := by omega
         obtain ⟨n0, n1⟩ := n0
         clear HK
         by_cases t1 : b2 < 128
         ·have HR : Hid ((0 : Int) = (R : Int)) := Lib.hid (by rw [HF.out, if_neg (by omega)]; rfl)
          clear HF hn
          go_wp2
          go_returns
          exact ⟨rets1 (congrArg (Value.int .i64) HR.out), rfl⟩
         ·by_cases t2 : 191 < b2
          ·have HR : Hid ((0 : Int) = (R : Int)) := Lib.hid (by rw [HF.out, if_neg (by omega)]; rfl)
           clear HF hn
           go_wp2
           go_returns
           exact ⟨rets1 (congrArg (Value.int .i64) HR.out), rfl⟩
          ·have HN := Lib.hid hn
           clear hn
           go_wp2
           go_roundw
           case rel => exact ⟨3, 64 * n + b2 - 128, rfl, rfl, trivial, Lib.hid (.inr (.inr (⟨rfl, by rw [HN.out], by omega, by omega, by omega, by omega⟩)))⟩
           case measure => simp [intOf]
        ·have n0 : 0 ≤ n ∧ n ≤ 65535 := by omega
         obtain ⟨n0, n1⟩ := n0
         clear HK
         by_cases u0 : n < 2048
         ·have HR : Hid ((0 : Int) = (R : Int)) := Lib.hid (by rw [HF.out, if_neg (by omega)]; rfl)
          clear HF hn
          go_wp2
          go_returns
          exact ⟨rets1 (congrArg (Value.int .i64) HR.out), rfl⟩
         ·by_cases u1 : n < 55296
          ·have HR : Hid ((3 : Int) = (R : Int)) := Lib.hid (by rw [HF.out, if_pos (by omega)]; rfl)
           clear HF hn
           go_wp2
           go_returns
           exact ⟨rets1 (congrArg (Value.int .i64) HR.out), rfl⟩
          ·by_cases u2 : 57343 < n
           ·have HR : Hid ((3 : Int) = (R : Int)) := Lib.hid (by rw [HF.out, if_pos (by omega)]; rfl)
            clear HF hn
            go_wp2
            go_returns
            exact ⟨rets1 (congrArg (Value.int .i64) HR.out), rfl⟩
           ·have HR : Hid ((0 : Int) = (R : Int)) := Lib.hid (by rw [HF.out, if_neg (by omega)]; rfl)
            clear HF hn
            go_wp2
            go_returns
            exact ⟨rets1 (congrArg (Value.int .i64) HR.out), rfl⟩
      ·have HF : Hid (charN (bl s) k = 0) := Lib.hid (hout0 hout)
       clear hout0
       generalize charN (bl s) k = R at *
       generalize bt s k = a at *
       have hz : (s.size : Int) < (k : Int) + 3 := by omega
       have HR : Hid ((0 : Int) = (R : Int)) := Lib.hid (by rw [HF.out]; rfl)
       clear HF
       clear hl ha hout
       go_enter Tryz.func113, Tryz.ntmps113
       go_wp2
       go_returns
       exact ⟨rets1 (congrArg (Value.int .i64) HR.out), rfl⟩
     ·skip
      have hout0 : ¬ k + 4 ≤ s.size → charN (bl s) k = 0 := fun h => charN_outs (by omega) (by rw [ha, if_neg (by omega), if_neg (by omega), hl]; omega)
      by_cases hout : k + 4 ≤ s.size
      ·have HF := Lib.hid (charN_four (l := bl s) (k := k) (by omega) (by omega) (by omega))
       clear hout0
       rw [ha] at HF
       have hb1 : k + 1 < s.size := by omega
       have g1 := get_bt s (k + 1) hb1
       have x1 := bt_nonneg s (k + 1)
       have y1 := bt_le s (k + 1)
       have hi1 : (k : Int) + 1 < (s.size : Int) := by omega
       have hn1 : ((k : Int) + 1).toNat = k + 1 := by omega
       rw [← bt_g s (k + 1)] at HF
       have hb2 : k + 2 < s.size := by omega
       have g2 := get_bt s (k + 2) hb2
       have x2 := bt_nonneg s (k + 2)
       have y2 := bt_le s (k + 2)
       have hi2 : (k : Int) + 2 < (s.size : Int) := by omega
       have hn2 : ((k : Int) + 2).toNat = k + 2 := by omega
       rw [← bt_g s (k + 2)] at HF
       have hb3 : k + 3 < s.size := by omega
       have g3 := get_bt s (k + 3) hb3
       have x3 := bt_nonneg s (k + 3)
       have y3 := bt_le s (k + 3)
       have hi3 : (k : Int) + 3 < (s.size : Int) := by omega
       have hn3 : ((k : Int) + 3).toNat = k + 3 := by omega
       rw [← bt_g s (k + 3)] at HF
       generalize charN (bl s) k = R at *
       generalize bt s k = a at *
       generalize bt s (k + 1) = b1 at *
       generalize bt s (k + 2) = b2 at *
       generalize bt s (k + 3) = b3 at *
       have hz : ¬ (s.size : Int) < (k : Int) + 4 := by omega
       clear hl ha hout
       go_enter Tryz.func113, Tryz.ntmps113
       go_wp2
       go_loopw [7, 8] (fun nv iv wr => ∃ (j : Nat) (n : Int), iv = .int .i64 (j : Int) ∧ nv = .int .i64 n ∧ wr = w ∧ Hid ((j = 1 ∧ n = a - 240) ∨ (j = 2 ∧ n = 64 * (a - 240) + b1 - 128 ∧ 128 ≤ b1 ∧ b1 ≤ 191) ∨ (j = 3 ∧ n = 64 * (64 * (a - 240) + b1 - 128) + b2 - 128 ∧ 128 ≤ b1 ∧ b1 ≤ 191 ∧ 128 ≤ b2 ∧ b2 ≤ 191) ∨ (j = 4 ∧ n = 64 * (64 * (64 * (a - 240) + b1 - 128) + b2 - 128) + b3 - 128 ∧ 128 ≤ b1 ∧ b1 ≤ 191 ∧ 128 ≤ b2 ∧ b2 ≤ 191 ∧ 128 ≤ b3 ∧ b3 ≤ 191))) (fun _ iv _ => 4 - (intOf iv).toNat)
       case atStart => exact ⟨1, a - 240, rfl, rfl, rfl, Lib.hid (.inl ⟨rfl, rfl⟩)⟩
       case round =>
        obtain ⟨j, n, rfl, rfl, rfl, HK⟩ := hrel
        rcases HK.out with ⟨rfl, hn⟩ | ⟨rfl, hn, p1, q1⟩ | ⟨rfl, hn, p1, q1, p2, q2⟩ | ⟨rfl, hn, p1, q1, p2, q2, p3, q3⟩
        ·have n0 : 0 ≤ n ∧ n ≤ 31 := by omega
         obtain ⟨n0, n1⟩ := n0
         clear HK
         by_cases t1 : b1 < 128
         ·have HR : Hid ((0 : Int) = (R : Int)) := Lib.hid (by rw [HF.out, if_neg (by omega)]; rfl)
          clear HF hn
          go_wp2
          go_returns
          exact ⟨rets1 (congrArg (Value.int .i64) HR.out), rfl⟩
         ·by_cases t2 : 191 < b1
          ·have HR : Hid ((0 : Int) = (R : Int)) := Lib.hid (by rw [HF.out, if_neg (by omega)]; rfl)
           clear HF hn
           go_wp2
           go_returns
           exact ⟨rets1 (congrArg (Value.int .i64) HR.out), rfl⟩
          ·have HN := Lib.hid hn
           clear hn
           go_wp2
           go_roundw
           case rel => exact ⟨2, 64 * n + b1 - 128, rfl, rfl, trivial, Lib.hid (.inr (.inl ⟨rfl, by rw [HN.out], by omega, by omega⟩))⟩
           case measure => simp [intOf]
        ·have n0 : 0 ≤ n ∧ n ≤ 2047 := by omega
         obtain ⟨n0, n1⟩ := n0
         clear HK
         by_cases t1 : b2 < 128
         ·have HR : Hid ((0 : Int) = (R : Int)) := Lib.hid (by rw [HF.out, if_neg (by omega)]; rfl)
          clear HF hn
          go_wp2
          go_returns
          exact ⟨rets1 (congrArg (Value.int .i64) HR.out), rfl⟩
         ·by_cases t2 : 191 < b2
          ·have HR : Hid ((0 : Int) = (R : Int)) := Lib.hid (by rw [HF.out, if_neg (by omega)]; rfl)
           clear HF hn
           go_wp2
           go_returns
           exact ⟨rets1 (congrArg (Value.int .i64) HR.out), rfl⟩
          ·have HN := Lib.hid hn
           clear hn
           go_wp2
           go_roundw
           case rel => exact ⟨3, 64 * n + b2 - 128, rfl, rfl, trivial, Lib.hid (.inr (.inr (.inl ⟨rfl, by rw [HN.out], by omega, by omega, by omega, by omega⟩)))⟩
           case measure => simp [intOf]
        ·have n0 : 0 ≤ n ∧ n ≤ 65535 := by omega
         obtain ⟨n0, n1⟩ := n0
         clear HK
         by_cases t1 : b3 < 128
         ·have HR : Hid ((0 : Int) = (R : Int)) := Lib.hid (by rw [HF.out, if_neg (by omega)]; rfl)
          clear HF hn
          go_wp2
          go_returns
          exact ⟨rets1 (congrArg (Value.int .i64) HR.out), rfl⟩
         ·by_cases t2 : 191 < b3
          ·have HR : Hid ((0 : Int) = (R : Int)) := Lib.hid (by rw [HF.out, if_neg (by omega)]; rfl)
           clear HF hn
           go_wp2
           go_returns
           exact ⟨rets1 (congrArg (Value.int .i64) HR.out), rfl⟩
          ·have HN := Lib.hid hn
           clear hn
           go_wp2
           go_roundw
           case rel => exact ⟨4, 64 * n + b3 - 128, rfl, rfl, trivial, Lib.hid (.inr (.inr (.inr (⟨rfl, by rw [HN.out], by omega, by omega, by omega, by omega, by omega, by omega⟩))))⟩
           case measure => simp [intOf]
        ·have n0 : 0 ≤ n ∧ n ≤ 2097151 := by omega
         obtain ⟨n0, n1⟩ := n0
         clear HK
         by_cases u0 : n < 65536
         ·have HR : Hid ((0 : Int) = (R : Int)) := Lib.hid (by rw [HF.out, if_neg (by omega)]; rfl)
          clear HF hn
          go_wp2
          go_returns
          exact ⟨rets1 (congrArg (Value.int .i64) HR.out), rfl⟩
         ·by_cases u1 : 1114111 < n
          ·have HR : Hid ((0 : Int) = (R : Int)) := Lib.hid (by rw [HF.out, if_neg (by omega)]; rfl)
           clear HF hn
           go_wp2
           go_returns
           exact ⟨rets1 (congrArg (Value.int .i64) HR.out), rfl⟩
          ·have HR : Hid ((4 : Int) = (R : Int)) := Lib.hid (by rw [HF.out, if_pos (by omega)]; rfl)
           clear HF hn
           go_wp2
           go_returns
           exact ⟨rets1 (congrArg (Value.int .i64) HR.out), rfl⟩
      ·have HF : Hid (charN (bl s) k = 0) := Lib.hid (hout0 hout)
       clear hout0
       generalize charN (bl s) k = R at *
       generalize bt s k = a at *
       have hz : (s.size : Int) < (k : Int) + 4 := by omega
       have HR : Hid ((0 : Int) = (R : Int)) := Lib.hid (by rw [HF.out]; rfl)
       clear HF
       clear hl ha hout
       go_enter Tryz.func113, Tryz.ntmps113
       go_wp2
       go_returns
       exact ⟨rets1 (congrArg (Value.int .i64) HR.out), rfl⟩
end Go.Proofs.YtiiimhamfibdbaaGreat
/- What the reference's plain, Utf8, Check and last of strings give. Of every tag, byte, and text of at most a million bytes. -/
namespace Go.Proofs.YtiiimhamfibdbaaGreat
open Go.RowKit Go.PlainAid
set_option linter.unusedVariables false
def othS : ByteArray := ⟨#[32, 39, 40, 41, 43, 44, 45, 46, 47, 58, 61, 63]⟩
theorem oth_in {x : Int} : (∃ i : Nat, i < 12 ∧ bt othS i = x) ↔ (x = 32 ∨ (39 ≤ x ∧ x ≤ 41) ∨ (43 ≤ x ∧ x ≤ 47) ∨ x = 58 ∨ x = 61 ∨ x = 63) := by
 constructor
 ·rintro ⟨i, hi, rfl⟩
  rcases (by omega : i = 0 ∨ i = 1 ∨ i = 2 ∨ i = 3 ∨ i = 4 ∨ i = 5 ∨ i = 6 ∨ i = 7 ∨ i = 8 ∨ i = 9 ∨ i = 10 ∨ i = 11) with rfl | rfl | rfl | rfl | rfl | rfl | rfl | rfl | rfl | rfl | rfl | rfl <;> decide +kernel
 ·intro h
  rcases (by omega : x = 32 ∨ x = 39 ∨ x = 40 ∨ x = 41 ∨ x = 43 ∨ x = 44 ∨ x = 45 ∨ x = 46 ∨ x = 47 ∨ x = 58 ∨ x = 61 ∨ x = 63) with rfl | rfl | rfl | rfl | rfl | rfl | rfl | rfl | rfl | rfl | rfl | rfl
  ·exact ⟨0, by decide, by decide +kernel⟩
  ·exact ⟨1, by decide, by decide +kernel⟩
  ·exact ⟨2, by decide, by decide +kernel⟩
  ·exact ⟨3, by decide, by decide +kernel⟩
  ·exact ⟨4, by decide, by decide +kernel⟩
  ·exact ⟨5, by decide, by decide +kernel⟩
  ·exact ⟨6, by decide, by decide +kernel⟩
  ·exact ⟨7, by decide, by decide +kernel⟩
  ·exact ⟨8, by decide, by decide +kernel⟩
  ·exact ⟨9, by decide, by decide +kernel⟩
  ·exact ⟨10, by decide, by decide +kernel⟩
  ·exact ⟨11, by decide, by decide +kernel⟩
set_option maxHeartbeats 4000000 in
theorem refTextPlain_any (tag x : Int) (hx : 0 ≤ x ∧ x ≤ 255) (w : World) :
  Calls Tryz.prog 87 #[.int .i64 tag, .int .u8 x] w fun e w' => e = .returned (.bool (decide (plT tag x))) ∧ w' = w := by
 obtain ⟨x0, x1⟩ := hx
 by_cases h22 : tag = 22
 ·subst h22
  have HF : Hid (decide (x < 128) = decide (plT 22 x)) := Lib.hid (decide_eq_decide.2 ⟨fun h => ⟨fun _ => h, fun e => absurd e (by decide)⟩, fun h => h.1 rfl⟩)
  generalize decide (plT 22 x) = R at *
  go_enter Tryz.func87, Tryz.ntmps87
  go_wp2
  go_returns
  exact ⟨rets1 (congrArg Value.bool HF.out), rfl⟩
 ·have h22b : (tag == 22) = false := by simpa using h22
  by_cases h19 : tag = 19
  ·subst h19
   have HF : Hid (decide (plT 19 x) = decide ((65 ≤ x ∧ x ≤ 90) ∨ (97 ≤ x ∧ x ≤ 122) ∨ (48 ≤ x ∧ x ≤ 57) ∨ (∃ i : Nat, i < 12 ∧ bt othS i = x))) := Lib.hid (decide_eq_decide.2 (by
    rw [oth_in]
    exact ⟨fun h => h.2 rfl, fun h => ⟨fun e => absurd e (by decide), fun _ => h⟩⟩))
   generalize decide (plT 19 x) = R at *
   by_cases c1 : 65 ≤ x ∧ x ≤ 90
   ·obtain ⟨p, q⟩ := c1
    have HR : Hid (true = R) := Lib.hid (by rw [HF.out, decide_eq_true (.inl ⟨p, q⟩)])
    clear HF
    go_enter Tryz.func87, Tryz.ntmps87
    go_wp2
    go_returns
    exact ⟨rets1 (congrArg Value.bool HR.out), rfl⟩
   ·by_cases c2 : 97 ≤ x ∧ x ≤ 122
    ·obtain ⟨p, q⟩ := c2
     have HR : Hid (true = R) := Lib.hid (by rw [HF.out, decide_eq_true (.inr (.inl ⟨p, q⟩))])
     have n1 : ¬ x ≤ 90 := by omega
     clear HF c1
     go_enter Tryz.func87, Tryz.ntmps87
     go_wp2
     go_returns
     exact ⟨rets1 (congrArg Value.bool HR.out), rfl⟩
    ·by_cases c3 : 48 ≤ x ∧ x ≤ 57
     ·obtain ⟨p, q⟩ := c3
      have HR : Hid (true = R) := Lib.hid (by rw [HF.out, decide_eq_true (.inr (.inr (.inl ⟨p, q⟩)))])
      have n1 : ¬ 65 ≤ x := by omega
      have n2 : ¬ 97 ≤ x := by omega
      clear HF c1 c2
      go_enter Tryz.func87, Tryz.ntmps87
      go_wp2
      go_returns
      exact ⟨rets1 (congrArg Value.bool HR.out), rfl⟩
     ·have HI : Hid (R = decide (∃ i : Nat, i < 12 ∧ bt othS i = x)) := Lib.hid (by rw [HF.out]; exact decide_eq_decide.2 ⟨fun h => by rcases h with h | h | h | h; exact absurd h c1; exact absurd h c2; exact absurd h c3; exact h, fun h => .inr (.inr (.inr h))⟩)
      have HG : Hid (∀ (i : Nat) (hi : i < 12), ((((⟨#[32, 39, 40, 41, 43, 44, 45, 46, 47, 58, 61, 63]⟩ : ByteArray)[i]'hi).toNat : Nat) : Int) = bt othS i) := Lib.hid (fun i hi => get_bt othS i hi)
      clear HF
      rcases (by omega : x < 48 ∨ (57 < x ∧ x < 65) ∨ (90 < x ∧ x < 97) ∨ 122 < x) with hx | hx | hx | hx
      ·have n1 : ¬ 65 ≤ x := by omega
       have n2 : ¬ 97 ≤ x := by omega
       have n3 : ¬ 48 ≤ x := by omega
       clear hx c1 c2 c3
       go_enter Tryz.func87, Tryz.ntmps87
       go_wp2
       go_loopw [6] (fun iv wr => ∃ (i : Nat), iv = .int .i64 (i : Int) ∧ i ≤ 12 ∧ wr = w ∧ Hid (∀ j : Nat, j < i → bt othS j ≠ x)) (fun iv _ => 12 - (intOf iv).toNat)
       case atStart => exact ⟨0, rfl, by omega, rfl, Lib.hid (fun j hj => by omega)⟩
       case round =>
        obtain ⟨i, rfl, hi, rfl, HN⟩ := hrel
        by_cases hlt : i < 12
        ·have hbt := HG.out i hlt
         have hlti : (i : Int) < 12 := by omega
         obtain ⟨z, hz⟩ : ∃ z, bt othS i = z := ⟨_, rfl⟩
         by_cases he : z = x
         ·have HR : Hid (true = R) := Lib.hid (by rw [HI.out, decide_eq_true ⟨i, hlt, hz.trans he⟩])
          rw [hz] at hbt
          subst he
          clear hz HI HN
          go_wp2
          go_returns
          exact ⟨rets1 (congrArg Value.bool HR.out), rfl⟩
         ·have hne : (z == x) = false := by simpa using he
          have HN2 : Hid (∀ j : Nat, j < i + 1 → bt othS j ≠ x) := Lib.hid (fun j hj => by
           by_cases hji : j = i
           ·rw [hji, hz]; exact he
           ·exact HN.out j (by omega))
          rw [hz] at hbt
          clear he hz HN
          go_wp2
          go_roundw
          case rel => exact ⟨i + 1, by simp, by omega, trivial, HN2⟩
          case measure => simp [intOf]; omega
        ·have HR : Hid (false = R) := Lib.hid (by rw [HI.out, decide_eq_false (fun h => by obtain ⟨j, hj, hh⟩ := h; exact HN.out j (by omega) hh)])
         have hge : ¬ (i : Int) < 12 := by omega
         clear HI HN
         go_wp2
         go_returns
         exact ⟨rets1 (congrArg Value.bool HR.out), rfl⟩
      ·have n1 : ¬ 65 ≤ x := by omega
       have n2 : ¬ 97 ≤ x := by omega
       have n3 : 48 ≤ x := by omega
       have n4 : ¬ x ≤ 57 := by omega
       clear hx c1 c2 c3
       go_enter Tryz.func87, Tryz.ntmps87
       go_wp2
       go_loopw [6] (fun iv wr => ∃ (i : Nat), iv = .int .i64 (i : Int) ∧ i ≤ 12 ∧ wr = w ∧ Hid (∀ j : Nat, j < i → bt othS j ≠ x)) (fun iv _ => 12 - (intOf iv).toNat)
       case atStart => exact ⟨0, rfl, by omega, rfl, Lib.hid (fun j hj => by omega)⟩
       case round =>
        obtain ⟨i, rfl, hi, rfl, HN⟩ := hrel
        by_cases hlt : i < 12
        ·have hbt := HG.out i hlt
         have hlti : (i : Int) < 12 := by omega
         obtain ⟨z, hz⟩ : ∃ z, bt othS i = z := ⟨_, rfl⟩
         by_cases he : z = x
         ·have HR : Hid (true = R) := Lib.hid (by rw [HI.out, decide_eq_true ⟨i, hlt, hz.trans he⟩])
          rw [hz] at hbt
          subst he
          clear hz HI HN
          go_wp2
          go_returns
          exact ⟨rets1 (congrArg Value.bool HR.out), rfl⟩
         ·have hne : (z == x) = false := by simpa using he
          have HN2 : Hid (∀ j : Nat, j < i + 1 → bt othS j ≠ x) := Lib.hid (fun j hj => by
           by_cases hji : j = i
           ·rw [hji, hz]; exact he
           ·exact HN.out j (by omega))
          rw [hz] at hbt
          clear he hz HN
          go_wp2
          go_roundw
          case rel => exact ⟨i + 1, by simp, by omega, trivial, HN2⟩
          case measure => simp [intOf]; omega
        ·have HR : Hid (false = R) := Lib.hid (by rw [HI.out, decide_eq_false (fun h => by obtain ⟨j, hj, hh⟩ := h; exact HN.out j (by omega) hh)])
         have hge : ¬ (i : Int) < 12 := by omega
         clear HI HN
         go_wp2
         go_returns
         exact ⟨rets1 (congrArg Value.bool HR.out), rfl⟩
      ·have n1 : 65 ≤ x := by omega
       have n5 : ¬ x ≤ 90 := by omega
       have n2 : ¬ 97 ≤ x := by omega
       have n3 : 48 ≤ x := by omega
       have n4 : ¬ x ≤ 57 := by omega
       clear hx c1 c2 c3
       go_enter Tryz.func87, Tryz.ntmps87
       go_wp2
       go_loopw [6] (fun iv wr => ∃ (i : Nat), iv = .int .i64 (i : Int) ∧ i ≤ 12 ∧ wr = w ∧ Hid (∀ j : Nat, j < i → bt othS j ≠ x)) (fun iv _ => 12 - (intOf iv).toNat)
       case atStart => exact ⟨0, rfl, by omega, rfl, Lib.hid (fun j hj => by omega)⟩
       case round =>
        obtain ⟨i, rfl, hi, rfl, HN⟩ := hrel
        by_cases hlt : i < 12
        ·have hbt := HG.out i hlt
         have hlti : (i : Int) < 12 := by omega
         obtain ⟨z, hz⟩ : ∃ z, bt othS i = z := ⟨_, rfl⟩
         by_cases he : z = x
         ·have HR : Hid (true = R) := Lib.hid (by rw [HI.out, decide_eq_true ⟨i, hlt, hz.trans he⟩])
          rw [hz] at hbt
          subst he
          clear hz HI HN
          go_wp2
          go_returns
          exact ⟨rets1 (congrArg Value.bool HR.out), rfl⟩
         ·have hne : (z == x) = false := by simpa using he
          have HN2 : Hid (∀ j : Nat, j < i + 1 → bt othS j ≠ x) := Lib.hid (fun j hj => by
           by_cases hji : j = i
           ·rw [hji, hz]; exact he
           ·exact HN.out j (by omega))
          rw [hz] at hbt
          clear he hz HN
          go_wp2
          go_roundw
          case rel => exact ⟨i + 1, by simp, by omega, trivial, HN2⟩
          case measure => simp [intOf]; omega
        ·have HR : Hid (false = R) := Lib.hid (by rw [HI.out, decide_eq_false (fun h => by obtain ⟨j, hj, hh⟩ := h; exact HN.out j (by omega) hh)])
         have hge : ¬ (i : Int) < 12 := by omega
         clear HI HN
         go_wp2
         go_returns
         exact ⟨rets1 (congrArg Value.bool HR.out), rfl⟩
      ·have n1 : 65 ≤ x := by omega
       have n5 : ¬ x ≤ 90 := by omega
       have n2 : 97 ≤ x := by omega
       have n6 : ¬ x ≤ 122 := by omega
       have n3 : 48 ≤ x := by omega
       have n4 : ¬ x ≤ 57 := by omega
       clear hx c1 c2 c3
       go_enter Tryz.func87, Tryz.ntmps87
       go_wp2
       go_loopw [6] (fun iv wr => ∃ (i : Nat), iv = .int .i64 (i : Int) ∧ i ≤ 12 ∧ wr = w ∧ Hid (∀ j : Nat, j < i → bt othS j ≠ x)) (fun iv _ => 12 - (intOf iv).toNat)
       case atStart => exact ⟨0, rfl, by omega, rfl, Lib.hid (fun j hj => by omega)⟩
       case round =>
        obtain ⟨i, rfl, hi, rfl, HN⟩ := hrel
        by_cases hlt : i < 12
        ·have hbt := HG.out i hlt
         have hlti : (i : Int) < 12 := by omega
         obtain ⟨z, hz⟩ : ∃ z, bt othS i = z := ⟨_, rfl⟩
         by_cases he : z = x
         ·have HR : Hid (true = R) := Lib.hid (by rw [HI.out, decide_eq_true ⟨i, hlt, hz.trans he⟩])
          rw [hz] at hbt
          subst he
          clear hz HI HN
          go_wp2
          go_returns
          exact ⟨rets1 (congrArg Value.bool HR.out), rfl⟩
         ·have hne : (z == x) = false := by simpa using he
          have HN2 : Hid (∀ j : Nat, j < i + 1 → bt othS j ≠ x) := Lib.hid (fun j hj => by
           by_cases hji : j = i
           ·rw [hji, hz]; exact he
           ·exact HN.out j (by omega))
          rw [hz] at hbt
          clear he hz HN
          go_wp2
          go_roundw
          case rel => exact ⟨i + 1, by simp, by omega, trivial, HN2⟩
          case measure => simp [intOf]; omega
        ·have HR : Hid (false = R) := Lib.hid (by rw [HI.out, decide_eq_false (fun h => by obtain ⟨j, hj, hh⟩ := h; exact HN.out j (by omega) hh)])
         have hge : ¬ (i : Int) < 12 := by omega
         clear HI HN
         go_wp2
         go_returns
         exact ⟨rets1 (congrArg Value.bool HR.out), rfl⟩
  ·have h19b : (tag != 19) = true := by simpa using h19
   have HF : Hid (true = decide (plT tag x)) := Lib.hid (decide_eq_true ⟨fun e => absurd e h22, fun e => absurd e h19⟩).symm
   generalize decide (plT tag x) = R at *
   clear h22 h19
   go_enter Tryz.func87, Tryz.ntmps87
   go_wp2
   go_returns
   exact ⟨rets1 (congrArg Value.bool HF.out), rfl⟩
set_option maxHeartbeats 1600000 in
theorem refUtf8_any (s : ByteArray) (hs : s.size ≤ 1000000) (w : World) :
  Calls Tryz.prog 86 #[.string s] w fun e w' => e = .returned (.bool (decide (rightT 12 (bl s)))) ∧ w' = w := by
 have hb9 : (s.size : Int) ≤ 1000000 := by omega
 have HC := Lib.hid (fun (k : Nat) (hk : k < s.size) => refChar_any s k hs hk)
 have HL := Lib.hid (bl_length s)
 have HF : Hid (decide (rightT 12 (bl s)) = decide (uR (bl s) = some [])) := Lib.hid (decide_eq_decide.2 right_utf8)
 generalize decide (rightT 12 (bl s)) = R at *
 go_enter Tryz.func86, Tryz.ntmps86
 go_wp2
 go_loopw [3] (fun iv wr => ∃ (k : Nat), iv = .int .i64 (k : Int) ∧ k ≤ s.size ∧ wr = w ∧ Hid (uR ((bl s).take k) = some [])) (fun iv _ => s.size - (intOf iv).toNat)
 case atStart => exact ⟨0, rfl, by omega, rfl, Lib.hid (by rw [List.take_zero]; rfl)⟩
 case round =>
  obtain ⟨k, rfl, hk, rfl, HU⟩ := hrel
  by_cases hlt : k < s.size
  ·have hlti : (k : Int) < (s.size : Int) := by omega
   have HCk := Lib.hid (HC.out k hlt)
   have hkl : k < (bl s).length := by rw [HL.out]; exact hlt
   obtain ⟨m, hm⟩ : ∃ m, charN (bl s) k = m := ⟨_, rfl⟩
   rw [hm] at HCk
   by_cases h0 : m = 0
   ·subst h0
    have HR : Hid (false = R) := Lib.hid (by
     rw [HF.out, uR_stuck HU.out hkl hm]
     refine (decide_eq_false ?_).symm
     split
     ·intro e
      have := congrArg List.length (Option.some.inj e)
      rw [List.length_drop] at this
      simp at this
      omega
     ·intro e; cases e)
    clear hm HU HF
    go_wp2_with fail
    refine (HCk.out _).mono ?_
    rintro e w1 ⟨rfl, rfl⟩
    go_wp2
    go_returns
    exact ⟨rets1 (congrArg Value.bool HR.out), rfl⟩
   ·obtain ⟨hu, hle⟩ := uR_char HU.out hkl hm (by omega)
    have HU2 := Lib.hid hu
    rw [HL.out] at hle
    have hm4 : (m : Int) ≤ 1000000 := by omega
    have hmb : ((m : Int) == 0) = false := by simpa using h0
    clear hm HU hu
    go_wp2_with fail
    refine (HCk.out _).mono ?_
    rintro e w1 ⟨rfl, rfl⟩
    go_wp2
    go_roundw
    case rel => exact ⟨k + m, by simp, hle, trivial, HU2⟩
    case measure => simp [intOf]; omega
  ·have hge : ¬ (k : Int) < (s.size : Int) := by omega
   have HR : Hid (true = R) := Lib.hid (by
    have h := HU.out
    rw [List.take_of_length_le (by rw [HL.out]; omega)] at h
    rw [HF.out, decide_eq_true h])
   clear HF HU
   go_wp2
   go_returns
   exact ⟨rets1 (congrArg Value.bool HR.out), rfl⟩
set_option maxHeartbeats 1600000 in
theorem refTextCheck_any (tag : Int) (s : ByteArray) (hs : s.size ≤ 1000000) (w : World) :
  Calls Tryz.prog 65 #[.int .i64 tag, .string s] w fun e w' => e = .returned (.bool (decide (rightT tag (bl s)))) ∧ w' = w := by
 have hb9 : (s.size : Int) ≤ 1000000 := by omega
 by_cases ht : tag = 12
 ·subst ht
  have HU := Lib.hid (refUtf8_any s hs)
  generalize decide (rightT 12 (bl s)) = R at *
  go_enter Tryz.func65, Tryz.ntmps65
  go_wp2_with fail
  refine (HU.out _).mono ?_
  rintro e w1 ⟨rfl, rfl⟩
  go_wp2
  go_returns
  exact ⟨rfl, rfl⟩
 ·have htb : (tag == 12) = false := by simpa using ht
  have HF : Hid (decide (rightT tag (bl s)) = decide (∀ i : Nat, i < s.size → plT tag (bt s i))) := Lib.hid (decide_eq_decide.2 (by
   rw [right_plain ht]
   constructor
   ·intro h i hi
    have := h ((bl s)[i]'(by rw [bl_length]; exact hi)) (List.getElem_mem _)
    rwa [bl_get] at this
   ·intro h x hx
    obtain ⟨i, hi, rfl⟩ := List.getElem_of_mem hx
    rw [bl_get]
    exact h i (by rw [bl_length] at hi; exact hi)))
  generalize decide (rightT tag (bl s)) = R at *
  have HP := Lib.hid (fun (i : Nat) => refTextPlain_any tag (bt s i) ⟨bt_nonneg s i, bt_le s i⟩)
  have HG := Lib.hid (get_bt s)
  clear ht
  go_enter Tryz.func65, Tryz.ntmps65
  go_wp2
  go_loopw [5] (fun iv wr => ∃ (i : Nat), iv = .int .i64 (i : Int) ∧ i ≤ s.size ∧ wr = w ∧ Hid (∀ j : Nat, j < i → plT tag (bt s j))) (fun iv _ => s.size - (intOf iv).toNat)
  case atStart => exact ⟨0, rfl, by omega, rfl, Lib.hid (fun j hj => by omega)⟩
  case round =>
   obtain ⟨i, rfl, hi, rfl, HA⟩ := hrel
   by_cases hlt : i < s.size
   ·have hlti : (i : Int) < (s.size : Int) := by omega
    have hbt := HG.out i hlt
    have HPi := Lib.hid (HP.out i)
    by_cases hp : plT tag (bt s i)
    ·have HA2 : Hid (∀ j : Nat, j < i + 1 → plT tag (bt s j)) := Lib.hid (fun j hj => by
      by_cases hji : j = i
      ·rw [hji]; exact hp
      ·exact HA.out j (by omega))
     rw [decide_eq_true hp] at HPi
     generalize bt s i = z at *
     clear hp HA
     go_wp2_with fail
     refine (HPi.out _).mono ?_
     rintro e w1 ⟨rfl, rfl⟩
     go_wp2
     go_roundw
     case rel => exact ⟨i + 1, by simp, by omega, trivial, HA2⟩
     case measure => simp [intOf]; omega
    ·have HR : Hid (false = R) := Lib.hid (by rw [HF.out]; exact (decide_eq_false (fun h => hp (h i hlt))).symm)
     rw [decide_eq_false hp] at HPi
     generalize bt s i = z at *
     clear hp HA HF
     go_wp2_with fail
     refine (HPi.out _).mono ?_
     rintro e w1 ⟨rfl, rfl⟩
     go_wp2
     go_returns
     exact ⟨rets1 (congrArg Value.bool HR.out), rfl⟩
   ·have hge : ¬ (i : Int) < (s.size : Int) := by omega
    have HR : Hid (true = R) := Lib.hid (by rw [HF.out]; exact (decide_eq_true (fun j hj => HA.out j (by omega))).symm)
    clear HA HF
    go_wp2
    go_returns
    exact ⟨rets1 (congrArg Value.bool HR.out), rfl⟩
def lastF (l : List Int) : Nat → Nat → Nat
 |0, k => k
 |f + 1, k => if k < l.length then (if charN l k = 0 then k else lastF l f (k + charN l k)) else k
def lastK (l : List Int) : Nat := lastF l (l.length + 1) 0
theorem lastF_spec (l : List Int) : ∀ (f k : Nat), uR (l.take k) = some [] → k ≤ l.length → l.length < f + k → uR (l.take (lastF l f k)) = some [] ∧ lastF l f k ≤ l.length ∧ (lastF l f k = l.length ∨ charN l (lastF l f k) = 0) := by
 intro f
 induction f with
 |zero => intro k _ _ h; omega
 |succ f ih =>
  intro k hu hk h
  by_cases hlt : k < l.length
  ·by_cases h0 : charN l k = 0
   ·have e : lastF l (f + 1) k = k := by rw [lastF, if_pos hlt, if_pos h0]
    rw [e]
    exact ⟨hu, hk, .inr h0⟩
   ·have e : lastF l (f + 1) k = lastF l f (k + charN l k) := by rw [lastF, if_pos hlt, if_neg h0]
    rw [e]
    obtain ⟨hu2, hle⟩ := uR_char hu hlt rfl (by omega)
    exact ih _ hu2 hle (by omega)
  ·have e : lastF l (f + 1) k = k := by rw [lastF, if_neg hlt]
   rw [e]
   exact ⟨hu, hk, .inl (by omega)⟩
theorem lastK_spec (l : List Int) : uR (l.take (lastK l)) = some [] ∧ lastK l ≤ l.length ∧ (lastK l = l.length ∨ charN l (lastK l) = 0) :=
 lastF_spec l _ 0 (by rw [List.take_zero]; rfl) (by omega) (by omega)
def lastI (l : List Int) : Int := if 3 < (l.length : Int) - (lastK l : Int) then -1 else lastK l
set_option maxHeartbeats 1600000 in
theorem refLast_any (s : ByteArray) (hs : s.size ≤ 1000000) (w : World) :
  Calls Tryz.prog 112 #[.string s] w fun e w' => e = .returned (.int .i64 (lastI (bl s))) ∧ w' = w := by
 have hb9 : (s.size : Int) ≤ 1000000 := by omega
 have HC := Lib.hid (fun (k : Nat) (hk : k < s.size) => refChar_any s k hs hk)
 have HL := Lib.hid (bl_length s)
 have HF : Hid (lastI (bl s) = if 3 < (s.size : Int) - (lastK (bl s) : Int) then (-1 : Int) else (lastK (bl s) : Int)) := Lib.hid (by unfold lastI; rw [bl_length])
 have HK : Hid (lastF (bl s) (s.size + 1) 0 = lastK (bl s)) := Lib.hid (by unfold lastK; rw [bl_length])
 have hK1 := (lastK_spec (bl s)).2.1
 rw [bl_length] at hK1
 generalize lastI (bl s) = R at *
 generalize lastK (bl s) = K at *
 go_enter Tryz.func112, Tryz.ntmps112
 go_wp2
 go_loopw [3] (fun iv wr => ∃ (k f : Nat), iv = .int .i64 (k : Int) ∧ k ≤ s.size ∧ wr = w ∧ Hid (lastF (bl s) f k = K ∧ s.size < f + k)) (fun iv _ => s.size - (intOf iv).toNat)
 case atStart => exact ⟨0, s.size + 1, rfl, by omega, rfl, Lib.hid ⟨HK.out, by omega⟩⟩
 case round =>
  obtain ⟨k, f, rfl, hk, rfl, HT⟩ := hrel
  obtain ⟨t1, t2⟩ := HT.out
  obtain ⟨f, rfl⟩ : ∃ f', f = f' + 1 := ⟨f - 1, by omega⟩
  rw [lastF, HL.out] at t1
  by_cases hlt : k < s.size
  ·have hlti : (k : Int) < (s.size : Int) := by omega
   have HCk := Lib.hid (HC.out k hlt)
   have hkl : k < (bl s).length := by rw [HL.out]; exact hlt
   rw [if_pos hlt] at t1
   obtain ⟨m, hm⟩ : ∃ m, charN (bl s) k = m := ⟨_, rfl⟩
   rw [hm] at HCk t1
   by_cases h0 : m = 0
   ·rw [if_pos h0] at t1
    subst h0
    subst t1
    by_cases h3 : 3 < (s.size : Int) - (k : Int)
    ·have HR : Hid (-1 = R) := Lib.hid (by rw [HF.out, if_pos h3])
     clear hm HT HF HK
     go_wp2_with fail
     refine (HCk.out _).mono ?_
     rintro e w1 ⟨rfl, rfl⟩
     go_wp2
     go_returns
     exact ⟨rets1 (congrArg (Value.int .i64) HR.out), rfl⟩
    ·have HR : Hid ((k : Int) = R) := Lib.hid (by rw [HF.out, if_neg h3])
     clear hm HT HF HK
     go_wp2_with fail
     refine (HCk.out _).mono ?_
     rintro e w1 ⟨rfl, rfl⟩
     go_wp2
     go_returns
     exact ⟨rets1 (congrArg (Value.int .i64) HR.out), rfl⟩
   ·rw [if_neg h0] at t1
    have hle : k + m ≤ s.size := by
     have := hm
     unfold charN at this
     split at this
     ·rename_i hc; rw [HL.out] at hc; omega
     ·omega
    have hm4 : (m : Int) ≤ 1000000 := by omega
    have hmb : ((m : Int) == 0) = false := by simpa using h0
    have HT2 : Hid (lastF (bl s) f (k + m) = K ∧ s.size < f + (k + m)) := Lib.hid ⟨t1, by omega⟩
    clear hm HT t1
    go_wp2_with fail
    refine (HCk.out _).mono ?_
    rintro e w1 ⟨rfl, rfl⟩
    go_wp2
    go_roundw
    case rel => exact ⟨k + m, f, by simp, hle, trivial, HT2⟩
    case measure => simp [intOf]; omega
  ·have hge : ¬ (k : Int) < (s.size : Int) := by omega
   rw [if_neg hlt] at t1
   subst t1
   have HR : Hid ((k : Int) = R) := Lib.hid (by rw [HF.out, if_neg (by omega)])
   have h3 : ¬ 3 < (s.size : Int) - (k : Int) := by omega
   clear HF HT HK
   go_wp2
   go_returns
   exact ⟨rets1 (congrArg (Value.int .i64) HR.out), rfl⟩
end Go.Proofs.YtiiimhamfibdbaaGreat
/- What the reference's Can and Wrong of strings give. Of every tag and number, and every text of at most a million bytes. -/
namespace Go.Proofs.YtiiimhamfibdbaaGreat
open Go.RowKit Go.PlainAid
set_option linter.unusedVariables false
def tryP (r : List Int) (j : Nat) : Prop := frontOk r ∧ sz (g r 0) = r.length + j
theorem g_rep (j : Nat) (v : Int) (i : Nat) (h : i < j) : g (List.replicate j v) i = v := by
 rw [g_at (by rw [List.length_replicate]; exact h), List.getElem_replicate]
theorem try_of {r : List Int} {j : Nat} {v : Int} (h1 : 1 ≤ r.length) (hj : 1 ≤ j) (h : charN (r ++ List.replicate j v) 0 = r.length + j) : tryP r j := by
 have e0 : g (r ++ List.replicate j v) 0 = g r 0 := g_left (by omega)
 unfold charN at h
 split at h
 ·rename_i hc
  obtain ⟨_, h2⟩ := hc
  rw [e0] at h h2
  refine ⟨⟨h1, by omega, fun i hi h5 => ?_⟩, h⟩
  have := h2 i (by omega) h5
  rwa [Nat.zero_add, g_left hi] at this
 ·omega
theorem of_try {r : List Int} {j : Nat} (h1 : 1 ≤ r.length) (hj : 1 ≤ j) (h : tryP r j) :
  charN (r ++ List.replicate j 128) 0 = r.length + j ∨ charN (r ++ List.replicate j 191) 0 = r.length + j := by
 obtain ⟨⟨_, h2, h3⟩, h4⟩ := h
 have key : ∀ v : Int, 128 ≤ v → v ≤ 191 → (r.length = 1 → contOk (g r 0) 1 v) → charN (r ++ List.replicate j v) 0 = r.length + j := by
  intro v v0 v1 hv
  have e0 : g (r ++ List.replicate j v) 0 = g r 0 := g_left (by omega)
  unfold charN
  rw [e0, h4, if_pos]
  refine ⟨by rw [List.length_append, List.length_replicate]; omega, fun i hi h5 => ?_⟩
  rw [Nat.zero_add]
  by_cases hir : i < r.length
  ·rw [g_left hir]; exact h3 i hir h5
  ·rw [g_right (by omega), g_rep _ _ _ (by omega)]
   by_cases hi1 : i = 1
   ·subst hi1; exact hv (by omega)
   ·exact ⟨v0, v1, fun e => absurd e hi1⟩
 by_cases hc : g r 0 = 224 ∨ g r 0 = 240
 ·exact .inr (key 191 (by decide) (by decide) (fun _ => ⟨by decide, by decide, fun _ => ⟨by omega, by omega, by omega, by omega⟩⟩))
 ·exact .inl (key 128 (by decide) (by decide) (fun _ => ⟨by decide, by decide, fun _ => ⟨by omega, by omega, by omega, by omega⟩⟩))
theorem can_lastT {n : Int} {l : List Int} (h0 : 0 ≤ n) (h : lastK l = l.length) : canT 12 n l := by
 have hu := (lastK_spec l).1
 rw [h, List.take_length] at hu
 exact ⟨h0, .inl ⟨rfl, (uC_some hu).2 (.inl rfl)⟩⟩
theorem can_stuckT {l : List Int} (h : lastK l < l.length) : uR l = if frontOk (l.drop (lastK l)) ∧ (l.drop (lastK l)).length < sz (g (l.drop (lastK l)) 0) then some (l.drop (lastK l)) else none := by
 obtain ⟨hu, hk, h2⟩ := lastK_spec l
 rw [uR_stuck hu h (by rcases h2 with h2 | h2; omega; exact h2), g_dropT]
 rfl
theorem can_farT {n : Int} {l : List Int} (h : lastK l < l.length) (h3 : 3 < l.length - lastK l) : ¬ canT 12 n l := by
 rintro ⟨_, hc | hc⟩
 ·have hu := can_stuckT h
  rw [if_neg (fun hh => by have := sz_le (g (l.drop (lastK l)) 0); have := hh.2; rw [List.length_drop] at this; omega)] at hu
  rw [uC_none hu] at hc
  exact absurd hc.2 (by decide)
 ·exact hc.1 rfl
theorem can_tryT {n : Int} {l : List Int} (h0 : 0 ≤ n) (h : lastK l < l.length) (h3 : l.length - lastK l ≤ 3) :
  canT 12 n l ↔ ∃ j : Nat, 1 ≤ j ∧ j ≤ 3 ∧ (l.length : Int) + (j : Int) ≤ n ∧ tryP (l.drop (lastK l)) j := by
 have hd : (l.drop (lastK l)).length = l.length - lastK l := List.length_drop
 have hu := can_stuckT h
 have hz := sz_le (g (l.drop (lastK l)) 0)
 by_cases hc : frontOk (l.drop (lastK l)) ∧ (l.drop (lastK l)).length < sz (g (l.drop (lastK l)) 0)
 ·rw [if_pos hc] at hu
  constructor
  ·rintro ⟨_, hh | hh⟩
   ·rcases (uC_some hu).1 hh.2 with h5 | h5
    ·have := congrArg List.length h5
     rw [hd] at this; simp at this; omega
    ·exact ⟨sz (g (l.drop (lastK l)) 0) - (l.drop (lastK l)).length, by omega, by omega, by omega, hc.1, by omega⟩
   ·exact absurd rfl hh.1
  ·rintro ⟨j, j1, j3, hn, ht⟩
   refine ⟨h0, .inl ⟨rfl, (uC_some hu).2 (.inr ?_)⟩⟩
   have := ht.2
   omega
 ·rw [if_neg hc] at hu
  constructor
  ·rintro ⟨_, hh | hh⟩
   ·rw [uC_none hu] at hh; exact absurd hh.2 (by decide)
   ·exact absurd rfl hh.1
  ·rintro ⟨j, j1, _, _, ht⟩
   exact absurd ⟨ht.1, by have := ht.2; omega⟩ hc
theorem can_otherT {tag n : Int} {l : List Int} (h0 : 0 ≤ n) (ht : tag ≠ 12) : canT tag n l ↔ rightT tag l := by
 rw [right_plain ht]
 exact ⟨fun h => by rcases h.2 with h | h; exact absurd h.1 ht; exact h.2, fun h => ⟨h0, .inr ⟨ht, h⟩⟩⟩
theorem rep_snocL (l : List Int) (i : Nat) (v : Int) : (l ++ List.replicate i v) ++ [v] = l ++ List.replicate (i + 1) v := by
 rw [List.append_assoc, List.replicate_succ']
set_option maxRecDepth 100000 in
set_option maxHeartbeats 16000000 in
theorem refTextCan_any (tag n : Int) (s : ByteArray) (hs : s.size ≤ 900000) (w : World) :
  Calls Tryz.prog 85 #[.int .i64 tag, .int .i64 n, .string s] w fun e w' => e = .returned (.bool (decide (canT tag n (bl s)))) ∧ Below w.heap.size w w' := by
 have hb9 : (s.size : Int) ≤ 900000 := by omega
 by_cases h0 : n < 0
 ·have HF : Hid (false = decide (canT tag n (bl s))) := Lib.hid (decide_eq_false (fun h => by have := h.1; omega)).symm
  generalize decide (canT tag n (bl s)) = B at *
  go_enter Tryz.func85, Tryz.ntmps85
  go_wp2
  go_returns
  exact ⟨rets1 (congrArg Value.bool HF.out), Below.refl _ _⟩
 ·have hn0 : 0 ≤ n := by omega
  by_cases ht : tag = 12
  ·subst ht
   have HL := Lib.hid (refLast_any s (by omega))
   have hK := (lastK_spec (bl s)).2.1
   rw [bl_length] at hK
   by_cases hfar : 3 < (s.size : Int) - (lastK (bl s) : Int)
   ·have HF : Hid (false = decide (canT 12 n (bl s))) := Lib.hid (decide_eq_false (can_farT (by rw [bl_length]; omega) (by rw [bl_length]; omega))).symm
    rw [show lastI (bl s) = -1 by unfold lastI; rw [bl_length, if_pos hfar]] at HL
    generalize decide (canT 12 n (bl s)) = B at *
    clear hfar hK
    go_enter Tryz.func85, Tryz.ntmps85
    go_wp2_with fail
    refine (HL.out _).mono ?_
    rintro e w1 ⟨rfl, rfl⟩
    go_wp2
    go_returns
    exact ⟨rets1 (congrArg Value.bool HF.out), Below.refl _ _⟩
   ·rw [show lastI (bl s) = (lastK (bl s) : Int) by unfold lastI; rw [bl_length, if_neg hfar]] at HL
    by_cases hend : lastK (bl s) = s.size
    ·have HF : Hid (true = decide (canT 12 n (bl s))) := Lib.hid (decide_eq_true (can_lastT hn0 (by rw [bl_length]; exact hend))).symm
     rw [hend] at HL
     generalize decide (canT 12 n (bl s)) = B at *
     clear hfar hK hend
     go_enter Tryz.func85, Tryz.ntmps85
     go_wp2_with fail
     refine (HL.out _).mono ?_
     rintro e w1 ⟨rfl, rfl⟩
     go_wp2
     go_returns
     exact ⟨rets1 (congrArg Value.bool HF.out), Below.refl _ _⟩
    ·have HT := Lib.hid (can_tryT (n := n) (l := bl s) hn0 (by rw [bl_length]; omega) (by rw [bl_length]; omega))
     rw [bl_length] at HT
     have hx := bl_extract s (lastK (bl s)) s.size (Nat.le_refl _)
     rw [List.take_of_length_le (by rw [List.length_drop, bl_length]; omega)] at hx
     rw [← hx] at HT
     obtain ⟨K, hKe⟩ : ∃ K, lastK (bl s) = K := ⟨_, rfl⟩
     rw [hKe] at hK hfar hend HL HT
     have hne : ((K : Int) == (s.size : Int)) = false := by simp; omega
     have hKi : (K : Int) ≤ (s.size : Int) := by omega
     have hr1 : 1 ≤ (s.extract K s.size).size ∧ (s.extract K s.size).size ≤ 900000 := by rw [ByteArray.size_extract]; omega
     obtain ⟨r, hr⟩ : ∃ r, s.extract K s.size = r := ⟨_, rfl⟩
     rw [hr] at hr1 HT
     obtain ⟨r1, r2⟩ := hr1
     have HTO : Hid (∀ (j : Nat) (v : Int), 1 ≤ j → charN (bl r ++ List.replicate j v) 0 = r.size + j → tryP (bl r) j) := Lib.hid (fun j v hj h => try_of (by rw [bl_length]; exact r1) hj (by rw [bl_length]; exact h))
     have HOT : Hid (∀ (j : Nat), 1 ≤ j → charN (bl r ++ List.replicate j 128) 0 ≠ r.size + j → charN (bl r ++ List.replicate j 191) 0 ≠ r.size + j → ¬ tryP (bl r) j) := Lib.hid (fun j hj h1 h2 h => by
      rcases of_try (by rw [bl_length]; exact r1) hj h with h3 | h3
      ·rw [bl_length] at h3; exact h1 h3
      ·rw [bl_length] at h3; exact h2 h3)
     generalize hB : decide (canT 12 n (bl s)) = B at *
     have HF : Hid (B = true ↔ ∃ j : Nat, 1 ≤ j ∧ j ≤ 3 ∧ (s.size : Int) + (j : Int) ≤ n ∧ tryP (bl r) j) := Lib.hid (by rw [← hB, decide_eq_true_eq]; exact HT.out)
     clear hx hKe hfar hend HT hB h0 hK
     go_enter Tryz.func85, Tryz.ntmps85
     go_wp2_with fail
     refine (HL.out _).mono ?_
     rintro e w1 ⟨rfl, rfl⟩
     go_wp2
     clear HL
     go_loopg [8] 3 (fun gn kv wr => ∃ k : Nat, kv = .int .i64 (k : Int) ∧ 1 ≤ k ∧ k ≤ 4 ∧ gn = 4 - k ∧ Hid (Below w1.heap.size w1 wr) ∧ Hid (∀ j : Nat, 1 ≤ j → j < k → ¬ tryP (bl r) j))
     case atStart => exact ⟨1, rfl, by omega, by omega, rfl, Lib.hid (Below.refl _ _), Lib.hid (fun j h1 h2 => by omega)⟩
     case round =>
      obtain ⟨k, rfl, hk1, hk4, rfl, HBW, HN⟩ := hrel
      by_cases hlt : k < 4
      ·have hlti : (k : Int) < 4 := by omega
       by_cases hle : (s.size : Int) + (k : Int) ≤ n
       ·go_wp2
        go_loopg [9] 2 (fun gn bv wr => ∃ b : Nat, bv = .int .i64 (b : Int) ∧ b ≤ 2 ∧ gn = 2 - b ∧ Hid (Below w1.heap.size w1 wr) ∧ Hid (∀ c : Nat, c < b → charN (bl r ++ List.replicate k (128 + 63 * (c : Int))) 0 ≠ r.size + k))
        case atStart => exact ⟨0, rfl, by omega, rfl, HBW, Lib.hid (fun c hc => by omega)⟩
        case round =>
         clear HBW
         obtain ⟨b, rfl, hb2, rfl, HBW, HC⟩ := hrel
         rcases (by omega : b = 0 ∨ b = 1 ∨ b = 2) with rfl | rfl | rfl
         ·go_wp2
          go_loopg [10, 11] k (fun gn tv iv wr => ∃ (i : Nat) (t : ByteArray), iv = .int .i64 (i : Int) ∧ tv = .string t ∧ i ≤ k ∧ gn = k - i ∧ Hid (Below w1.heap.size w1 wr) ∧ Hid (bl t = bl r ++ List.replicate i 128) ∧ t.size = r.size + i)
          case atStart => exact ⟨0, r, rfl, rfl, by omega, rfl, HBW, Lib.hid (by simp), rfl⟩
          case round =>
           clear HBW
           obtain ⟨i, t, rfl, rfl, hik, rfl, HBW, HTB, hts⟩ := hrel
           by_cases hilt : i < k
           ·have hilti : (i : Int) < (k : Int) := by omega
            have hcv := conv_one wr 128
            have hmx : ¬ 9223372036854775807 < t.size + (strOfNums [128]).size := by rw [strOfNums_size]; simp only [List.length_cons, List.length_nil]; omega
            have HB2 := Lib.hid (HBW.out.alloc HBW.out.size (.cells #[.int .u8 128] 5))
            have HTB2 : Hid (bl (t ++ strOfNums [128]) = bl r ++ List.replicate (i + 1) 128) := Lib.hid (by rw [bl_append, HTB.out, bl_str (IsB.cons (by decide) (by decide) IsB.nil), rep_snocL])
            have hts2 : (t ++ strOfNums [128]).size = r.size + (i + 1) := by rw [ByteArray.size_append, strOfNums_size]; simp only [List.length_cons, List.length_nil]; omega
            have HTS2 := Lib.hid hts2
            clear HTB hts2 HBW
            go_wp2
            go_roundg (k - (i + 1))
            case measure => omega
            case rel => exact ⟨i + 1, t ++ strOfNums [128], by simp, rfl, by omega, rfl, HB2, HTB2, HTS2.out⟩
           ·have hige : ¬ (i : Int) < (k : Int) := by omega
            obtain rfl : i = k := by omega
            have HCH : Hid (∀ W, Calls Tryz.prog 113 #[.string t, .int .i64 0] W fun e w' => e = .returned (.int .i64 (charN (bl t) 0 : Int)) ∧ w' = W) := Lib.hid (fun W => refChar_any t 0 (by omega) (by omega) W)
            rw [HTB.out] at HCH
            have HTOk := Lib.hid (HTO.out i 128 hk1)
            have HCN : Hid (charN (bl r ++ List.replicate i 128) 0 ≠ r.size + i → ∀ c : Nat, c < 1 → charN (bl r ++ List.replicate i (128 + 63 * (c : Int))) 0 ≠ r.size + i) := Lib.hid (fun h c hc => by
             rcases (by omega : c = 0) with rfl
             exact h)
            generalize charN (bl r ++ List.replicate i 128) 0 = C at *
            rw [← hts] at HTOk HCN
            clear HTB HC
            by_cases he : C = t.size
            ·have heb : ((C : Int) == (t.size : Int)) = true := by rw [he]; simp
             have HR : Hid (true = B) := Lib.hid (HF.out.2 ⟨i, hk1, by omega, hle, HTOk.out he⟩).symm
             clear he HCN HTOk HF HTO HOT HN
             go_wp2_with fail
             refine (HCH.out _).mono ?_
             rintro e w2 ⟨rfl, h2⟩
             have h2 := h2.symm
             subst h2
             go_wp2
             go_returns
             exact ⟨rets1 (congrArg Value.bool HR.out), HBW.out⟩
            ·have heb : ((C : Int) == (t.size : Int)) = false := by simp; omega
             have HC2 := Lib.hid (HCN.out he)
             rw [hts] at HC2
             clear he HCN HTOk
             go_wp2_with fail
             refine (HCH.out _).mono ?_
             rintro e w2 ⟨rfl, h2⟩
             have h2 := h2.symm
             subst h2
             go_wp2
             go_roundg 1
             case measure => decide
             case rel => exact ⟨1, by simp, by omega, rfl, HBW, HC2⟩
         ·go_wp2
          go_loopg [10, 11] k (fun gn tv iv wr => ∃ (i : Nat) (t : ByteArray), iv = .int .i64 (i : Int) ∧ tv = .string t ∧ i ≤ k ∧ gn = k - i ∧ Hid (Below w1.heap.size w1 wr) ∧ Hid (bl t = bl r ++ List.replicate i 191) ∧ t.size = r.size + i)
          case atStart => exact ⟨0, r, rfl, rfl, by omega, rfl, HBW, Lib.hid (by simp), rfl⟩
          case round =>
           clear HBW
           obtain ⟨i, t, rfl, rfl, hik, rfl, HBW, HTB, hts⟩ := hrel
           by_cases hilt : i < k
           ·have hilti : (i : Int) < (k : Int) := by omega
            have hcv := conv_one wr 191
            have hmx : ¬ 9223372036854775807 < t.size + (strOfNums [191]).size := by rw [strOfNums_size]; simp only [List.length_cons, List.length_nil]; omega
            have HB2 := Lib.hid (HBW.out.alloc HBW.out.size (.cells #[.int .u8 191] 5))
            have HTB2 : Hid (bl (t ++ strOfNums [191]) = bl r ++ List.replicate (i + 1) 191) := Lib.hid (by rw [bl_append, HTB.out, bl_str (IsB.cons (by decide) (by decide) IsB.nil), rep_snocL])
            have hts2 : (t ++ strOfNums [191]).size = r.size + (i + 1) := by rw [ByteArray.size_append, strOfNums_size]; simp only [List.length_cons, List.length_nil]; omega
            have HTS2 := Lib.hid hts2
            clear HTB hts2 HBW
            go_wp2
            go_roundg (k - (i + 1))
            case measure => omega
            case rel => exact ⟨i + 1, t ++ strOfNums [191], by simp, rfl, by omega, rfl, HB2, HTB2, HTS2.out⟩
           ·have hige : ¬ (i : Int) < (k : Int) := by omega
            obtain rfl : i = k := by omega
            have HCH : Hid (∀ W, Calls Tryz.prog 113 #[.string t, .int .i64 0] W fun e w' => e = .returned (.int .i64 (charN (bl t) 0 : Int)) ∧ w' = W) := Lib.hid (fun W => refChar_any t 0 (by omega) (by omega) W)
            rw [HTB.out] at HCH
            have HTOk := Lib.hid (HTO.out i 191 hk1)
            have HCN : Hid (charN (bl r ++ List.replicate i 191) 0 ≠ r.size + i → ∀ c : Nat, c < 2 → charN (bl r ++ List.replicate i (128 + 63 * (c : Int))) 0 ≠ r.size + i) := Lib.hid (fun h c hc => by
             rcases (by omega : c = 0 ∨ c = 1) with rfl | rfl
             ·exact HC.out 0 (by decide)
             ·exact h)
            generalize charN (bl r ++ List.replicate i 191) 0 = C at *
            rw [← hts] at HTOk HCN
            clear HTB HC
            by_cases he : C = t.size
            ·have heb : ((C : Int) == (t.size : Int)) = true := by rw [he]; simp
             have HR : Hid (true = B) := Lib.hid (HF.out.2 ⟨i, hk1, by omega, hle, HTOk.out he⟩).symm
             clear he HCN HTOk HF HTO HOT HN
             go_wp2_with fail
             refine (HCH.out _).mono ?_
             rintro e w2 ⟨rfl, h2⟩
             have h2 := h2.symm
             subst h2
             go_wp2
             go_returns
             exact ⟨rets1 (congrArg Value.bool HR.out), HBW.out⟩
            ·have heb : ((C : Int) == (t.size : Int)) = false := by simp; omega
             have HC2 := Lib.hid (HCN.out he)
             rw [hts] at HC2
             clear he HCN HTOk
             go_wp2_with fail
             refine (HCH.out _).mono ?_
             rintro e w2 ⟨rfl, h2⟩
             have h2 := h2.symm
             subst h2
             go_wp2
             go_roundg 0
             case measure => decide
             case rel => exact ⟨2, by simp, by omega, rfl, HBW, HC2⟩
         ·have HN2 : Hid (∀ j : Nat, 1 ≤ j → j < k + 1 → ¬ tryP (bl r) j) := Lib.hid (fun j h1 h2 => by
           by_cases hjk : j = k
           ·subst hjk
            exact HOT.out j h1 (HC.out 0 (by decide)) (HC.out 1 (by decide))
           ·exact HN.out j h1 (by omega))
          clear HN HC
          go_wp2
          go_roundg (4 - (k + 1))
          case measure => omega
          case rel => exact ⟨k + 1, by simp, by omega, by omega, rfl, HBW, HN2⟩
       ·have HR : Hid (false = B) := Lib.hid (by
         refine (Bool.eq_false_iff.2 (fun h => ?_)).symm
         obtain ⟨j, j1, j3, jn, jt⟩ := HF.out.1 h
         by_cases hjk : j < k
         ·exact HN.out j j1 hjk jt
         ·omega)
        clear HF HN
        go_wp2
        go_returns
        exact ⟨rets1 (congrArg Value.bool HR.out), HBW.out⟩
      ·have hge : ¬ (k : Int) < 4 := by omega
       have HR : Hid (false = B) := Lib.hid (by
        refine (Bool.eq_false_iff.2 (fun h => ?_)).symm
        obtain ⟨j, j1, j3, jn, jt⟩ := HF.out.1 h
        exact HN.out j j1 (by omega) jt)
       clear HF HN
       go_wp2
       go_returns
       exact ⟨rets1 (congrArg Value.bool HR.out), HBW.out⟩
  ·have htb : (tag != 12) = true := by simpa using ht
   have HC := Lib.hid (refTextCheck_any tag s (by omega))
   rw [decide_eq_decide.2 (can_otherT (n := n) (l := bl s) hn0 ht).symm] at HC
   generalize decide (canT tag n (bl s)) = B at *
   clear ht h0
   go_enter Tryz.func85, Tryz.ntmps85
   go_wp2_with fail
   refine (HC.out _).mono ?_
   rintro e w1 ⟨rfl, rfl⟩
   go_wp2
   go_returns
   exact ⟨rfl, Below.refl _ _⟩
end Go.Proofs.YtiiimhamfibdbaaGreat
/- What the reference's Wrong of strings gives. Of every tag and number, and every text of at most 900000 bytes. -/
namespace Go.Proofs.YtiiimhamfibdbaaGreat
open Go.RowKit Go.PlainAid
set_option linter.unusedVariables false
set_option maxHeartbeats 1600000 in
theorem refTextWrong_any (tag n : Int) (s : ByteArray) (hs : s.size ≤ 900000) (w : World) :
  Calls Tryz.prog 64 #[.int .i64 tag, .int .i64 n, .string s] w fun e w' => e = .returned (.int .i64 (txW tag n (bl s))) ∧ Below w.heap.size w w' := by
 have hb9 : (s.size : Int) ≤ 900000 := by omega
 have HC := Lib.hid (fun (i : Nat) (hi : i ≤ s.size) => (show bl (s.extract 0 i) = (bl s).take i by rw [bl_extract _ _ _ hi]; simp) ▸ refTextCan_any tag n (s.extract 0 i) (by rw [ByteArray.size_extract]; omega))
 have HW : Hid (wrF (fun i => decide (canT tag n ((bl s).take i))) (s.size + 1) 0 = txW tag n (bl s)) := Lib.hid (by unfold txW; rw [bl_length])
 have HS := Lib.hid (fun (k i : Nat) => show wrF (fun i => decide (canT tag n ((bl s).take i))) (k + 1) i = if decide (canT tag n ((bl s).take i)) = true then wrF (fun i => decide (canT tag n ((bl s).take i))) k (i + 1) else i from rfl)
 have H0 := Lib.hid (fun (i : Nat) => show wrF (fun i => decide (canT tag n ((bl s).take i))) 0 i = -1 from rfl)
 generalize txW tag n (bl s) = W at *
 go_enter Tryz.func64, Tryz.ntmps64
 go_wp2
 go_loopw [7] (fun iv wr => ∃ (i k : Nat), iv = .int .i64 (i : Int) ∧ i + k = s.size + 1 ∧ Hid (Below w.heap.size w wr) ∧ Hid (wrF (fun i => decide (canT tag n ((bl s).take i))) k i = W)) (fun iv _ => s.size + 1 - (intOf iv).toNat)
 case atStart => exact ⟨0, s.size + 1, rfl, by omega, Lib.hid (Below.refl _ _), HW⟩
 case round =>
  obtain ⟨i, k, rfl, hik, HB, HT⟩ := hrel
  by_cases hlt : i ≤ s.size
  ·have hlti : (i : Int) ≤ (s.size : Int) := by omega
   obtain ⟨k, rfl⟩ : ∃ k', k = k' + 1 := ⟨k - 1, by omega⟩
   have HCI := Lib.hid (HC.out i hlt)
   have HST := Lib.hid ((HS.out k i).symm.trans HT.out)
   by_cases hc : canT tag n ((bl s).take i)
   ·have HZ : Hid (wrF (fun i => decide (canT tag n ((bl s).take i))) k (i + 1) = W) := Lib.hid (by have := HST.out; rwa [if_pos (decide_eq_true hc)] at this)
    rw [decide_eq_true hc] at HCI
    clear hc HST HT
    go_wp2_with fail
    refine (HCI.out _).mono ?_
    rintro e w1 ⟨rfl, hb⟩
    have HB2 := Lib.hid (HB.out.trans (hb.mono HB.out.size))
    go_wp2
    go_roundw
    case rel => exact ⟨i + 1, k, by simp, by omega, HB2, HZ⟩
    case measure => simp [intOf]; omega
   ·have HZ : Hid ((i : Int) = W) := Lib.hid (by have := HST.out; rwa [if_neg (fun e => hc (of_decide_eq_true e))] at this)
    rw [decide_eq_false hc] at HCI
    clear hc HST HT
    go_wp2_with fail
    refine (HCI.out _).mono ?_
    rintro e w1 ⟨rfl, hb⟩
    have HB2 := Lib.hid (HB.out.trans (hb.mono HB.out.size))
    go_wp2
    go_returns
    exact ⟨rets1 (congrArg (Value.int .i64) HZ.out), HB2.out⟩
  ·have hne : ¬ (i : Int) ≤ (s.size : Int) := by omega
   have hk0 : k = 0 := by omega
   subst hk0
   have HZ : Hid (-1 = W) := Lib.hid ((H0.out i).symm.trans HT.out)
   go_wp2
   go_returns
   exact ⟨rets1 (congrArg (Value.int .i64) HZ.out), HB.out⟩
end Go.Proofs.YtiiimhamfibdbaaGreat
