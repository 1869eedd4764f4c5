/- What layer 16's reference gives: which of two elements comes first; Same and Great of lists of elements. Of every two elements of together at most 2^62 bytes. -/
import Derived.Test.YtiiimhamfibdbaaGreatOrd
import Derived.Test.YtiiimhamfibdbaaGreatB0
import Derived.Deep.LoopGhost
import Derived.Handy
import Derived.Laws.Cover1
namespace Go.Proofs.YtiiimhamfibdbaaGreat
open Go.RowKit Go.PlainAid
set_option linter.unusedVariables false
theorem bl_snoc0 (s : ByteArray) : bl (s ++ ⟨#[0]⟩) = bl s ++ [0] := by rw [bl_append]; rfl
theorem size_snoc0 (s : ByteArray) : (s ++ ⟨#[0]⟩ : ByteArray).size = s.size + 1 := by rw [ByteArray.size_append]; rfl
theorem cmp_less (s t : ByteArray) (h : s.size = t.size) : Op.bytesLess s.toList t.toList = decide (cmpL (bl s) (bl t) = -1) ∧ (s.toList == t.toList) = decide (cmpL (bl s) (bl t) = 0) := by
 rw [ByteArray.toList_eq, ByteArray.toList_eq]
 exact less_cmp s.data.toList t.data.toList (by rw [Array.length_toList, Array.length_toList]; exact h)
set_option maxRecDepth 100000 in
set_option maxHeartbeats 4000000 in
theorem refCompare_any (a b : ByteArray) (ha : a.size ≤ 1000000000000000) (hb : b.size ≤ 1000000000000000) (w : World) :
  Calls Tryz.prog 88 #[.string a, .string b] w fun e w' => e = .returned (.int .i64 (cmpL (bl a) (bl b))) ∧ w' = w := by
 obtain ⟨R, hR⟩ : ∃ R, cmpL (bl a) (bl b) = R := ⟨_, rfl⟩
 rw [hR]
 have HR := Lib.hid hR
 clear hR
 go_enter Tryz.func88, Tryz.ntmps88
 go_wp2_with fail
 go_loopg [0] b.size (fun gk sv wr => ∃ (s : ByteArray) (k : Nat), sv = .string s ∧ Hid (bl s = bl a ++ List.replicate k 0) ∧ s.size = a.size + k ∧ s.size ≤ max a.size b.size ∧ b.size - s.size ≤ gk ∧ w = wr)
 case atStart => exact ⟨a, 0, rfl, Lib.hid (by simp), by omega, by omega, by omega, rfl⟩
 case round =>
  obtain ⟨s, k, rfl, HS, hs, hm, hgk, rfl⟩ := hrel
  by_cases hlt : s.size < b.size
  ·have hlt2 : (s.size : Int) < (b.size : Int) := by omega
   have hov : ¬ 9223372036854775807 < s.size + (⟨#[0]⟩ : ByteArray).size := by show ¬ 9223372036854775807 < s.size + 1; omega
   go_wp2_with fail
   go_roundg (b.size - (s.size + 1))
   case measure => omega
   case rel => exact ⟨s ++ ⟨#[0]⟩, k + 1, rfl, Lib.hid (by rw [bl_snoc0, HS.out, List.replicate_succ', List.append_assoc]), by rw [size_snoc0]; omega, by rw [size_snoc0]; omega, by rw [size_snoc0]; omega, rfl⟩
  ·have hlt2 : ¬ (s.size : Int) < (b.size : Int) := by omega
   have hge : b.size ≤ s.size := by omega
   clear hlt
   go_wp2_with fail
   go_loopg [1] s.size (fun gk sv wr => ∃ (t : ByteArray) (j : Nat), sv = .string t ∧ Hid (bl t = bl b ++ List.replicate j 0) ∧ t.size = b.size + j ∧ t.size ≤ s.size ∧ s.size - t.size ≤ gk ∧ w = wr)
   case atStart => exact ⟨b, 0, rfl, Lib.hid (by simp), by omega, by omega, by omega, rfl⟩
   case round =>
    obtain ⟨t, j, rfl, HT, ht, htm, hgk2, rfl⟩ := hrel
    by_cases hlt : t.size < s.size
    ·have hlt3 : (t.size : Int) < (s.size : Int) := by omega
     have hov : ¬ 9223372036854775807 < t.size + (⟨#[0]⟩ : ByteArray).size := by show ¬ 9223372036854775807 < t.size + 1; omega
     go_wp2_with fail
     go_roundg (s.size - (t.size + 1))
     case measure => omega
     case rel => exact ⟨t ++ ⟨#[0]⟩, j + 1, rfl, Lib.hid (by rw [bl_snoc0, HT.out, List.replicate_succ', List.append_assoc]), by rw [size_snoc0]; omega, by rw [size_snoc0]; omega, by rw [size_snoc0]; omega, rfl⟩
    ·have hlt3 : ¬ (t.size : Int) < (s.size : Int) := by omega
     obtain ⟨c1, c2⟩ := cmp_less s t (by omega)
     have hc : cmpL (bl s) (bl t) = R := by
      rw [HS.out, HT.out, cmpL_zeros, cmpL_neg, cmpL_zeros, ← cmpL_neg]; exact HR.out
     rw [hc] at c1 c2
     have hrg := cmpL_range (bl s) (bl t)
     rw [hc] at hrg
     clear hc HS HT HR hlt
     rcases hrg with rfl | rfl | rfl
     ·replace c1 : Op.bytesLess s.toList t.toList = true := c1
      clear c2
      go_wp2_with fail
      go_returns
      exact ⟨rfl, rfl⟩
     ·replace c1 : Op.bytesLess s.toList t.toList = false := c1
      replace c2 : (s.toList == t.toList) = true := c2
      go_wp2_with fail

      go_returns
      exact ⟨rfl, rfl⟩
     ·replace c1 : Op.bytesLess s.toList t.toList = false := c1
      replace c2 : (s.toList == t.toList) = false := c2
      go_wp2_with fail
      go_returns
      exact ⟨rfl, rfl⟩
end Go.Proofs.YtiiimhamfibdbaaGreat
