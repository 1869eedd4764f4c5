/- What the walks of layer 17's laws want of the kit. -/
import Derived.Test.YtemdeopghkcpbaaCapAwake
import Derived.Deep.LoopGhost
import Derived.Deep.Cut
import Derived.Deep.QuietTactic
import Derived.BigQuiet
import Derived.Deep.RegionHeld3
namespace Go.Proofs.Ytemdeopghkcpbaa
open Go.PlainAid
theorem kmost_if (a0 : Int) : (if 65536 < (if a0 < 0 then (0 : Int) else a0) then (65536 : Int) else (if a0 < 0 then 0 else a0)) = ((KM.new a0).most : Int) := by
  unfold KM.new
  show _ = (((min (max a0 0) 65536).toNat : Nat) : Int)
  repeat' split
  all_goals omega
theorem kmost_mono {a b : Int} (h : a ≤ b) : (KM.new a).most ≤ (KM.new b).most := by
  have h1 := kmost_if a
  have h2 := kmost_if b
  have : ((KM.new a).most : Int) ≤ ((KM.new b).most : Int) := by
    rw [← h1, ← h2]
    repeat' split
    all_goals omega
  omega
theorem kmost_ge (a : Int) (n : Nat) (hn : n ≤ 65536) (h : (n : Int) ≤ a) : n ≤ (KM.new a).most := by
  have h1 := kmost_if a
  have : (n : Int) ≤ ((KM.new a).most : Int) := by
    rw [← h1]
    repeat' split
    all_goals omega
  omega
theorem kept_text (a : Int) (b : ByteArray) {n : Nat} (h : min (KM.new a).most b.size = n) : strOfNums ((KM.new a).begin (bl b)).kept = b.extract 0 n := by
  have hb := bl_length b
  apply bl_inj
  unfold KM.begin
  by_cases q : (KM.new a).most < (bl b).length
  · rw [if_pos q]
    show bl (strOfNums ((bl b).take (KM.new a).most)) = _
    rw [bl_str (fun x hx => bl_isB b x (List.mem_of_mem_take hx)), bl_extract b 0 n (by omega), List.drop_zero, Nat.sub_zero, show n = (KM.new a).most by omega]
  · rw [if_neg q]
    show bl (strOfNums (bl b)) = _
    rw [str_bl, bl_extract b 0 n (by omega), List.drop_zero, Nat.sub_zero, List.take_of_length_le (by omega)]
end Go.Proofs.Ytemdeopghkcpbaa
