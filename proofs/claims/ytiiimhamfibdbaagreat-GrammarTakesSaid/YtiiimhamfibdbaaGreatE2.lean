/- What the reference's Put gives. -/
import Derived.Test.YtiiimhamfibdbaaGreatB0
import Derived.Test.YtiiimhamfibdbaaGreatE1
import Derived.Test.YtiiimhamfibdbaaGreatP0
import Derived.Handy
import Derived.Laws.BytesArg
import Derived.Lib.Strings
import Derived.Laws.Cover1
namespace Go.Proofs.YtiiimhamfibdbaaGreat
open Go.RowKit Go.PlainAid
set_option linter.unusedVariables false
def loD (n : Nat) : List Int := if n < 128 then [(n : Int)] else ((n % 128 : Nat) : Int) :: loD (n / 128)
def dG (n : Nat) : List Int := (loD n).reverse
theorem loD_small {n : Nat} (h : n < 128) : loD n = [(n : Int)] := by rw [loD, if_pos h]
theorem loD_big {n : Nat} (h : ¬ n < 128) : loD n = ((n % 128 : Nat) : Int) :: loD (n / 128) := by rw [loD, if_neg h]
theorem dG_small {n : Nat} (h : n < 128) : dG n = [(n : Int)] := by rw [dG, loD_small h]; rfl
theorem dG_big {n : Nat} (h : ¬ n < 128) : dG n = dG (n / 128) ++ [((n % 128 : Nat) : Int)] := by rw [dG, loD_big h, List.reverse_cons]; rfl
theorem gB_dG (n : Nat) : gB n = (dG n).dropLast.map (128 + ·) ++ [((n % 128 : Nat) : Int)] := by
 have key : ∀ m : Nat, m ≠ 0 → hiG m = (dG m).map (128 + ·) := by
  intro m
  induction m using Nat.strongRecOn with
  |ind m ih =>
   intro h0
   rw [hiG_pos h0]
   by_cases h : m < 128
   ·rw [dG_small h, show m / 128 = 0 by omega, hiG_zero, show m % 128 = m by omega]; simp
   ·rw [dG_big h, ih (m / 128) (by omega) (by omega)]; simp
 rw [gB]
 by_cases h : n < 128
 ·rw [dG_small h, show n / 128 = 0 by omega, hiG_zero]; rfl
 ·rw [dG_big h, List.dropLast_concat, key _ (by omega)]
theorem dG_last (n : Nat) : (dG n).getLast? = some ((n % 128 : Nat) : Int) := by
 by_cases h : n < 128
 ·rw [dG_small h]; simp; omega
 ·rw [dG_big h]; simp
theorem dG_length (n : Nat) : (dG n).length = (gB n).length := by
 rw [gB_dG]
 have : dG n ≠ [] := by intro h; have := dG_last n; rw [h] at this; cases this
 have := List.length_pos_iff.2 this
 simp; omega
theorem dG_bd (n : Nat) : ∀ x ∈ dG n, 0 ≤ x ∧ x ≤ 127 := by
 induction n using Nat.strongRecOn with
 |ind n ih =>
  intro x hx
  by_cases h : n < 128
  ·rw [dG_small h] at hx; simp at hx; omega
  ·rw [dG_big h] at hx
   rcases List.mem_append.1 hx with hx | hx
   ·exact ih _ (by omega) x hx
   ·simp at hx; omega
set_option maxHeartbeats 1600000 in
theorem refGroups_any (n : Nat) (h : n ≤ 268435455) (w : World) :
  Calls Tryz.prog 114 #[.int .i64 n] w fun e w' => ∃ v g, e = .returned v ∧ Sl w' 3 v (i64s (dG n)) g ∧ w.heap.size ≤ g ∧ Below w.heap.size w w' := by
 have HLE := Lib.hid (gB_le n h)
 go_enter Tryz.func114, Tryz.ntmps114
 go_wp2
 go_loopw [0, 3] (fun tv sv wr => ∃ (t g : Nat) (l : List Int), tv = .int .i64 (t : Int) ∧ t ≤ n ∧ Hid (dG t ++ l = dG n) ∧ Sl wr 3 sv (i64s (((t % 128 : Nat) : Int) :: l)) g ∧ w.heap.size ≤ g ∧ Below w.heap.size w wr) (fun tv _ _ => (intOf tv).toNat)
 case atStart => exact ⟨n, w.heap.size, [], rfl, Nat.le_refl _, Lib.hid (by simp), by have := sl_new_ints w [((n % 128 : Nat) : Int)] (by simp [maxLen]); simpa [i64s] using this, Nat.le_refl _, by go_grown⟩
 case round =>
  obtain ⟨t, g, l, rfl, ht, HL, hs, hg, hB⟩ := hrel
  have HB := Lib.hid hB
  obtain ⟨c, rfl, _, _⟩ := hs.open (n := l.length + 1) (by rw [i64s_length]; rfl)
  have HS := Lib.hid hs
  have hll : l.length ≤ 4 := by have := congrArg List.length HL.out; rw [dG_length n, List.length_append] at this; have := HLE.out; omega
  clear hs hB
  by_cases h0 : (127 : Int) < (t : Int)
  ·have hcell : ∀ j (hj : j < (((t % 128 : Nat) : Int) :: l).length), (wr.alloc (.cells (i64s [(t : Int) / 128 % 128]).toArray 3)).cell? ⟨g, j, none⟩ = some (.int .i64 (((t % 128 : Nat) : Int) :: l)[j]) := by
    intro j hj
    have := (HS.out.alloc (.cells (i64s [(t : Int) / 128 % 128]).toArray 3)).cell (i := j) (by rw [i64s_length]; exact hj)
    rw [this, i64s_get]
   have HC := Lib.hid hcell
   clear hcell
   go_wp2_with (at_builtin; refine wpList_append_ints rfl (.tmp 13) (.tmp 14) rfl (l := [(t : Int) / 128 % 128]) (g := wr.heap.size) rfl (sl_new_ints wr [(t : Int) / 128 % 128] (by simp [maxLen])) g (l.length + 1) c (((t % 128 : Nat) : Int) :: l) rfl (by simp) HC.out (by simp; omega) ?_)
   intro v' w1 g' hs1 hg1 hgr1
   have HS1 := Lib.hid hs1
   have HG1 := Lib.hid hgr1
   clear hs1 hgr1 HC
   go_wp2
   go_roundw
   case rel =>
    have hsz : w.heap.size ≤ wr.heap.size := HB.out.size
    refine ⟨t / 128, g', ((t % 128 : Nat) : Int) :: l, by simp, by omega, Lib.hid ?_, ?_, ?_, ?_⟩
    ·rw [← HL.out, dG_big (n := t) (by omega)]; simp
    ·have := HS1.out
     rw [show (t : Int) / 128 % 128 = ((t / 128 % 128 : Nat) : Int) by omega] at this
     exact this
    ·rcases hg1 with rfl | rfl
     ·exact hsz
     ·first | omega | (simp; omega)
    ·exact (HB.out.alloc hsz _).grown HG1.out (by simp; omega) (by intro k hk; cases hk; exact hsz)
   case measure => simp [intOf]; omega
  ·have HF := Lib.hid (show ((t % 128 : Nat) : Int) :: l = dG n by rw [← HL.out, dG_small (n := t) (by omega), show t % 128 = t by omega]; rfl)
   go_wp2
   go_ret
   refine ⟨_, rfl, g, ?_, hg, HB.out⟩
   rw [← HF.out]
   exact HS.out
theorem dropLast_append_last {l : List Int} {x : Int} (h : l.getLast? = some x) : l = l.dropLast ++ [x] := by
 obtain ⟨ys, rfl⟩ := List.getLast?_eq_some_iff.1 h
 simp
def refOut (f : Int) (n k : Nat) : List Int := if k < (dG n).length then f :: ((dG n).take k).map (128 + ·) else f :: gB n
theorem refOut_zero (f : Int) (n : Nat) : refOut f n 0 = [f] := by
 have := dG_length n
 have := gB_length n
 rw [refOut, if_pos (by omega)]; rfl
theorem refOut_mid (f : Int) (n k : Nat) (h : k + 1 < (dG n).length) : refOut f n (k + 1) = refOut f n k ++ [128 + (dG n)[k]] := by
 rw [refOut, refOut, if_pos h, if_pos (by omega), List.take_add_one, List.getElem?_eq_getElem (by omega), List.map_append]
 rfl
theorem refOut_last (f : Int) (n k : Nat) (h : k + 1 = (dG n).length) : refOut f n (k + 1) = refOut f n k ++ [(dG n)[k]] := by
 have hl := dropLast_append_last (dG_last n)
 have hk : (dG n)[k] = ((n % 128 : Nat) : Int) := by
  have := dG_last n
  rw [List.getLast?_eq_getElem?, ← h, Nat.add_sub_cancel, List.getElem?_eq_getElem (by omega)] at this
  exact Option.some.inj this
 rw [refOut, refOut, if_neg (by omega), if_pos (by omega), hk, gB_dG, List.dropLast_eq_take, ← h]
 simp
theorem refOut_end (f : Int) (n k : Nat) (h : (dG n).length ≤ k) : refOut f n k = f :: gB n := by rw [refOut, if_neg (by omega)]
set_option maxHeartbeats 1600000 in
theorem refIdPut_bad (cls tag : Int) (cons : Bool) (len : Int) (h : idOk cls tag = false) (w : World) :
  Calls Tryz.prog 91 #[.agg #[.int .i64 cls, .int .i64 tag, .bool cons, .int .i64 len]] w fun e w' => e = .returned (.tuple #[.string ⟨#[]⟩, .int .i64 1]) ∧ Below w.heap.size w w' := by
 have hn : cls < 0 ∨ (0 ≤ cls ∧ 3 < cls) ∨ (0 ≤ cls ∧ cls ≤ 3 ∧ tag < 0) ∨ (0 ≤ cls ∧ cls ≤ 3 ∧ 0 ≤ tag ∧ 268435455 < tag) := by
  have hn : ¬ (0 ≤ cls ∧ cls ≤ 3 ∧ 0 ≤ tag ∧ tag ≤ 268435455) := by rw [← idOk_iff, h]; simp
  omega
 clear h
 rcases hn with n0 | ⟨n0, n1⟩ | ⟨n0, n1, n2⟩ | ⟨n0, n1, n2, n3⟩
 all_goals
  go_enter Tryz.func91, Tryz.ntmps91
  go_wp2
  go_returns
  exact ⟨rfl, by go_grown⟩
set_option maxHeartbeats 1600000 in
theorem refIdPut_any (cls tag : Int) (cons : Bool) (len : Int) (h : idOk cls tag = true) (w : World) :
  Calls Tryz.prog 91 #[.agg #[.int .i64 cls, .int .i64 tag, .bool cons, .int .i64 len]] w fun e w' => e = .returned (.tuple #[.string (strOfNums (idPut cls tag cons)), .int .i64 0]) ∧ Below w.heap.size w w' := by
 obtain ⟨h0, h1, h2, h3⟩ := idOk_iff.1 h
 clear h
 have n0 : ¬ cls < 0 := by omega
 have n1 : ¬ 3 < cls := by omega
 have n2 : ¬ tag < 0 := by omega
 have n3 : ¬ 268435455 < tag := by omega
 have HP := Lib.hid (Row.new w 32 [.int .i64 cls, .int .i64 tag, .bool cons, .int .i64 len])
 by_cases ht : tag < 31
 ·cases cons
  case' false => 
   have HF : Hid (strOfNums [64 * cls + tag] = strOfNums (idPut cls tag false)) := Lib.hid (by rw [idPut, if_pos ht, first, if_pos ht]; simp)
   have hcv := conv_at (64 * cls + tag)
  case' true =>
   have HF : Hid (strOfNums [64 * cls + 32 + tag] = strOfNums (idPut cls tag true)) := Lib.hid (by rw [idPut, if_pos ht, first, if_pos ht]; simp)
   have hcv := conv_at (64 * cls + 32 + tag)
  all_goals
   go_enter Tryz.func91, Tryz.ntmps91
   go_wp2
   go_returns
   exact ⟨rets2 (congrArg _ HF.out) rfl, by go_grown⟩
 ·have HG := Lib.hid (refGroups_any tag.toNat (by omega))
  rw [Int.toNat_of_nonneg h2] at HG
  have hge : 31 ≤ tag := by omega
  have hL : (dG tag.toNat).length ≤ 4 := by rw [dG_length]; exact gB_le _ (by omega)
  have HBD := Lib.hid (dG_bd tag.toNat)
  have hfb := first_bd (cls := cls) (tag := tag) (cons := cons) h0 h1 h2
  obtain ⟨Y, hY⟩ : ∃ Y, Y = first cls tag cons := ⟨_, rfl⟩
  have HF : Hid (strOfNums (Y :: gB tag.toNat) = strOfNums (idPut cls tag cons)) := Lib.hid (by rw [idPut, if_neg ht, hY])
  rw [← hY] at hfb
  cases cons
  case' false => 
   have eor : 64 * cls + 31 = Y := by rw [hY, first, if_neg ht]; simp
  case' true =>
   have eor : 64 * cls + 32 + 31 = Y := by rw [hY, first, if_neg ht]; simp
  all_goals
   generalize hN : tag.toNat = N at *
   have HM := Lib.hid (refOut_mid Y N)
   have HLA := Lib.hid (refOut_last Y N)
   have HEN := Lib.hid (refOut_end Y N)
   have HZ := Lib.hid (refOut_zero Y N)
   clear hN hY
   go_enter Tryz.func91, Tryz.ntmps91
   go_wp2_with fail
   refine (HG.out _).mono ?_
   rintro e w1 ⟨v, gl, rfl, hsl, hgl, hb1⟩
   obtain ⟨cl, rfl, _, _⟩ := hsl.open (n := (dG N).length) (i64s_length _)
   have hb1' : Below (w.heap.size + 2) _ w1 := hb1.mono (by simp)
   have hs1 : Sl w1 5 (.slice (some ⟨w.heap.size + 1, 0, none⟩) 1 1) (u8s [Y]) (w.heap.size + 1) := by
    have h := (sl_new_bytes (w.alloc (.cells #[.int .i64 cls, .int .i64 tag, .bool _, .int .i64 len] 32)) [Y] (by simp [maxLen])).below hb1' (by simp)
    simpa using h
   have hbw : Below w.heap.size w w1 := Below.trans (by go_grown) (hb1'.mono (by omega))
   have hgl2 : w.heap.size + 2 ≤ gl := by simpa using hgl
   have HSL := Lib.hid hsl
   have HS1 := Lib.hid hs1
   have HB1 := Lib.hid hbw
   clear hsl hs1 hbw hb1 hb1' hgl
   go_wp2
   go_loopw [5, 7] (fun ov iv wr => ∃ (k g c : Nat), iv = .int .i64 (k : Int) ∧ k ≤ (dG N).length ∧ ov = .slice (some ⟨g, 0, none⟩) (k + 1) c ∧ Hid ((refOut Y N k).length = k + 1) ∧ Hid (Sl wr 5 (.slice (some ⟨g, 0, none⟩) (k + 1) c) (u8s (refOut Y N k)) g) ∧ Hid (Sl wr 3 (.slice (some ⟨gl, 0, none⟩) (dG N).length cl) (i64s (dG N)) gl) ∧ w.heap.size ≤ g ∧ g ≠ gl ∧ Hid (Below w.heap.size w wr)) (fun _ iv _ => (dG N).length - (intOf iv).toNat)
   case atStart => exact ⟨0, w.heap.size + 1, 1, rfl, by omega, rfl, Lib.hid (by rw [HZ.out]; rfl), Lib.hid (by rw [HZ.out]; exact HS1.out), HSL, by omega, by omega, HB1⟩
   case round =>
    obtain ⟨k, g, c, rfl, hk, rfl, HLn, HS, HSl, hg, hgg, HB⟩ := hrel
    clear HSL HS1 HB1
    by_cases hlt : k < (dG N).length
    ·have hc := HSl.out.cell (i := k) (by rw [i64s_length]; exact hlt)
     rw [i64s_get] at hc
     have hbd := HBD.out (dG N)[k] (List.getElem_mem hlt)
     obtain ⟨hd0, hd1⟩ := hbd
     by_cases hmid : k + 1 < (dG N).length
     ·have HO := Lib.hid (HM.out k hmid)
      generalize (dG N)[k] = d at *
      go_wp2_with (at_builtin; refine wpList_append_byte rfl (.tmp 61) (.tmp 68) rfl (l := refOut Y N k) (g := g) rfl (HS.out.alloc _) wr.heap.size 1 (128 + d) rfl (by simp) (by rw [HLn.out]; omega) ?_)
      intro v' w2 g' hs2 hg2 hgr2
      have HLn2 : Hid ((refOut Y N (k + 1)).length = k + 1 + 1) := Lib.hid (by rw [HO.out, List.length_append, HLn.out]; rfl)
      obtain ⟨c', rfl, _, _⟩ := hs2.open (n := k + 1 + 1) (by rw [u8s_length, ← HO.out, HLn2.out])
      have hgl3 := HSl.out.lt
      have hsz := HB.out.size
      have HSl2 := Lib.hid ((HSl.out.alloc (.cells #[.int .u8 (128 + d)] 5)).grown hgr2 (by intro h; cases h; exact hgg rfl))
      have HB2 := Lib.hid ((HB.out.alloc hsz (.cells #[.int .u8 (128 + d)] 5)).grown hgr2 (by simp; omega) (by intro q hq; cases hq; exact hg))
      rw [← HO.out] at hs2
      have HS2 := Lib.hid hs2
      clear hs2 hgr2 HSl HS HB
      go_wp2
      go_roundw
      case rel => exact ⟨k + 1, g', c', by simp, by omega, rfl, HLn2, HS2, HSl2, by rcases hg2 with h | h <;> omega, by rcases hg2 with h | h <;> omega, HB2⟩
      case measure => simp [intOf]; omega
     ·have HO := Lib.hid (HLA.out k (by omega))
      generalize (dG N)[k] = d at *
      go_wp2_with (at_builtin; refine wpList_append_byte rfl (.tmp 70) (.tmp 76) rfl (l := refOut Y N k) (g := g) rfl (HS.out.alloc _) wr.heap.size 1 (d) rfl (by simp) (by rw [HLn.out]; omega) ?_)
      intro v' w2 g' hs2 hg2 hgr2
      have HLn2 : Hid ((refOut Y N (k + 1)).length = k + 1 + 1) := Lib.hid (by rw [HO.out, List.length_append, HLn.out]; rfl)
      obtain ⟨c', rfl, _, _⟩ := hs2.open (n := k + 1 + 1) (by rw [u8s_length, ← HO.out, HLn2.out])
      have hgl3 := HSl.out.lt
      have hsz := HB.out.size
      have HSl2 := Lib.hid ((HSl.out.alloc (.cells #[.int .u8 (d)] 5)).grown hgr2 (by intro h; cases h; exact hgg rfl))
      have HB2 := Lib.hid ((HB.out.alloc hsz (.cells #[.int .u8 (d)] 5)).grown hgr2 (by simp; omega) (by intro q hq; cases hq; exact hg))
      rw [← HO.out] at hs2
      have HS2 := Lib.hid hs2
      clear hs2 hgr2 HSl HS HB
      go_wp2
      go_roundw
      case rel => exact ⟨k + 1, g', c', by simp, by omega, rfl, HLn2, HS2, HSl2, by rcases hg2 with h | h <;> omega, by rcases hg2 with h | h <;> omega, HB2⟩
      case measure => simp [intOf]; omega
    ·have hcv := conv_bytes HS.out
     rw [HEN.out k (by omega), HF.out] at hcv
     go_wp2
     go_returns
     exact ⟨rfl, HB.out⟩
end Go.Proofs.YtiiimhamfibdbaaGreat
/- What the reference's Get gives. -/
namespace Go.Proofs.YtiiimhamfibdbaaGreat
open Go.RowKit Go.PlainAid
set_option linter.unusedVariables false
set_option maxHeartbeats 1600000 in
theorem refIdGet_arg (b : ByteArray) (at_ : Int) (hb : b.size ≤ maxLen) (ha : at_ < 0 ∨ (b.size : Int) < at_) (w : World) :
  Calls Tryz.prog 70 #[.string b, .int .i64 at_] w fun e w' => e = .returned (.tuple #[hdV 0 0 false 0, .int .i64 0, .int .i64 1]) ∧ Below w.heap.size w w' := by
 have hb9 : (b.size : Int) ≤ 9223372036854775807 := by unfold maxLen at hb; omega
 have HR := Lib.hid ((Row.new w 32 (hdC 0 0 false 0)).alloc (.cells (hdC 0 0 false 0).toArray 32))
 by_cases h1 : at_ < 0
 ·clear ha
  go_enter Tryz.func70, Tryz.ntmps70
  go_wp2
  exact bodyPost_ret (results_cell_two Tryz.results70 _ (ad := ⟨w.heap.size, 0, none⟩) rfl rfl rfl (head_load HR.out)) rfl ⟨rfl, by go_grown⟩
 ·have h2 : (b.size : Int) < at_ := by omega
  clear ha
  go_enter Tryz.func70, Tryz.ntmps70
  go_wp2
  exact bodyPost_ret (results_cell_two Tryz.results70 _ (ad := ⟨w.heap.size, 0, none⟩) rfl rfl rfl (head_load HR.out)) rfl ⟨rfl, by go_grown⟩
set_option maxHeartbeats 1600000 in
theorem refIdGet_any (b : ByteArray) (i : Nat) (hb : b.size ≤ maxLen) (hi : i ≤ b.size) (w : World) :
  Calls Tryz.prog 70 #[.string b, .int .i64 i] w fun e w' => e = .returned (idAns b i) ∧ Below w.heap.size w w' := by
 have hb9 : (b.size : Int) ≤ 9223372036854775807 := by unfold maxLen at hb; omega
 have HR := Lib.hid ((Row.new w 32 (hdC 0 0 false 0)).alloc (.cells (hdC 0 0 false 0).toArray 32))
 by_cases h1 : i = b.size
 ·have HA := Lib.hid (idAns_eq (show idGet ((bl b).drop i) = (0, 0, false, 0, 2) by rw [bl_drop_end b i (by omega)]; rfl))
  have he : ((i : Int) == (b.size : Int)) = true := beq_yes (by omega)
  have hl : ¬ (b.size : Int) < (i : Int) := by omega
  clear h1 hi
  go_enter Tryz.func70, Tryz.ntmps70
  go_wp2
  exact bodyPost_ret (results_cell_two Tryz.results70 _ (ad := ⟨w.heap.size, 0, none⟩) rfl rfl rfl (head_load HR.out)) rfl ⟨by rw [HA.out]; exact rets3 rfl (by simp) rfl, by go_grown⟩
 ·have hlt : i < b.size := by omega
  have he : ((i : Int) == (b.size : Int)) = false := beq_no (by omega)
  have hl : ¬ (b.size : Int) < (i : Int) := by omega
  have hl0 : ¬ (i : Int) < 0 := by omega
  have HD := Lib.hid (ext_at b i hlt)
  have hx0 := bt_nonneg b i
  have hx1 := bt_le b i
  have hbt := get_bt b i hlt
  generalize hx : bt b i = x at *
  clear hx hi h1
  have hbit : (x / 32 % 2 == 1) = decide (x / 32 % 2 = 1) := rfl
  by_cases ht : x % 32 = 31
  ·have htq2 : (x % 32 != 31) = false := by simpa using ht
   have hEG : idGet ((bl b).drop i) = if (getG true 0 ((bl b).drop (i + 1))).2.2 = 0 then (x / 64, (getG true 0 ((bl b).drop (i + 1))).1, decide (x / 32 % 2 = 1), (getG true 0 ((bl b).drop (i + 1))).2.1 + 1, 0) else (0, 0, false, (getG true 0 ((bl b).drop (i + 1))).2.1 + 1, (getG true 0 ((bl b).drop (i + 1))).2.2) := by
    rw [HD.out, idGet, if_pos ht]
   generalize hG : getG true 0 ((bl b).drop (i + 1)) = G at hEG
   have HG := Lib.hid hG
   have HOK : Hid (G.2.2 = 0 → idAns b i = .tuple #[hdV (x / 64) G.1 (decide (x / 32 % 2 = 1)) 0, .int .i64 ((i : Int) + (G.2.1 + 1 : Nat)), .int .i64 0]) := Lib.hid (fun h => idAns_eq (by rw [hEG, if_pos h]))
   have HNO : Hid (G.2.2 ≠ 0 → idAns b i = .tuple #[hdV 0 0 false 0, .int .i64 ((i : Int) + (G.2.1 + 1 : Nat)), .int .i64 G.2.2]) := Lib.hid (fun h => idAns_eq (by rw [hEG, if_neg h]))
   have hi1 : i + 1 ≤ b.size := by omega
   clear ht hEG hG HD HR
   go_enter Tryz.func70, Tryz.ntmps70
   go_wp2
   go_loop [10, 11] (fun tv iv => ∃ (k : Nat) (t : Int), tv = .int .i64 t ∧ iv = .int .i64 (k : Int) ∧ i + 1 ≤ k ∧ k ≤ b.size ∧ 0 ≤ t ∧ t ≤ 268435455 ∧ Hid (((getG (decide (k = i + 1)) t ((bl b).drop k)).1, (getG (decide (k = i + 1)) t ((bl b).drop k)).2.1 + (k - (i + 1)), (getG (decide (k = i + 1)) t ((bl b).drop k)).2.2) = G)) (fun _ iv => b.size - (intOf iv).toNat)
   case atStart => exact ⟨i + 1, 0, rfl, by simp, by omega, hi1, by omega, by omega, Lib.hid (by simp; exact HG.out)⟩
   case round =>
    obtain ⟨k, t, rfl, rfl, hk, hks, ht, ht2, HR⟩ := hrel
    clear HG
    have HI := Lib.hid hk
    by_cases hlk : k < b.size
    ·have hy0 := bt_nonneg b k
     have hy1 := bt_le b k
     have hR2 := HR.out
     rw [bl_drop b k hlk, getG] at hR2
     have hby := get_bt b k hlk
     generalize hy : bt b k = y at *
     clear HR hy hbt
     by_cases c1 : (decide (k = i + 1) = true ∧ y = 128) ∨ 2097151 < t
     ·rw [if_pos c1] at hR2
      have HF : Hid (((0 : Int), k - (i + 1), (3 : Int)) = G) := Lib.hid (by simpa using hR2)
      have HA := Lib.hid (HNO.out (by rw [← HF.out]; simp))
      rw [← HF.out] at HA
      clear hR2 HOK HNO
      by_cases cs : (k : Int) = (i : Int) + 1
      ·have csq := beq_yes cs
       by_cases cy : y = 128
       ·have cyq := beq_yes cy
        clear c1 cs
        go_wp2
        exact bodyPost_ret (results_cell_two Tryz.results70 _ (ad := ⟨w.heap.size, 0, none⟩) rfl rfl rfl (head_load (((Row.new w 32 (hdC 0 0 false 0)).alloc _).alloc _))) rfl ⟨by rw [HA.out]; exact rets3 rfl (by have := HI.out; simp <;> omega) rfl, by go_grown⟩
       ·have cyq := beq_no cy
        have ct : 2097151 < t := by rcases c1 with h | h; exact absurd h.2 cy; exact h
        have cbig : 268435455 < 128 * t + y % 128 := by omega
        have cbig2 : 128 * t + y % 128 ≤ 9223372036854775807 := by omega
        clear c1 cs
        go_wp2
        exact bodyPost_ret (results_cell_two Tryz.results70 _ (ad := ⟨w.heap.size, 0, none⟩) rfl rfl rfl (head_load (((Row.new w 32 (hdC 0 0 false 0)).alloc _).alloc _))) rfl ⟨by rw [HA.out]; exact rets3 rfl (by have := HI.out; simp <;> omega) rfl, by go_grown⟩
      ·have csq := beq_no cs
       have ct : 2097151 < t := by rcases c1 with h | h; exact absurd (by have := of_decide_eq_true h.1; omega) cs; exact h
       have cbig : 268435455 < 128 * t + y % 128 := by omega
       have cbig2 : 128 * t + y % 128 ≤ 9223372036854775807 := by omega
       clear c1 cs
       go_wp2
       exact bodyPost_ret (results_cell_two Tryz.results70 _ (ad := ⟨w.heap.size, 0, none⟩) rfl rfl rfl (head_load (((Row.new w 32 (hdC 0 0 false 0)).alloc _).alloc _))) rfl ⟨by rw [HA.out]; exact rets3 rfl (by have := HI.out; simp <;> omega) rfl, by go_grown⟩
     ·rw [if_neg c1] at hR2
      have ct : t ≤ 2097151 := by omega
      have HR := Lib.hid hR2
      have hcs : (k : Int) = (i : Int) + 1 → (y == 128) = false := by
       intro h
       have h : k = i + 1 := by omega
       simp only [h, decide_true, true_and] at c1
       exact beq_no (by omega)
      clear hR2 c1
      have hb0 : 128 * t + y % 128 = t * 128 + y % 128 := by omega
      have hb1 : 0 ≤ t * 128 + y % 128 := by omega
      have hb2 : t * 128 + y % 128 ≤ 268435455 := by omega
      by_cases c2 : 128 ≤ y
      ·have HN : Hid (((getG (decide (k + 1 = i + 1)) (t * 128 + y % 128) ((bl b).drop (k + 1))).1, (getG (decide (k + 1 = i + 1)) (t * 128 + y % 128) ((bl b).drop (k + 1))).2.1 + (k + 1 - (i + 1)), (getG (decide (k + 1 = i + 1)) (t * 128 + y % 128) ((bl b).drop (k + 1))).2.2) = G) := Lib.hid (by
        have := HR.out
        rw [if_pos c2] at this
        rw [show decide (k + 1 = i + 1) = false by simp; omega, ← this]
        simp; omega)
       clear HR HOK HNO
       generalize t * 128 + y % 128 = t2 at *
       by_cases cs : (k : Int) = (i : Int) + 1
       all_goals
        first | (have cs2 := hcs cs; have cs3 := beq_yes cs) | have cs3 := beq_no cs
        clear hcs cs
        go_wp2
        go_round
        case rel => exact ⟨k + 1, t2, rfl, by simp, by omega, by omega, hb1, hb2, HN⟩
        case measure => simp [intOf]; omega
      ·by_cases c3 : t * 128 + y % 128 < 31
       ·have HF : Hid (((0 : Int), k - (i + 1), (3 : Int)) = G) := Lib.hid (by have := HR.out; rw [if_neg c2, if_pos c3] at this; simpa using this)
        have HA := Lib.hid (HNO.out (by rw [← HF.out]; simp))
        rw [← HF.out] at HA
        clear HR HOK HNO
        generalize t * 128 + y % 128 = t2 at *
        by_cases cs : (k : Int) = (i : Int) + 1
        all_goals
         first | (have cs2 := hcs cs; have cs3 := beq_yes cs) | have cs3 := beq_no cs
         clear hcs cs
         go_wp2
         exact bodyPost_ret (results_cell_two Tryz.results70 _ (ad := ⟨w.heap.size, 0, none⟩) rfl rfl rfl (head_load (((Row.new w 32 (hdC 0 0 false 0)).alloc _).alloc _))) rfl ⟨by rw [HA.out]; exact rets3 rfl (by have := HI.out; simp <;> omega) rfl, by go_grown⟩
       ·have HF : Hid ((t * 128 + y % 128, 1 + (k - (i + 1)), (0 : Int)) = G) := Lib.hid (by have := HR.out; rw [if_neg c2, if_neg c3] at this; simpa using this)
        have HA := Lib.hid (HOK.out (by rw [← HF.out]))
        rw [← HF.out] at HA
        clear HR HOK HNO
        generalize t * 128 + y % 128 = t2 at *
        by_cases cs : (k : Int) = (i : Int) + 1
        all_goals
         first | (have cs2 := hcs cs; have cs3 := beq_yes cs) | have cs3 := beq_no cs
         clear hcs cs
         go_wp2
         exact bodyPost_ret (results_cell_two Tryz.results70 _ (ad := ⟨w.heap.size, 0, none⟩) rfl rfl rfl (head_load (((Row.new w 32 (hdC (x / 64) t2 (decide (x / 32 % 2 = 1)) 0)).alloc _).alloc _))) rfl ⟨by rw [HA.out]; exact rets3 rfl (by have := HI.out; simp <;> omega) rfl, by go_grown⟩
    ·have HF : Hid (((0 : Int), k - (i + 1), (2 : Int)) = G) := Lib.hid (by have := HR.out; rw [bl_drop_end b k (by omega)] at this; simpa [getG] using this)
     have HA := Lib.hid (HNO.out (by rw [← HF.out]; simp))
     rw [← HF.out] at HA
     have HE : Hid (k = b.size) := Lib.hid (by omega)
     clear HR HOK HNO
     go_wp2
     exact bodyPost_ret (results_cell_two Tryz.results70 _ (ad := ⟨w.heap.size, 0, none⟩) rfl rfl rfl (head_load (((Row.new w 32 (hdC 0 0 false 0)).alloc _).alloc _))) rfl ⟨by rw [HA.out]; exact rets3 rfl (by have := HI.out; have := HE.out; simp <;> omega) rfl, by go_grown⟩
  ·have htq : (x % 32 != 31) = true := by simpa using ht
   have HA := Lib.hid (idAns_eq ((congrArg idGet HD.out).trans (idGet_small ht)))
   clear ht
   go_enter Tryz.func70, Tryz.ntmps70
   go_wp2
   exact bodyPost_ret (results_cell_two Tryz.results70 _ (ad := ⟨w.heap.size, 0, none⟩) rfl rfl rfl (head_load (((Row.new w 32 (hdC (x / 64) (x % 32) (decide (x / 32 % 2 = 1)) 0)).alloc _).alloc _))) rfl ⟨by rw [HA.out]; exact rets3 rfl (by simp) rfl, by go_grown⟩
end Go.Proofs.YtiiimhamfibdbaaGreat
/- Layer 5: what the laws need beside the contracts. -/
namespace Go.Proofs.YtiiimhamfibdbaaGreat
open Go.RowKit Go.PlainAid
set_option linter.unusedVariables false
theorem refIdPut_all (cls tag : Int) (cons : Bool) (len : Int) (w : World) :
  Calls Tryz.prog 91 #[.agg #[.int .i64 cls, .int .i64 tag, .bool cons, .int .i64 len]] w fun e w' => e = .returned (.tuple #[.string (putS cls tag cons), .int .i64 (putE cls tag)]) ∧ Below w.heap.size w w' := by
 unfold putS putE
 cases h : idOk cls tag
 ·simpa using refIdPut_bad cls tag cons len h w
 ·simpa using refIdPut_any cls tag cons len h w
theorem refIdGet_all (b : ByteArray) (at_ : Int) (hb : b.size ≤ maxLen) (w : World) :
  Calls Tryz.prog 70 #[.string b, .int .i64 at_] w fun e w' => e = .returned (gV (gAt b at_)) ∧ Below w.heap.size w w' := by
 by_cases h : at_ < 0 ∨ (b.size : Int) < at_
 ·rw [gV_arg b at_ h]; exact refIdGet_arg b at_ hb h w
 ·obtain ⟨i, rfl⟩ := Int.eq_ofNat_of_zero_le (show 0 ≤ at_ by omega)
  rw [← gV_at b i (by omega)]; exact refIdGet_any b i hb (by omega) w
theorem refIdGet_is (b : ByteArray) (at_ : Int) (hb : b.size ≤ maxLen) {c t : Int} {k : Bool} {n e : Int} (h : gAt b at_ = (c, t, k, n, e)) (w : World) :
  Calls Tryz.prog 70 #[.string b, .int .i64 at_] w fun r w' => r = .returned (.tuple #[.agg #[.int .i64 c, .int .i64 t, .bool k, .int .i64 0], .int .i64 n, .int .i64 e]) ∧ Below w.heap.size w w' := by
 have := refIdGet_all b at_ hb w
 rw [h] at this
 exact this
theorem putE_ok {cls tag : Int} : putE cls tag = 0 ↔ idOk cls tag = true := by
 unfold putE; split <;> simp_all
theorem putS_ok {cls tag : Int} {cons : Bool} (h : idOk cls tag = true) : putS cls tag cons = strOfNums (idPut cls tag cons) := by rw [putS, if_pos h]
theorem putS_bad {cls tag : Int} {cons : Bool} (h : ¬ idOk cls tag = true) : putS cls tag cons = ⟨#[]⟩ := by rw [putS, if_neg h]
theorem putS_size {cls tag : Int} {cons : Bool} (h : idOk cls tag = true) : (putS cls tag cons).size = (idPut cls tag cons).length := by rw [putS_ok h, strOfNums_size]
theorem putS_le (cls tag : Int) (cons : Bool) : (putS cls tag cons).size ≤ 5 := by
 by_cases h : idOk cls tag = true
 ·rw [putS_size h]; exact (idPut_length h).2
 ·rw [putS_bad h]; decide
theorem gAt_in (b : ByteArray) (i : Nat) (hi : i ≤ b.size) {c t : Int} {k : Bool} {n : Nat} {e : Int} (h : idGet ((bl b).drop i) = (c, t, k, n, e)) : gAt b (i : Int) = (c, t, k, (i : Int) + n, e) := by
 unfold gAt
 rw [if_neg (by omega), Int.toNat_natCast, h]
/-! ### Sizes -/
end Go.Proofs.YtiiimhamfibdbaaGreat
/- What the reference's Put and Get of lengths give. -/
namespace Go.Proofs.YtiiimhamfibdbaaGreat
open Go.RowKit Go.PlainAid
set_option linter.unusedVariables false
def lpS (n : Int) : ByteArray := if lenOk n = true then strOfNums (lenPut n) else ⟨#[]⟩
def lpE (n : Int) : Int := if lenOk n = true then 0 else 1
theorem lpS_ok {n : Int} (h : lenOk n = true) : lpS n = strOfNums (lenPut n) := by rw [lpS, if_pos h]
theorem lpS_bad {n : Int} (h : ¬ lenOk n = true) : lpS n = ⟨#[]⟩ := by rw [lpS, if_neg h]
theorem lpE_ok {n : Int} : lpE n = 0 ↔ lenOk n = true := by unfold lpE; split <;> simp_all
set_option maxHeartbeats 1600000 in
theorem refLenPut_all (n : Int) (hn : -9223372036854775808 ≤ n ∧ n ≤ 9223372036854775807) (w : World) :
  Calls Tryz.prog 92 #[.int .i64 n] w fun e w' => e = .returned (.tuple #[.string (lpS n), .int .i64 (lpE n)]) ∧ Below w.heap.size w w' := by
 obtain ⟨n0, n1⟩ := hn
 by_cases hok : lenOk n = true
 ·obtain ⟨h0, h1⟩ := lenOk_iff.1 hok
  have HE := Lib.hid (lpE_ok.2 hok)
  obtain ⟨m, rfl⟩ := Int.eq_ofNat_of_zero_le h0
  have hl0 : ¬ (m : Int) < 0 := by omega
  have hl1 : ¬ (2305843009213693951 : Int) < m := by omega
  by_cases hs : (m : Int) < 128
  ·have HF : Hid (strOfNums [(m : Int)] = lpS m) := Lib.hid (by rw [lpS_ok hok, lenPut, if_pos hs])
   have hcv := conv_at (m : Int)
   clear hok
   go_enter Tryz.func92, Tryz.ntmps92
   go_wp2
   go_returns
   exact ⟨rets2 (congrArg _ HF.out) (congrArg _ HE.out.symm), by go_grown⟩
  ·have hnb := nB_le (n := m) (by omega)
   have HF : Hid (strOfNums [128 + (nB m : Int)] ++ strOfNums (hiB m) = lpS m) := Lib.hid (by rw [lpS_ok hok, lenPut, if_neg hs, ← strOfNums_append, Int.toNat_natCast]; rfl)
   have hs1 : (strOfNums [128 + (nB m : Int)]).size = 1 := by rw [strOfNums_size]; rfl
   have hs2 : (strOfNums (hiB m)).size ≤ 8 := by rw [strOfNums_size, hiB_len]; exact hnb
   have HNB := Lib.hid (show (hiB m).length = nB m from hiB_len m)
   have hcv := conv_at (128 + (nB m : Int))
   clear hok
   go_enter Tryz.func92, Tryz.ntmps92
   go_wp2
   go_loopw [0, 4] (fun tv sv wr => ∃ (t g c : Nat) (l : List Int), tv = .int .i64 (t : Int) ∧ t ≤ m ∧ Hid (hiB t ++ l = hiB m) ∧ sv = .slice (some ⟨g, 0, none⟩) l.length c ∧ Hid (Sl wr 5 (.slice (some ⟨g, 0, none⟩) l.length c) (u8s l) g) ∧ w.heap.size ≤ g ∧ Hid (Below w.heap.size w wr)) (fun tv _ _ => (intOf tv).toNat)
   case atStart => exact ⟨m, w.heap.size, 0, [], rfl, Nat.le_refl _, Lib.hid (by simp), rfl, Lib.hid (by have := sl_new_bytes w [] (by simp [maxLen]); simpa [u8s] using this), Nat.le_refl _, Lib.hid (by go_grown)⟩
   case round =>
    obtain ⟨t, g, c, l, rfl, ht, HL, rfl, HS, hg, HB⟩ := hrel
    have hll : l.length ≤ 8 := by have := congrArg List.length HL.out; rw [List.length_append, HNB.out] at this; omega
    by_cases h0 : t = 0
    ·subst h0
     have hl : l = hiB m := by have := HL.out; rwa [hiB_zero, List.nil_append] at this
     have hlen : l.length = nB m := by rw [hl, HNB.out]
     rw [hlen] at HS
     rw [hl] at HS
     have hc2 : ∀ o : Obj, (convert 107 9 (.slice (some ⟨g, 0, none⟩) (nB m) c)).run Tryz.prog (wr.alloc o) = .ok (.string (strOfNums (hiB m))) (wr.alloc o) := fun o => conv_bytes (HS.out.alloc o)
     have hsz := HB.out.size
     clear hl HS HL
     go_wp2
     go_returns
     exact ⟨rets2 (congrArg _ HF.out) (congrArg _ HE.out.symm), HB.out.alloc hsz _⟩
    ·have h01 : (0 : Int) < (t : Int) := by omega
     have HC := Lib.hid (HS.out.alloc (.cells (u8s [(t : Int) % 256]).toArray 5)).cells_u8
     go_wp2_with (at_builtin; refine wpList_append_bytes rfl (.tmp 23) (.tmp 24) rfl (l := [(t : Int) % 256]) (g := wr.heap.size) rfl (sl_new_bytes wr [(t : Int) % 256] (by simp [maxLen])) g l.length c l rfl rfl HC.out (by simp; omega) ?_)
     intro v' w1 g' hsl hg1 hgr1
     have HN := Lib.hid (show hiB (t / 256) ++ ([(t : Int) % 256] ++ l) = hiB m by rw [← HL.out, hiB_pos h0, List.append_assoc, show (t : Int) % 256 = ((t % 256 : Nat) : Int) by omega])
     obtain ⟨c', rfl, _, _⟩ := hsl.open (n := ([(t : Int) % 256] ++ l).length) (u8s_length _)
     have hsz := HB.out.size
     have HS1 := Lib.hid hsl
     have HB1 := Lib.hid ((HB.out.alloc hsz (.cells (u8s [(t : Int) % 256]).toArray 5)).grown hgr1 (by simp; omega) (by intro k hk; cases hk; exact hsz))
     clear hsl hgr1 HC HS HB HL
     go_wp2
     go_roundw
     case rel => exact ⟨t / 256, g', c', [(t : Int) % 256] ++ l, by simp, by omega, HN, by simp, HS1, by rcases hg1 with h | h <;> first | omega | (simp at h; omega), HB1⟩
     case measure => simp [intOf]; omega
 ·have HE : Hid (lpE n = 1) := Lib.hid (by unfold lpE; rw [if_neg hok])
  have HF := Lib.hid (lpS_bad hok)
  have hn : n < 0 ∨ (0 ≤ n ∧ 2305843009213693951 < n) := by rw [lenOk_iff] at hok; omega
  clear hok
  rcases hn with h | ⟨h, h'⟩
  all_goals
   go_enter Tryz.func92, Tryz.ntmps92
   go_wp2
   go_returns
   exact ⟨rets2 (congrArg _ HF.out.symm) (congrArg _ HE.out.symm), Below.refl _ _⟩
def lgAt (b : ByteArray) (at_ : Int) : Int × Int × Int :=
 if at_ < 0 ∨ (b.size : Int) < at_ then (0, 0, 1)
 else ((lenGet ((bl b).drop at_.toNat)).1, at_ + (lenGet ((bl b).drop at_.toNat)).2.1, (lenGet ((bl b).drop at_.toNat)).2.2)
theorem lgAt_in (b : ByteArray) (i : Nat) (hi : i ≤ b.size) {v : Int} {n : Nat} {e : Int} (h : lenGet ((bl b).drop i) = (v, n, e)) : lgAt b (i : Int) = (v, (i : Int) + n, e) := by
 unfold lgAt
 rw [if_neg (by omega), Int.toNat_natCast, h]
theorem lgAt_out (b : ByteArray) (at_ : Int) (h : at_ < 0 ∨ (b.size : Int) < at_) : lgAt b at_ = (0, 0, 1) := by
 unfold lgAt; rw [if_pos h]
theorem val_step (l : List Int) (i : Nat) (h : i < l.length) : val (l.take (i + 1)) 0 = val (l.take i) 0 * 256 + l[i] := by
 rw [List.take_add_one, List.getElem?_eq_getElem h, Option.toList_some, val_append]; rfl
set_option maxRecDepth 100000 in
set_option maxHeartbeats 1600000 in
theorem refLenGet_any (b : ByteArray) (at_ : Int) (hb : b.size ≤ maxLen) (ha : -9223372036854775808 ≤ at_ ∧ at_ ≤ 9223372036854775807) (w : World) :
  Calls Tryz.prog 71 #[.string b, .int .i64 at_] w fun e w' => e = .returned (.tuple #[.int .i64 (lgAt b at_).1, .int .i64 (lgAt b at_).2.1, .int .i64 (lgAt b at_).2.2]) ∧ Below w.heap.size w w' := by
 have hb9 : (b.size : Int) ≤ 9223372036854775807 := by unfold maxLen at hb; omega
 by_cases ho : at_ < 0 ∨ (b.size : Int) < at_
 ·have HA := Lib.hid (lgAt_out b at_ ho)
  have hw : at_ < 0 ∨ (0 ≤ at_ ∧ (b.size : Int) < at_) := by omega
  clear ho
  rcases hw with h1 | ⟨h1, h2⟩
  all_goals
   go_enter Tryz.func71, Tryz.ntmps71
   go_wp2
   go_returns
   rw [HA.out]
   exact ⟨rfl, Below.refl _ _⟩
 ·obtain ⟨i, rfl⟩ := Int.eq_ofNat_of_zero_le (show 0 ≤ at_ by omega)
  have hi : i ≤ b.size := by omega
  have hl : ¬ (b.size : Int) < (i : Int) := by omega
  have hl0 : ¬ (i : Int) < 0 := by omega
  clear ho ha
  by_cases hz : i = b.size
  ·have HA := Lib.hid (lgAt_in b i hi (show lenGet ((bl b).drop i) = (0, 0, 2) by rw [bl_drop_end b i (by omega)]; rfl))
   have he : ((i : Int) == (b.size : Int)) = true := by simp; omega
   clear hz hi
   go_enter Tryz.func71, Tryz.ntmps71
   go_wp2
   go_returns
   rw [HA.out]
   exact ⟨rets3 rfl (by simp) rfl, Below.refl _ _⟩
  ·have hlt : i < b.size := by omega
   have he : ((i : Int) == (b.size : Int)) = false := by simp; omega
   have hD := bl_drop b i hlt
   have hx0 := bt_nonneg b i
   have hx1 := bt_le b i
   have hbt := get_bt b i hlt
   generalize hx : bt b i = x at *
   clear hx hi hz
   by_cases c1 : x < 128
   ·have HA := Lib.hid (lgAt_in b i (by omega) (show lenGet ((bl b).drop i) = (x, 1, 0) by rw [hD, lenGet_cons, if_pos c1]))
    clear hD
    go_enter Tryz.func71, Tryz.ntmps71
    go_wp2
    go_returns
    rw [HA.out]
    exact ⟨rets3 rfl (by simp) rfl, Below.refl _ _⟩
   ·by_cases c2 : x = 128 ∨ 136 < x
    ·have HA := Lib.hid (lgAt_in b i (by omega) (show lenGet ((bl b).drop i) = (0, 0, 4) by rw [hD, lenGet_cons, if_neg c1, if_pos c2]))
     clear hD
     by_cases c20 : x = 128
     ·subst c20
      clear c2
      go_enter Tryz.func71, Tryz.ntmps71
      go_wp2
      go_returns
      rw [HA.out]
      exact ⟨rets3 rfl (by simp) rfl, Below.refl _ _⟩
     ·have c21 : 136 < x := by omega
      have c22 : (x == 128) = false := by simpa using c20
      clear c2 c20
      go_enter Tryz.func71, Tryz.ntmps71
      go_wp2
      go_returns
      rw [HA.out]
      exact ⟨rets3 rfl (by simp) rfl, Below.refl _ _⟩
    ·have c22 : (x == 128) = false := by simp; omega
     have c23 : ¬ 136 < x := by omega
     obtain ⟨k, hk⟩ : ∃ k : Nat, x = 128 + (k : Int) := ⟨(x - 128).toNat, by omega⟩
     have hk1 : 1 ≤ k := by omega
     have hk8 : k ≤ 8 := by omega
     obtain ⟨s, hs⟩ : ∃ s, b.extract (i + 1) b.size = s := ⟨_, rfl⟩
     have hsz : s.size = b.size - (i + 1) := by rw [← hs, ByteArray.size_extract]; omega
     have hsb : bl s = (bl b).drop (i + 1) := by
      rw [← hs, bl_extract _ _ _ (Nat.le_refl _), List.take_of_length_le]
      rw [List.length_drop, bl_length]
      omega
     have hrl : ((bl b).drop (i + 1)).length = s.size := by rw [← hsb, bl_length]
     have hG : lenGet ((bl b).drop i) = if 0 < (bl s).length ∧ ((bl s).headD 0 = 0 ∨ (x = 129 ∧ (bl s).headD 0 < 128)) then (0, 1, 4)
       else if ((bl s).length : Int) < x - 128 then (0, 1 + (bl s).length, 2)
       else if 2305843009213693951 < val ((bl s).take (x - 128).toNat) 0 then (0, (x - 128).toNat, 4)
       else (val ((bl s).take (x - 128).toNat) 0, 1 + (x - 128).toNat, 0) := by
      rw [hD, hsb, lenGet_cons, if_neg c1, if_neg c2]
     rw [bl_length, show (x - 128).toNat = k by omega, show x - 128 = (k : Int) by omega] at hG
     have hsl : ∀ W : World, (Instr.slice 9 (.string b) (some (.int .i64 ((i : Int) + 1))) none none).run Tryz.prog W = .ok (.string s) W := by
      intro W
      rw [run_slice_string_from_if (P := Tryz.prog) W 9 b .i64 _ Tryz.underlying9, if_pos (by omega), show ((i : Int) + 1).toNat = i + 1 by omega, hs]
     clear hD hsb hrl hs
     by_cases hs0 : s.size = 0
     ·have HA := Lib.hid (lgAt_in b i (by omega) (show lenGet ((bl b).drop i) = (0, 1 + s.size, 2) by rw [hG, if_neg (by omega), if_pos (by omega)]))
      have HS := Lib.hid hsz
      have hsz0 : (s.size : Int) = 0 := by omega
      subst hk
      clear hG hsz hs0 c2
      go_enter Tryz.func71, Tryz.ntmps71
      go_wp2
      go_returns
      rw [HA.out]
      exact ⟨rets3 rfl (by have := HS.out; simp <;> omega) rfl, Below.refl _ _⟩
     ·have hs0' : 0 < s.size := by omega
      have hs1 : (0 : Int) < (s.size : Int) := by omega
      have hh : (bl s).headD 0 = bt s 0 := by
       have := bl_drop s 0 hs0'
       rw [List.drop_zero] at this
       rw [this]; rfl
      rw [hh] at hG
      have hy0 := bt_nonneg s 0
      have hy1 := bt_le s 0
      have hyt := get_bt s 0 hs0'
      generalize hy : bt s 0 = y at *
      clear hh hs0 hy
      by_cases c3 : y = 0 ∨ (x = 129 ∧ y < 128)
      ·have HA := Lib.hid (lgAt_in b i (by omega) (show lenGet ((bl b).drop i) = (0, 1, 4) by rw [hG, if_pos ⟨hs0', c3⟩]))
       clear hG
       by_cases c30 : y = 0
       ·subst c30
        subst hk
        clear c3 c2 hsz
        go_enter Tryz.func71, Tryz.ntmps71
        go_wp2
        go_returns
        rw [HA.out]
        exact ⟨rets3 rfl (by simp) rfl, Below.refl _ _⟩
       ·have hy3 : (y == 0) = false := by simpa using c30
        have hk2 : k = 1 := by omega
        have hy4 : y < 128 := by omega
        subst hk
        subst hk2
        clear c3 c2 hsz c30
        go_enter Tryz.func71, Tryz.ntmps71
        go_wp2
        go_returns
        rw [HA.out]
        exact ⟨rets3 rfl (by simp) rfl, Below.refl _ _⟩
      ·have hy3 : (y == 0) = false := by simp; omega
       have hy4 : (((128 + (k : Int)) - 128) == 1) = true → ¬ y < 128 := by intro h; simp at h; omega
       rw [if_neg (by omega)] at hG
       by_cases c4 : (s.size : Int) < k
       ·have HA := Lib.hid (lgAt_in b i (by omega) (show lenGet ((bl b).drop i) = (0, 1 + s.size, 2) by rw [hG, if_pos c4]))
        have HS := Lib.hid hsz
        subst hk
        clear hG hsz c2 c3
        by_cases k1 : k = 1
        ·omega
        ·have hk1b : (((128 + (k : Int)) - 128) == 1) = false := by simp; omega
         clear hy4
         go_enter Tryz.func71, Tryz.ntmps71
         go_wp2
         go_returns
         rw [HA.out]
         exact ⟨rets3 rfl (by have := HS.out; simp <;> omega) rfl, Below.refl _ _⟩
       ·rw [if_neg c4] at hG
        have HG := Lib.hid hG
        have hkl : k ≤ s.size := by omega
        have hik : (i : Int) + (k : Int) + 1 ≤ (b.size : Int) := by omega
        clear hG hsz c3 c2
        subst hk
        have HVS := Lib.hid (fun (j : Nat) (h : j < s.size) => (val_step (bl s) j (by rw [bl_length]; exact h)).trans (by rw [bl_get]))
        have HVN := Lib.hid (fun (j : Nat) => val_nonneg ((bl s).take j) 0 ((bl_isB s).take j) (by decide))
        have HVG : Hid (∀ j, j ≤ k → 9007199254740991 < val ((bl s).take j) 0 → j < k → 2305843009213693951 < val ((bl s).take k) 0) := Lib.hid (by
         intro j hj hv hjk
         have h1 := HVS.out j (by omega)
         have h2 : val ((bl s).take (j + 1)) 0 ≤ val ((bl s).take k) 0 := by
          have := val_ge (((bl s).drop (j + 1)).take (k - (j + 1))) (val ((bl s).take (j + 1)) 0) (((bl_isB s).drop _).take _) (val_nonneg _ _ ((bl_isB s).take _) (Int.le_refl 0))
          rwa [← val_append, ← List.take_add, show j + 1 + (k - (j + 1)) = k by omega] at this
         have := bt_nonneg s j
         omega)
        by_cases k1 : k = 1
        case' pos => have hy5 := hy4 (by simp; omega)
        case' neg => have hk1b : (((128 + (k : Int)) - 128) == 1) = false := by simp; omega
        all_goals
         clear hy4
         go_enter Tryz.func71, Tryz.ntmps71
         go_wp2
         go_loop [10, 11] (fun nv jv => ∃ (j : Nat) (V : Int), nv = .int .i64 V ∧ jv = .int .i64 (j : Int) ∧ j ≤ k ∧ 0 ≤ V ∧ V ≤ 2305843009213693951 ∧ Hid (val ((bl s).take j) 0 = V)) (fun _ jv => k - (intOf jv).toNat)
         case atStart => exact ⟨0, 0, rfl, rfl, by omega, by omega, by omega, Lib.hid rfl⟩
         case round =>
          obtain ⟨j, V, rfl, rfl, hj, hV0, hV1, HV⟩ := hrel
          by_cases hjk : j < k
          ·have hjk2 : (j : Int) < 128 + (k : Int) - 128 := by omega
           by_cases hbig : 9007199254740991 < V
           ·have HA := Lib.hid (lgAt_in b i (by omega) (show lenGet ((bl b).drop i) = (0, k, 4) by rw [HG.out, if_pos (HVG.out j hj (by rw [HV.out]; exact hbig) hjk)]))
            clear HG HVG HVS HVN HV
            go_wp2
            go_returns
            rw [HA.out]
            exact ⟨rets3 rfl (by simp <;> omega) rfl, Below.refl _ _⟩
           ·have hz0 := bt_nonneg s j
            have hz1 := bt_le s j
            have hzt := get_bt s j (by omega)
            have hjs : j < s.size := by omega
            have hst := HVS.out j hjs
            rw [HV.out] at hst
            generalize bt s j = z at *
            have hz2 : ¬ 255 < z := by omega
            have hb0 : 256 * V + z = V * 256 + z := by omega
            have hb1 : 0 ≤ V * 256 + z := by omega
            have hb2 : V * 256 + z ≤ 2305843009213693951 := by omega
            have HST := Lib.hid hst
            clear hst HV
            by_cases hVe : V = 9007199254740991
            case' pos =>
             have hVq : (V == 9007199254740991) = true := by simpa using hVe
            case' neg =>
             have hVq : (V == 9007199254740991) = false := by simpa using hVe
            all_goals
             clear hVe
             generalize hV2 : V * 256 + z = V2 at *
             clear hV2
             go_wp2
             go_round
             case rel => exact ⟨j + 1, V2, rfl, by simp, by omega, hb1, hb2, HST⟩
             case measure => simp [intOf]; omega
          ·have hjk2 : ¬ (j : Int) < 128 + (k : Int) - 128 := by omega
           have hje : j = k := by omega
           have HA := Lib.hid (lgAt_in b i (by omega) (show lenGet ((bl b).drop i) = (V, 1 + k, 0) by rw [HG.out, ← hje, HV.out, if_neg (by omega)]))
           have hVm : ¬ 2305843009213693951 < V := by omega
           clear HG HVG HVS HVN HV hje
           go_wp2
           go_returns
           rw [HA.out]
           exact ⟨rets3 rfl (by simp <;> omega) rfl, Below.refl _ _⟩
end Go.Proofs.YtiiimhamfibdbaaGreat
/- Layer 6: what the laws need beside the contracts. -/
namespace Go.Proofs.YtiiimhamfibdbaaGreat
open Go.RowKit Go.PlainAid
set_option linter.unusedVariables false
theorem lpS_size {n : Int} (h : lenOk n = true) : (lpS n).size = (lenPut n).length := by rw [lpS_ok h, strOfNums_size]
theorem lpS_le (n : Int) : (lpS n).size ≤ 9 := by
 by_cases h : lenOk n = true
 ·rw [lpS_size h]; exact (lenPut_le h).2
 ·rw [lpS_bad h]; decide
/-! ### Sizes -/
/-! ### Order -/
end Go.Proofs.YtiiimhamfibdbaaGreat
/- What the reference's Put and Get of heads give. -/
namespace Go.Proofs.YtiiimhamfibdbaaGreat
open Go.RowKit Go.PlainAid
set_option linter.unusedVariables false
def hpS (c t : Int) (k : Bool) (n : Int) : ByteArray := if hdOk c t n = true then strOfNums (hdPut c t k n) else ⟨#[]⟩
def hpE (c t n : Int) : Int := if hdOk c t n = true then 0 else 1
theorem hpS_ok {c t : Int} {k : Bool} {n : Int} (h : hdOk c t n = true) : hpS c t k n = strOfNums (hdPut c t k n) := by rw [hpS, if_pos h]
theorem hpS_bad {c t : Int} {k : Bool} {n : Int} (h : ¬ hdOk c t n = true) : hpS c t k n = ⟨#[]⟩ := by rw [hpS, if_neg h]
theorem hpE_ok {c t n : Int} : hpE c t n = 0 ↔ hdOk c t n = true := by unfold hpE; split <;> simp_all
theorem hpE_bad {c t n : Int} (h : ¬ hdOk c t n = true) : hpE c t n = 1 := by unfold hpE; rw [if_neg h]
theorem putE_bad {c t : Int} (h : ¬ idOk c t = true) : putE c t = 1 := by unfold putE; rw [if_neg h]
theorem lpE_bad {n : Int} (h : ¬ lenOk n = true) : lpE n = 1 := by unfold lpE; rw [if_neg h]
theorem hpS_join {c t : Int} {k : Bool} {n : Int} (h1 : idOk c t = true) (h2 : lenOk n = true) : putS c t k ++ lpS n = hpS c t k n := by
 rw [hpS_ok (hdOk_iff.2 ⟨h1, h2⟩), putS_ok h1, lpS_ok h2, ← strOfNums_append]; rfl
set_option maxHeartbeats 1600000 in
theorem refHeadPut_all (c t : Int) (k : Bool) (n : Int) (hn : -9223372036854775808 ≤ n ∧ n ≤ 9223372036854775807) (w : World) :
  Calls Tryz.prog 68 #[.agg #[.int .i64 c, .int .i64 t, .bool k, .int .i64 n]] w fun e w' => e = .returned (.tuple #[.string (hpS c t k n), .int .i64 (hpE c t n)]) ∧ Below w.heap.size w w' := by
 have HX0 := Lib.hid (Row.new w 32 (hdC c t k n))
 have hB0 : Below w.heap.size w (w.alloc (.cells (hdC c t k n).toArray 32)) := (Below.refl _ _).alloc (Nat.le_refl _) _
 have H0 := Lib.hid (refIdPut_all c t k n)
 have H1 := Lib.hid (refLenPut_all n hn)
 have hl0 := putS_le c t k
 have hl1 := lpS_le n
 by_cases h1 : idOk c t = true
 ·rw [putE_ok.2 h1] at H0
  by_cases h2 : lenOk n = true
  ·rw [lpE_ok.2 h2] at H1
   have HF := Lib.hid (hpS_join (k := k) h1 h2)
   have HE := Lib.hid (hpE_ok.2 (hdOk_iff.2 ⟨h1, h2⟩))
   generalize putS c t k = a at *
   generalize lpS n = b at *
   clear h1 h2 hn
   go_enter Tryz.func68, Tryz.ntmps68
   go_wp2_with fail
   refine (H0.out _).mono ?_
   rintro e w1 ⟨rfl, hb⟩
   have hB1 := hB0.trans (hb.mono hB0.size)
   have HX1 := Lib.hid (HX0.out.below hb HX0.out.lt)
   obtain ⟨k0, k1, k2, k3, _, _, _, _⟩ := head_facts HX1.out
   clear hb hB0 HX0
   go_wp2_with fail
   refine (H1.out _).mono ?_
   rintro e w2 ⟨rfl, hb⟩
   have hB2 := hB1.trans (hb.mono hB1.size)
   clear hb hB1 HX1 k0 k1 k2 k3
   go_wp2
   go_returns
   exact ⟨rets2 (congrArg _ HF.out) (congrArg _ HE.out.symm), hB2⟩
  ·rw [lpE_bad h2] at H1
   have hno : ¬ hdOk c t n = true := by rw [hdOk_iff]; exact fun h => h2 h.2
   have HF := Lib.hid (hpS_bad (k := k) hno)
   have HE := Lib.hid (hpE_bad hno)
   generalize putS c t k = a at *
   generalize lpS n = b at *
   clear h1 h2 hn hno
   go_enter Tryz.func68, Tryz.ntmps68
   go_wp2_with fail
   refine (H0.out _).mono ?_
   rintro e w1 ⟨rfl, hb⟩
   have hB1 := hB0.trans (hb.mono hB0.size)
   have HX1 := Lib.hid (HX0.out.below hb HX0.out.lt)
   obtain ⟨k0, k1, k2, k3, _, _, _, _⟩ := head_facts HX1.out
   clear hb hB0 HX0
   go_wp2_with fail
   refine (H1.out _).mono ?_
   rintro e w2 ⟨rfl, hb⟩
   have hB2 := hB1.trans (hb.mono hB1.size)
   clear hb hB1 HX1 k0 k1 k2 k3
   go_wp2
   go_returns
   exact ⟨rets2 (congrArg _ HF.out.symm) (congrArg _ HE.out.symm), hB2⟩
 ·rw [putE_bad h1] at H0
  have hno : ¬ hdOk c t n = true := by rw [hdOk_iff]; exact fun h => h1 h.1
  have HF := Lib.hid (hpS_bad (k := k) hno)
  have HE := Lib.hid (hpE_bad hno)
  generalize putS c t k = a at *
  clear h1 hn hno
  go_enter Tryz.func68, Tryz.ntmps68
  go_wp2_with fail
  refine (H0.out _).mono ?_
  rintro e w1 ⟨rfl, hb⟩
  have hB1 := hB0.trans (hb.mono hB0.size)
  clear hb hB0 HX0
  go_wp2
  go_returns
  exact ⟨rets2 (congrArg _ HF.out.symm) (congrArg _ HE.out.symm), hB1⟩
def hgAt (b : ByteArray) (at_ : Int) : Int × Int × Bool × Int × Int × Int :=
 if at_ < 0 ∨ (b.size : Int) < at_ then (0, 0, false, 0, 0, 1)
 else ((hdGet ((bl b).drop at_.toNat)).1, (hdGet ((bl b).drop at_.toNat)).2.1, (hdGet ((bl b).drop at_.toNat)).2.2.1, (hdGet ((bl b).drop at_.toNat)).2.2.2.1, at_ + (hdGet ((bl b).drop at_.toNat)).2.2.2.2.1, (hdGet ((bl b).drop at_.toNat)).2.2.2.2.2)
theorem hgAt_in (b : ByteArray) (i : Nat) (hi : i ≤ b.size) {c t : Int} {k : Bool} {v : Int} {n : Nat} {e : Int} (h : hdGet ((bl b).drop i) = (c, t, k, v, n, e)) : hgAt b (i : Int) = (c, t, k, v, (i : Int) + n, e) := by
 unfold hgAt
 rw [if_neg (by omega), Int.toNat_natCast, h]
theorem hgAt_out (b : ByteArray) (at_ : Int) (h : at_ < 0 ∨ (b.size : Int) < at_) : hgAt b at_ = (0, 0, false, 0, 0, 1) := by
 unfold hgAt; rw [if_pos h]
def hgV (g : Int × Int × Bool × Int × Int × Int) : Value := .tuple #[.agg #[.int .i64 g.1, .int .i64 g.2.1, .bool g.2.2.1, .int .i64 g.2.2.2.1], .int .i64 g.2.2.2.2.1, .int .i64 g.2.2.2.2.2]
theorem hgAt_cases (b : ByteArray) (at_ : Int) (ha : -9223372036854775808 ≤ at_ ∧ at_ ≤ 9223372036854775807) (hb : b.size ≤ maxLen) :
  (∃ n e, gAt b at_ = (0, 0, false, n, e) ∧ e ≠ 0 ∧ hgAt b at_ = (0, 0, false, 0, n, e)) ∨
  (∃ c t k n m e, gAt b at_ = (c, t, k, n, 0) ∧ 0 ≤ n ∧ n ≤ b.size ∧ lgAt b n = (0, m, e) ∧ e ≠ 0 ∧ hgAt b at_ = (0, 0, false, 0, m, e)) ∨
  (∃ c t k n v m, gAt b at_ = (c, t, k, n, 0) ∧ 0 ≤ n ∧ n ≤ b.size ∧ lgAt b n = (v, m, 0) ∧ hgAt b at_ = (c, t, k, v, m, 0)) := by
 by_cases h : at_ < 0 ∨ (b.size : Int) < at_
 ·left
  refine ⟨0, 1, ?_, by decide, hgAt_out b at_ h⟩
  unfold gAt; rw [if_pos h]
 ·obtain ⟨i, rfl⟩ := Int.eq_ofNat_of_zero_le (show 0 ≤ at_ by omega)
  have hi : i ≤ b.size := by omega
  have hle := idGet_le ((bl b).drop i)
  rw [List.length_drop, bl_length] at hle
  rcases hdGet_cases ((bl b).drop i) with ⟨c, t, k, n, e, h1, he⟩ | ⟨c, t, k, n, v, m, e, h1, h2, he⟩ | ⟨c, t, k, n, v, m, h1, h2⟩
  ·left
   obtain ⟨z1, z2, z3⟩ := idGet_bad ((bl b).drop i) (by rw [h1]; exact he)
   rw [h1] at z1 z2 z3
   simp only at z1 z2 z3
   subst z1 z2 z3
   exact ⟨(i : Int) + n, e, gAt_in b i hi h1, he, hgAt_in b i hi (hdGet_id h1 he)⟩
  ·right; left
   rw [h1] at hle
   simp only at hle
   have z := lenGet_bad (((bl b).drop i).drop n) (by rw [h2]; exact he)
   rw [h2] at z
   simp only at z
   subst z
   rw [List.drop_drop] at h2
   have e2 := lgAt_in b (i + n) (by omega) h2
   rw [show ((i + n : Nat) : Int) = (i : Int) + n by omega, show (i : Int) + (n : Int) + (m : Int) = (i : Int) + ((n + m : Nat) : Int) by omega] at e2
   exact ⟨c, t, k, (i : Int) + n, _, e, gAt_in b i hi h1, by omega, by omega, e2, he, hgAt_in b i hi (hdGet_len h1 (by rw [List.drop_drop]; exact h2) he)⟩
  ·right; right
   rw [h1] at hle
   simp only at hle
   rw [List.drop_drop] at h2
   have e2 := lgAt_in b (i + n) (by omega) h2
   rw [show ((i + n : Nat) : Int) = (i : Int) + n by omega, show (i : Int) + (n : Int) + (m : Int) = (i : Int) + ((n + m : Nat) : Int) by omega] at e2
   exact ⟨c, t, k, (i : Int) + n, v, _, gAt_in b i hi h1, by omega, by omega, e2, hgAt_in b i hi (hdGet_ok h1 (by rw [List.drop_drop]; exact h2))⟩
theorem hb9_of {b : ByteArray} (h : b.size ≤ maxLen) : (b.size : Int) ≤ 9223372036854775807 := by unfold maxLen at h; omega
set_option maxHeartbeats 1600000 in
theorem refHeadGet_any (b : ByteArray) (at_ : Int) (hb : b.size ≤ maxLen) (ha : -9223372036854775808 ≤ at_ ∧ at_ ≤ 9223372036854775807) (w : World) :
  Calls Tryz.prog 49 #[.string b, .int .i64 at_] w fun e w' => e = .returned (hgV (hgAt b at_)) ∧ Below w.heap.size w w' := by
 have h9 := hb9_of hb
 have HZ := Lib.hid (Row.new w 32 (hdC 0 0 false 0))
 have hB0 : Below w.heap.size w (w.alloc (.cells (hdC 0 0 false 0).toArray 32)) := (Below.refl _ _).alloc (Nat.le_refl _) _
 rcases hgAt_cases b at_ ha hb with ⟨n, e, hg, he, hr⟩ | ⟨c, t, k, n, m, e, hg, n0, n1, hl, he, hr⟩ | ⟨c, t, k, n, v, m, hg, n0, n1, hl, hr⟩
 ·have H0 := Lib.hid (refIdGet_is b at_ hb hg)
  have HA := Lib.hid (show hgV (hgAt b at_) = .tuple #[hdV 0 0 false 0, .int .i64 n, .int .i64 e] by rw [hr]; rfl)
  have heq : (e != 0) = true := by simpa using he
  clear hg he hr
  go_enter Tryz.func49, Tryz.ntmps49
  go_wp2_with fail
  refine (H0.out _).mono ?_
  rintro e w1 ⟨rfl, hb⟩
  have hB1 := hB0.trans (hb.mono (by simp))
  have HZ1 := Lib.hid (HZ.out.below hb HZ.out.lt)
  obtain ⟨k0, k1, k2, k3, f0, f1, f2, f3⟩ := head_facts HZ1.out
  have hlt := HZ1.out.lt
  clear hb hB0 HZ
  go_wp2
  exact bodyPost_ret (results_cell_two Tryz.results49 _ (ad := ⟨w.heap.size, 0, none⟩) rfl rfl rfl (head_load ((head_set HZ1.out 0 0 false 0).alloc _))) rfl ⟨by rw [HA.out]; rfl, (head_below hB1 (Nat.le_refl _) 0 0 false 0).alloc (by rw [size_set4]; exact hB1.size) _⟩
 ·have H0 := Lib.hid (refIdGet_is b at_ hb hg)
  have H1 := Lib.hid (fun w => refLenGet_any b n hb ⟨by omega, by omega⟩ w)
  rw [hl] at H1
  have HA := Lib.hid (show hgV (hgAt b at_) = .tuple #[hdV 0 0 false 0, .int .i64 m, .int .i64 e] by rw [hr]; rfl)
  have heq : (e != 0) = true := by simpa using he
  clear hg he hr hl
  go_enter Tryz.func49, Tryz.ntmps49
  go_wp2_with fail
  refine (H0.out _).mono ?_
  rintro e w1 ⟨rfl, hb⟩
  have hB1 := hB0.trans (hb.mono (by simp))
  have HZ1 := Lib.hid ((HZ.out.below hb HZ.out.lt).alloc (.cells (hdC c t k 0).toArray 32))
  have hB1 := hB1.alloc hB1.size (.cells (hdC c t k 0).toArray 32)
  clear hb hB0 HZ
  go_wp2_with fail
  refine (H1.out _).mono ?_
  rintro e w2 ⟨rfl, hb⟩
  have hB2 := hB1.trans (hb.mono hB1.size)
  have HZ2 := Lib.hid (HZ1.out.below hb HZ1.out.lt)
  obtain ⟨k0, k1, k2, k3, f0, f1, f2, f3⟩ := head_facts HZ2.out
  have hlt := HZ2.out.lt
  clear hb hB1 HZ1
  go_wp2
  exact bodyPost_ret (results_cell_two Tryz.results49 _ (ad := ⟨w.heap.size, 0, none⟩) rfl rfl rfl (head_load (head_set HZ2.out 0 0 false 0))) rfl ⟨by rw [HA.out]; rfl, head_below hB2 (Nat.le_refl _) 0 0 false 0⟩
 ·have H0 := Lib.hid (refIdGet_is b at_ hb hg)
  have H1 := Lib.hid (fun w => refLenGet_any b n hb ⟨by omega, by omega⟩ w)
  rw [hl] at H1
  have HA := Lib.hid (show hgV (hgAt b at_) = .tuple #[hdV c t k v, .int .i64 m, .int .i64 0] by rw [hr]; rfl)
  clear hg hr hl
  go_enter Tryz.func49, Tryz.ntmps49
  go_wp2_with fail
  refine (H0.out _).mono ?_
  rintro e w1 ⟨rfl, hb⟩
  have hB1 := hB0.trans (hb.mono (by simp))
  have hs1 : w.heap.size + 1 ≤ w1.heap.size := by have := hb.size; simpa using this
  have HZ1 := Lib.hid ((HZ.out.below hb HZ.out.lt).alloc (.cells (hdC c t k 0).toArray 32))
  have HY1 := Lib.hid (Row.new w1 32 (hdC c t k 0))
  have hB1 := hB1.alloc hB1.size (.cells (hdC c t k 0).toArray 32)
  clear hb hB0 HZ
  go_wp2_with fail
  refine (H1.out _).mono ?_
  rintro e w2 ⟨rfl, hb⟩
  have hB2 := hB1.trans (hb.mono hB1.size)
  have HZ2 := Lib.hid (HZ1.out.below hb HZ1.out.lt)
  have HY2 := Lib.hid (HY1.out.below hb HY1.out.lt)
  obtain ⟨k0, k1, k2, k3, f0, f1, f2, f3⟩ := head_facts HZ2.out
  obtain ⟨j0, j1, j2, j3, q0, q1, q2, q3⟩ := head_facts HY2.out
  have hB1s : w.heap.size ≤ w1.heap.size := by omega
  have hne : ¬ w.heap.size = w1.heap.size := by omega
  have hne2 : ¬ w1.heap.size = w.heap.size := by omega
  clear hb hB1 HZ1 HY1
  go_wp2
  exact bodyPost_ret (results_cell_two Tryz.results49 _ (ad := ⟨w.heap.size, 0, none⟩) rfl rfl rfl (head_load (head_set (HZ2.out.far (p := ⟨w1.heap.size, 3, none⟩) hne (.int .i64 v)) c t k v))) rfl ⟨by rw [HA.out]; rfl, head_below (hB2.setCell (p := ⟨w1.heap.size, 3, none⟩) hB1s (.int .i64 v)) (Nat.le_refl _) c t k v⟩
end Go.Proofs.YtiiimhamfibdbaaGreat
