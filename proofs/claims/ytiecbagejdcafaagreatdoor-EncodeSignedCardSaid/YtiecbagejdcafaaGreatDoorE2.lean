/- What the reference's Put gives. -/
import Derived.Test.YtiecbagejdcafaaGreatDoorB0
import Derived.Test.YtiecbagejdcafaaGreatDoorE1
import Derived.Test.YtiecbagejdcafaaGreatDoorP0
import Derived.Handy
import Derived.Laws.BytesArg
import Derived.Lib.Strings
import Derived.Laws.Cover1
namespace Go.Proofs.YtiecbagejdcafaaGreatDoor
open Go.RowKit Go.PlainAid
set_option linter.unusedVariables false
def loD (n : Nat) : List Int := if n < 128 then [(n : Int)] else ((n % 128 : Nat) : Int) :: loD (n / 128)
def dG (n : Nat) : List Int := (loD n).reverse
theorem loD_small {n : Nat} (h : n < 128) : loD n = [(n : Int)] := by rw [loD, if_pos h]
theorem loD_big {n : Nat} (h : ¬ n < 128) : loD n = ((n % 128 : Nat) : Int) :: loD (n / 128) := by rw [loD, if_neg h]
theorem dG_small {n : Nat} (h : n < 128) : dG n = [(n : Int)] := by rw [dG, loD_small h]; rfl
theorem dG_big {n : Nat} (h : ¬ n < 128) : dG n = dG (n / 128) ++ [((n % 128 : Nat) : Int)] := by rw [dG, loD_big h, List.reverse_cons]; rfl
theorem gB_dG (n : Nat) : gB n = (dG n).dropLast.map (128 + ·) ++ [((n % 128 : Nat) : Int)] := by
 have key : ∀ m : Nat, m ≠ 0 → hiG m = (dG m).map (128 + ·) := by
  intro m
  induction m using Nat.strongRecOn with
  |ind m ih =>
   intro h0
   rw [hiG_pos h0]
   by_cases h : m < 128
   ·rw [dG_small h, show m / 128 = 0 by omega, hiG_zero, show m % 128 = m by omega]; simp
   ·rw [dG_big h, ih (m / 128) (by omega) (by omega)]; simp
 rw [gB]
 by_cases h : n < 128
 ·rw [dG_small h, show n / 128 = 0 by omega, hiG_zero]; rfl
 ·rw [dG_big h, List.dropLast_concat, key _ (by omega)]
theorem dG_last (n : Nat) : (dG n).getLast? = some ((n % 128 : Nat) : Int) := by
 by_cases h : n < 128
 ·rw [dG_small h]; simp; omega
 ·rw [dG_big h]; simp
theorem dG_length (n : Nat) : (dG n).length = (gB n).length := by
 rw [gB_dG]
 have : dG n ≠ [] := by intro h; have := dG_last n; rw [h] at this; cases this
 have := List.length_pos_iff.2 this
 simp; omega
theorem dG_bd (n : Nat) : ∀ x ∈ dG n, 0 ≤ x ∧ x ≤ 127 := by
 induction n using Nat.strongRecOn with
 |ind n ih =>
  intro x hx
  by_cases h : n < 128
  ·rw [dG_small h] at hx; simp at hx; omega
  ·rw [dG_big h] at hx
   rcases List.mem_append.1 hx with hx | hx
   ·exact ih _ (by omega) x hx
   ·simp at hx; omega
set_option maxHeartbeats 1600000 in
theorem refGroups_any (n : Nat) (h : n ≤ 268435455) (w : World) :
  Calls Tryz.prog 93 #[.int .i64 n] w fun e w' => ∃ v g, e = .returned v ∧ Sl w' 3 v (i64s (dG n)) g ∧ w.heap.size ≤ g ∧ Below w.heap.size w w' := by
 have HLE := Lib.hid (gB_le n h)
 go_enter Tryz.func93, Tryz.ntmps93
 go_wp2
 go_loopw [0, 3] (fun tv sv wr => ∃ (t g : Nat) (l : List Int), tv = .int .i64 (t : Int) ∧ t ≤ n ∧ Hid (dG t ++ l = dG n) ∧ Sl wr 3 sv (i64s (((t % 128 : Nat) : Int) :: l)) g ∧ w.heap.size ≤ g ∧ Below w.heap.size w wr) (fun tv _ _ => (intOf tv).toNat)
 case atStart => exact ⟨n, w.heap.size, [], rfl, Nat.le_refl _, Lib.hid (by simp), by have := sl_new_ints w [((n % 128 : Nat) : Int)] (by simp [maxLen]); simpa [i64s] using this, Nat.le_refl _, by go_grown⟩
 case round =>
  obtain ⟨t, g, l, rfl, ht, HL, hs, hg, hB⟩ := hrel
  have HB := Lib.hid hB
  obtain ⟨c, rfl, _, _⟩ := hs.open (n := l.length + 1) (by rw [i64s_length]; rfl)
  have HS := Lib.hid hs
  have hll : l.length ≤ 4 := by have := congrArg List.length HL.out; rw [dG_length n, List.length_append] at this; have := HLE.out; omega
  clear hs hB
  by_cases h0 : (127 : Int) < (t : Int)
  ·have hcell : ∀ j (hj : j < (((t % 128 : Nat) : Int) :: l).length), (wr.alloc (.cells (i64s [(t : Int) / 128 % 128]).toArray 3)).cell? ⟨g, j, none⟩ = some (.int .i64 (((t % 128 : Nat) : Int) :: l)[j]) := by
    intro j hj
    have := (HS.out.alloc (.cells (i64s [(t : Int) / 128 % 128]).toArray 3)).cell (i := j) (by rw [i64s_length]; exact hj)
    rw [this, i64s_get]
   have HC := Lib.hid hcell
   clear hcell
   go_wp2_with (at_builtin; refine wpList_append_ints rfl (.tmp 13) (.tmp 14) rfl (l := [(t : Int) / 128 % 128]) (g := wr.heap.size) rfl (sl_new_ints wr [(t : Int) / 128 % 128] (by simp [maxLen])) g (l.length + 1) c (((t % 128 : Nat) : Int) :: l) rfl (by simp) HC.out (by simp; omega) ?_)
   intro v' w1 g' hs1 hg1 hgr1
   have HS1 := Lib.hid hs1
   have HG1 := Lib.hid hgr1
   clear hs1 hgr1 HC
   go_wp2
   go_roundw
   case rel =>
    have hsz : w.heap.size ≤ wr.heap.size := HB.out.size
    refine ⟨t / 128, g', ((t % 128 : Nat) : Int) :: l, by simp, by omega, Lib.hid ?_, ?_, ?_, ?_⟩
    ·rw [← HL.out, dG_big (n := t) (by omega)]; simp
    ·have := HS1.out
     rw [show (t : Int) / 128 % 128 = ((t / 128 % 128 : Nat) : Int) by omega] at this
     exact this
    ·rcases hg1 with rfl | rfl
     ·exact hsz
     ·first | omega | (simp; omega)
    ·exact (HB.out.alloc hsz _).grown HG1.out (by simp; omega) (by intro k hk; cases hk; exact hsz)
   case measure => simp [intOf]; omega
  ·have HF := Lib.hid (show ((t % 128 : Nat) : Int) :: l = dG n by rw [← HL.out, dG_small (n := t) (by omega), show t % 128 = t by omega]; rfl)
   go_wp2
   go_ret
   refine ⟨_, rfl, g, ?_, hg, HB.out⟩
   rw [← HF.out]
   exact HS.out
theorem dropLast_append_last {l : List Int} {x : Int} (h : l.getLast? = some x) : l = l.dropLast ++ [x] := by
 obtain ⟨ys, rfl⟩ := List.getLast?_eq_some_iff.1 h
 simp
def refOut (f : Int) (n k : Nat) : List Int := if k < (dG n).length then f :: ((dG n).take k).map (128 + ·) else f :: gB n
theorem refOut_zero (f : Int) (n : Nat) : refOut f n 0 = [f] := by
 have := dG_length n
 have := gB_length n
 rw [refOut, if_pos (by omega)]; rfl
theorem refOut_mid (f : Int) (n k : Nat) (h : k + 1 < (dG n).length) : refOut f n (k + 1) = refOut f n k ++ [128 + (dG n)[k]] := by
 rw [refOut, refOut, if_pos h, if_pos (by omega), List.take_add_one, List.getElem?_eq_getElem (by omega), List.map_append]
 rfl
theorem refOut_last (f : Int) (n k : Nat) (h : k + 1 = (dG n).length) : refOut f n (k + 1) = refOut f n k ++ [(dG n)[k]] := by
 have hl := dropLast_append_last (dG_last n)
 have hk : (dG n)[k] = ((n % 128 : Nat) : Int) := by
  have := dG_last n
  rw [List.getLast?_eq_getElem?, ← h, Nat.add_sub_cancel, List.getElem?_eq_getElem (by omega)] at this
  exact Option.some.inj this
 rw [refOut, refOut, if_neg (by omega), if_pos (by omega), hk, gB_dG, List.dropLast_eq_take, ← h]
 simp
theorem refOut_end (f : Int) (n k : Nat) (h : (dG n).length ≤ k) : refOut f n k = f :: gB n := by rw [refOut, if_neg (by omega)]
set_option maxHeartbeats 1600000 in
theorem refIdPut_bad (cls tag : Int) (cons : Bool) (len : Int) (h : idOk cls tag = false) (w : World) :
  Calls Tryz.prog 67 #[.agg #[.int .i64 cls, .int .i64 tag, .bool cons, .int .i64 len]] w fun e w' => e = .returned (.tuple #[.string ⟨#[]⟩, .int .i64 1]) ∧ Below w.heap.size w w' := by
 have hn : cls < 0 ∨ (0 ≤ cls ∧ 3 < cls) ∨ (0 ≤ cls ∧ cls ≤ 3 ∧ tag < 0) ∨ (0 ≤ cls ∧ cls ≤ 3 ∧ 0 ≤ tag ∧ 268435455 < tag) := by
  have hn : ¬ (0 ≤ cls ∧ cls ≤ 3 ∧ 0 ≤ tag ∧ tag ≤ 268435455) := by rw [← idOk_iff, h]; simp
  omega
 clear h
 rcases hn with n0 | ⟨n0, n1⟩ | ⟨n0, n1, n2⟩ | ⟨n0, n1, n2, n3⟩
 all_goals
  go_enter Tryz.func67, Tryz.ntmps67
  go_wp2
  go_returns
  exact ⟨rfl, by go_grown⟩
set_option maxHeartbeats 1600000 in
theorem refIdPut_any (cls tag : Int) (cons : Bool) (len : Int) (h : idOk cls tag = true) (w : World) :
  Calls Tryz.prog 67 #[.agg #[.int .i64 cls, .int .i64 tag, .bool cons, .int .i64 len]] w fun e w' => e = .returned (.tuple #[.string (strOfNums (idPut cls tag cons)), .int .i64 0]) ∧ Below w.heap.size w w' := by
 obtain ⟨h0, h1, h2, h3⟩ := idOk_iff.1 h
 clear h
 have n0 : ¬ cls < 0 := by omega
 have n1 : ¬ 3 < cls := by omega
 have n2 : ¬ tag < 0 := by omega
 have n3 : ¬ 268435455 < tag := by omega
 have HP := Lib.hid (Row.new w 36 [.int .i64 cls, .int .i64 tag, .bool cons, .int .i64 len])
 by_cases ht : tag < 31
 ·cases cons
  case' false => 
   have HF : Hid (strOfNums [64 * cls + tag] = strOfNums (idPut cls tag false)) := Lib.hid (by rw [idPut, if_pos ht, first, if_pos ht]; simp)
   have hcv := conv_at (64 * cls + tag)
  case' true =>
   have HF : Hid (strOfNums [64 * cls + 32 + tag] = strOfNums (idPut cls tag true)) := Lib.hid (by rw [idPut, if_pos ht, first, if_pos ht]; simp)
   have hcv := conv_at (64 * cls + 32 + tag)
  all_goals
   go_enter Tryz.func67, Tryz.ntmps67
   go_wp2
   go_returns
   exact ⟨rets2 (congrArg _ HF.out) rfl, by go_grown⟩
 ·have HG := Lib.hid (refGroups_any tag.toNat (by omega))
  rw [Int.toNat_of_nonneg h2] at HG
  have hge : 31 ≤ tag := by omega
  have hL : (dG tag.toNat).length ≤ 4 := by rw [dG_length]; exact gB_le _ (by omega)
  have HBD := Lib.hid (dG_bd tag.toNat)
  have hfb := first_bd (cls := cls) (tag := tag) (cons := cons) h0 h1 h2
  obtain ⟨Y, hY⟩ : ∃ Y, Y = first cls tag cons := ⟨_, rfl⟩
  have HF : Hid (strOfNums (Y :: gB tag.toNat) = strOfNums (idPut cls tag cons)) := Lib.hid (by rw [idPut, if_neg ht, hY])
  rw [← hY] at hfb
  cases cons
  case' false => 
   have eor : 64 * cls + 31 = Y := by rw [hY, first, if_neg ht]; simp
  case' true =>
   have eor : 64 * cls + 32 + 31 = Y := by rw [hY, first, if_neg ht]; simp
  all_goals
   generalize hN : tag.toNat = N at *
   have HM := Lib.hid (refOut_mid Y N)
   have HLA := Lib.hid (refOut_last Y N)
   have HEN := Lib.hid (refOut_end Y N)
   have HZ := Lib.hid (refOut_zero Y N)
   clear hN hY
   go_enter Tryz.func67, Tryz.ntmps67
   go_wp2_with fail
   refine (HG.out _).mono ?_
   rintro e w1 ⟨v, gl, rfl, hsl, hgl, hb1⟩
   obtain ⟨cl, rfl, _, _⟩ := hsl.open (n := (dG N).length) (i64s_length _)
   have hb1' : Below (w.heap.size + 2) _ w1 := hb1.mono (by simp)
   have hs1 : Sl w1 5 (.slice (some ⟨w.heap.size + 1, 0, none⟩) 1 1) (u8s [Y]) (w.heap.size + 1) := by
    have h := (sl_new_bytes (w.alloc (.cells #[.int .i64 cls, .int .i64 tag, .bool _, .int .i64 len] 36)) [Y] (by simp [maxLen])).below hb1' (by simp)
    simpa using h
   have hbw : Below w.heap.size w w1 := Below.trans (by go_grown) (hb1'.mono (by omega))
   have hgl2 : w.heap.size + 2 ≤ gl := by simpa using hgl
   have HSL := Lib.hid hsl
   have HS1 := Lib.hid hs1
   have HB1 := Lib.hid hbw
   clear hsl hs1 hbw hb1 hb1' hgl
   go_wp2
   go_loopw [5, 7] (fun ov iv wr => ∃ (k g c : Nat), iv = .int .i64 (k : Int) ∧ k ≤ (dG N).length ∧ ov = .slice (some ⟨g, 0, none⟩) (k + 1) c ∧ Hid ((refOut Y N k).length = k + 1) ∧ Hid (Sl wr 5 (.slice (some ⟨g, 0, none⟩) (k + 1) c) (u8s (refOut Y N k)) g) ∧ Hid (Sl wr 3 (.slice (some ⟨gl, 0, none⟩) (dG N).length cl) (i64s (dG N)) gl) ∧ w.heap.size ≤ g ∧ g ≠ gl ∧ Hid (Below w.heap.size w wr)) (fun _ iv _ => (dG N).length - (intOf iv).toNat)
   case atStart => exact ⟨0, w.heap.size + 1, 1, rfl, by omega, rfl, Lib.hid (by rw [HZ.out]; rfl), Lib.hid (by rw [HZ.out]; exact HS1.out), HSL, by omega, by omega, HB1⟩
   case round =>
    obtain ⟨k, g, c, rfl, hk, rfl, HLn, HS, HSl, hg, hgg, HB⟩ := hrel
    clear HSL HS1 HB1
    by_cases hlt : k < (dG N).length
    ·have hc := HSl.out.cell (i := k) (by rw [i64s_length]; exact hlt)
     rw [i64s_get] at hc
     have hbd := HBD.out (dG N)[k] (List.getElem_mem hlt)
     obtain ⟨hd0, hd1⟩ := hbd
     by_cases hmid : k + 1 < (dG N).length
     ·have HO := Lib.hid (HM.out k hmid)
      generalize (dG N)[k] = d at *
      go_wp2_with (at_builtin; refine wpList_append_byte rfl (.tmp 61) (.tmp 68) rfl (l := refOut Y N k) (g := g) rfl (HS.out.alloc _) wr.heap.size 1 (128 + d) rfl (by simp) (by rw [HLn.out]; omega) ?_)
      intro v' w2 g' hs2 hg2 hgr2
      have HLn2 : Hid ((refOut Y N (k + 1)).length = k + 1 + 1) := Lib.hid (by rw [HO.out, List.length_append, HLn.out]; rfl)
      obtain ⟨c', rfl, _, _⟩ := hs2.open (n := k + 1 + 1) (by rw [u8s_length, ← HO.out, HLn2.out])
      have hgl3 := HSl.out.lt
      have hsz := HB.out.size
      have HSl2 := Lib.hid ((HSl.out.alloc (.cells #[.int .u8 (128 + d)] 5)).grown hgr2 (by intro h; cases h; exact hgg rfl))
      have HB2 := Lib.hid ((HB.out.alloc hsz (.cells #[.int .u8 (128 + d)] 5)).grown hgr2 (by simp; omega) (by intro q hq; cases hq; exact hg))
      rw [← HO.out] at hs2
      have HS2 := Lib.hid hs2
      clear hs2 hgr2 HSl HS HB
      go_wp2
      go_roundw
      case rel => exact ⟨k + 1, g', c', by simp, by omega, rfl, HLn2, HS2, HSl2, by rcases hg2 with h | h <;> omega, by rcases hg2 with h | h <;> omega, HB2⟩
      case measure => simp [intOf]; omega
     ·have HO := Lib.hid (HLA.out k (by omega))
      generalize (dG N)[k] = d at *
      go_wp2_with (at_builtin; refine wpList_append_byte rfl (.tmp 70) (.tmp 76) rfl (l := refOut Y N k) (g := g) rfl (HS.out.alloc _) wr.heap.size 1 (d) rfl (by simp) (by rw [HLn.out]; omega) ?_)
      intro v' w2 g' hs2 hg2 hgr2
      have HLn2 : Hid ((refOut Y N (k + 1)).length = k + 1 + 1) := Lib.hid (by rw [HO.out, List.length_append, HLn.out]; rfl)
      obtain ⟨c', rfl, _, _⟩ := hs2.open (n := k + 1 + 1) (by rw [u8s_length, ← HO.out, HLn2.out])
      have hgl3 := HSl.out.lt
      have hsz := HB.out.size
      have HSl2 := Lib.hid ((HSl.out.alloc (.cells #[.int .u8 (d)] 5)).grown hgr2 (by intro h; cases h; exact hgg rfl))
      have HB2 := Lib.hid ((HB.out.alloc hsz (.cells #[.int .u8 (d)] 5)).grown hgr2 (by simp; omega) (by intro q hq; cases hq; exact hg))
      rw [← HO.out] at hs2
      have HS2 := Lib.hid hs2
      clear hs2 hgr2 HSl HS HB
      go_wp2
      go_roundw
      case rel => exact ⟨k + 1, g', c', by simp, by omega, rfl, HLn2, HS2, HSl2, by rcases hg2 with h | h <;> omega, by rcases hg2 with h | h <;> omega, HB2⟩
      case measure => simp [intOf]; omega
    ·have hcv := conv_bytes HS.out
     rw [HEN.out k (by omega), HF.out] at hcv
     go_wp2
     go_returns
     exact ⟨rfl, HB.out⟩
end Go.Proofs.YtiecbagejdcafaaGreatDoor
/- What the reference's Get gives. -/
namespace Go.Proofs.YtiecbagejdcafaaGreatDoor
open Go.RowKit Go.PlainAid
set_option linter.unusedVariables false
end Go.Proofs.YtiecbagejdcafaaGreatDoor
/- Layer 5: what the laws need beside the contracts. -/
namespace Go.Proofs.YtiecbagejdcafaaGreatDoor
open Go.RowKit Go.PlainAid
set_option linter.unusedVariables false
theorem refIdPut_all (cls tag : Int) (cons : Bool) (len : Int) (w : World) :
  Calls Tryz.prog 67 #[.agg #[.int .i64 cls, .int .i64 tag, .bool cons, .int .i64 len]] w fun e w' => e = .returned (.tuple #[.string (putS cls tag cons), .int .i64 (putE cls tag)]) ∧ Below w.heap.size w w' := by
 unfold putS putE
 cases h : idOk cls tag
 ·simpa using refIdPut_bad cls tag cons len h w
 ·simpa using refIdPut_any cls tag cons len h w
theorem putE_ok {cls tag : Int} : putE cls tag = 0 ↔ idOk cls tag = true := by
 unfold putE; split <;> simp_all
theorem putS_ok {cls tag : Int} {cons : Bool} (h : idOk cls tag = true) : putS cls tag cons = strOfNums (idPut cls tag cons) := by rw [putS, if_pos h]
theorem putS_bad {cls tag : Int} {cons : Bool} (h : ¬ idOk cls tag = true) : putS cls tag cons = ⟨#[]⟩ := by rw [putS, if_neg h]
theorem putS_size {cls tag : Int} {cons : Bool} (h : idOk cls tag = true) : (putS cls tag cons).size = (idPut cls tag cons).length := by rw [putS_ok h, strOfNums_size]
theorem putS_le (cls tag : Int) (cons : Bool) : (putS cls tag cons).size ≤ 5 := by
 by_cases h : idOk cls tag = true
 ·rw [putS_size h]; exact (idPut_length h).2
 ·rw [putS_bad h]; decide
theorem gAt_in (b : ByteArray) (i : Nat) (hi : i ≤ b.size) {c t : Int} {k : Bool} {n : Nat} {e : Int} (h : idGet ((bl b).drop i) = (c, t, k, n, e)) : gAt b (i : Int) = (c, t, k, (i : Int) + n, e) := by
 unfold gAt
 rw [if_neg (by omega), Int.toNat_natCast, h]
/-! ### Sizes -/
end Go.Proofs.YtiecbagejdcafaaGreatDoor
/- What the reference's Put and Get of lengths give. -/
namespace Go.Proofs.YtiecbagejdcafaaGreatDoor
open Go.RowKit Go.PlainAid
set_option linter.unusedVariables false
def lpS (n : Int) : ByteArray := if lenOk n = true then strOfNums (lenPut n) else ⟨#[]⟩
def lpE (n : Int) : Int := if lenOk n = true then 0 else 1
theorem lpS_ok {n : Int} (h : lenOk n = true) : lpS n = strOfNums (lenPut n) := by rw [lpS, if_pos h]
theorem lpS_bad {n : Int} (h : ¬ lenOk n = true) : lpS n = ⟨#[]⟩ := by rw [lpS, if_neg h]
theorem lpE_ok {n : Int} : lpE n = 0 ↔ lenOk n = true := by unfold lpE; split <;> simp_all
set_option maxHeartbeats 1600000 in
theorem refLenPut_all (n : Int) (hn : -9223372036854775808 ≤ n ∧ n ≤ 9223372036854775807) (w : World) :
  Calls Tryz.prog 68 #[.int .i64 n] w fun e w' => e = .returned (.tuple #[.string (lpS n), .int .i64 (lpE n)]) ∧ Below w.heap.size w w' := by
 obtain ⟨n0, n1⟩ := hn
 by_cases hok : lenOk n = true
 ·obtain ⟨h0, h1⟩ := lenOk_iff.1 hok
  have HE := Lib.hid (lpE_ok.2 hok)
  obtain ⟨m, rfl⟩ := Int.eq_ofNat_of_zero_le h0
  have hl0 : ¬ (m : Int) < 0 := by omega
  have hl1 : ¬ (2305843009213693951 : Int) < m := by omega
  by_cases hs : (m : Int) < 128
  ·have HF : Hid (strOfNums [(m : Int)] = lpS m) := Lib.hid (by rw [lpS_ok hok, lenPut, if_pos hs])
   have hcv := conv_at (m : Int)
   clear hok
   go_enter Tryz.func68, Tryz.ntmps68
   go_wp2
   go_returns
   exact ⟨rets2 (congrArg _ HF.out) (congrArg _ HE.out.symm), by go_grown⟩
  ·have hnb := nB_le (n := m) (by omega)
   have HF : Hid (strOfNums [128 + (nB m : Int)] ++ strOfNums (hiB m) = lpS m) := Lib.hid (by rw [lpS_ok hok, lenPut, if_neg hs, ← strOfNums_append, Int.toNat_natCast]; rfl)
   have hs1 : (strOfNums [128 + (nB m : Int)]).size = 1 := by rw [strOfNums_size]; rfl
   have hs2 : (strOfNums (hiB m)).size ≤ 8 := by rw [strOfNums_size, hiB_len]; exact hnb
   have HNB := Lib.hid (show (hiB m).length = nB m from hiB_len m)
   have hcv := conv_at (128 + (nB m : Int))
   clear hok
   go_enter Tryz.func68, Tryz.ntmps68
   go_wp2
   go_loopw [0, 4] (fun tv sv wr => ∃ (t g c : Nat) (l : List Int), tv = .int .i64 (t : Int) ∧ t ≤ m ∧ Hid (hiB t ++ l = hiB m) ∧ sv = .slice (some ⟨g, 0, none⟩) l.length c ∧ Hid (Sl wr 5 (.slice (some ⟨g, 0, none⟩) l.length c) (u8s l) g) ∧ w.heap.size ≤ g ∧ Hid (Below w.heap.size w wr)) (fun tv _ _ => (intOf tv).toNat)
   case atStart => exact ⟨m, w.heap.size, 0, [], rfl, Nat.le_refl _, Lib.hid (by simp), rfl, Lib.hid (by have := sl_new_bytes w [] (by simp [maxLen]); simpa [u8s] using this), Nat.le_refl _, Lib.hid (by go_grown)⟩
   case round =>
    obtain ⟨t, g, c, l, rfl, ht, HL, rfl, HS, hg, HB⟩ := hrel
    have hll : l.length ≤ 8 := by have := congrArg List.length HL.out; rw [List.length_append, HNB.out] at this; omega
    by_cases h0 : t = 0
    ·subst h0
     have hl : l = hiB m := by have := HL.out; rwa [hiB_zero, List.nil_append] at this
     have hlen : l.length = nB m := by rw [hl, HNB.out]
     rw [hlen] at HS
     rw [hl] at HS
     have hc2 : ∀ o : Obj, (convert 83 9 (.slice (some ⟨g, 0, none⟩) (nB m) c)).run Tryz.prog (wr.alloc o) = .ok (.string (strOfNums (hiB m))) (wr.alloc o) := fun o => conv_bytes (HS.out.alloc o)
     have hsz := HB.out.size
     clear hl HS HL
     go_wp2
     go_returns
     exact ⟨rets2 (congrArg _ HF.out) (congrArg _ HE.out.symm), HB.out.alloc hsz _⟩
    ·have h01 : (0 : Int) < (t : Int) := by omega
     have HC := Lib.hid (HS.out.alloc (.cells (u8s [(t : Int) % 256]).toArray 5)).cells_u8
     go_wp2_with (at_builtin; refine wpList_append_bytes rfl (.tmp 23) (.tmp 24) rfl (l := [(t : Int) % 256]) (g := wr.heap.size) rfl (sl_new_bytes wr [(t : Int) % 256] (by simp [maxLen])) g l.length c l rfl rfl HC.out (by simp; omega) ?_)
     intro v' w1 g' hsl hg1 hgr1
     have HN := Lib.hid (show hiB (t / 256) ++ ([(t : Int) % 256] ++ l) = hiB m by rw [← HL.out, hiB_pos h0, List.append_assoc, show (t : Int) % 256 = ((t % 256 : Nat) : Int) by omega])
     obtain ⟨c', rfl, _, _⟩ := hsl.open (n := ([(t : Int) % 256] ++ l).length) (u8s_length _)
     have hsz := HB.out.size
     have HS1 := Lib.hid hsl
     have HB1 := Lib.hid ((HB.out.alloc hsz (.cells (u8s [(t : Int) % 256]).toArray 5)).grown hgr1 (by simp; omega) (by intro k hk; cases hk; exact hsz))
     clear hsl hgr1 HC HS HB HL
     go_wp2
     go_roundw
     case rel => exact ⟨t / 256, g', c', [(t : Int) % 256] ++ l, by simp, by omega, HN, by simp, HS1, by rcases hg1 with h | h <;> first | omega | (simp at h; omega), HB1⟩
     case measure => simp [intOf]; omega
 ·have HE : Hid (lpE n = 1) := Lib.hid (by unfold lpE; rw [if_neg hok])
  have HF := Lib.hid (lpS_bad hok)
  have hn : n < 0 ∨ (0 ≤ n ∧ 2305843009213693951 < n) := by rw [lenOk_iff] at hok; omega
  clear hok
  rcases hn with h | ⟨h, h'⟩
  all_goals
   go_enter Tryz.func68, Tryz.ntmps68
   go_wp2
   go_returns
   exact ⟨rets2 (congrArg _ HF.out.symm) (congrArg _ HE.out.symm), Below.refl _ _⟩
def lgAt (b : ByteArray) (at_ : Int) : Int × Int × Int :=
 if at_ < 0 ∨ (b.size : Int) < at_ then (0, 0, 1)
 else ((lenGet ((bl b).drop at_.toNat)).1, at_ + (lenGet ((bl b).drop at_.toNat)).2.1, (lenGet ((bl b).drop at_.toNat)).2.2)
theorem lgAt_in (b : ByteArray) (i : Nat) (hi : i ≤ b.size) {v : Int} {n : Nat} {e : Int} (h : lenGet ((bl b).drop i) = (v, n, e)) : lgAt b (i : Int) = (v, (i : Int) + n, e) := by
 unfold lgAt
 rw [if_neg (by omega), Int.toNat_natCast, h]
theorem lgAt_out (b : ByteArray) (at_ : Int) (h : at_ < 0 ∨ (b.size : Int) < at_) : lgAt b at_ = (0, 0, 1) := by
 unfold lgAt; rw [if_pos h]
theorem val_step (l : List Int) (i : Nat) (h : i < l.length) : val (l.take (i + 1)) 0 = val (l.take i) 0 * 256 + l[i] := by
 rw [List.take_add_one, List.getElem?_eq_getElem h, Option.toList_some, val_append]; rfl
end Go.Proofs.YtiecbagejdcafaaGreatDoor
/- Layer 6: what the laws need beside the contracts. -/
namespace Go.Proofs.YtiecbagejdcafaaGreatDoor
open Go.RowKit Go.PlainAid
set_option linter.unusedVariables false
theorem lpS_size {n : Int} (h : lenOk n = true) : (lpS n).size = (lenPut n).length := by rw [lpS_ok h, strOfNums_size]
theorem lpS_le (n : Int) : (lpS n).size ≤ 9 := by
 by_cases h : lenOk n = true
 ·rw [lpS_size h]; exact (lenPut_le h).2
 ·rw [lpS_bad h]; decide
/-! ### Sizes -/
/-! ### Order -/
end Go.Proofs.YtiecbagejdcafaaGreatDoor
/- What the reference's Put and Get of heads give. -/
namespace Go.Proofs.YtiecbagejdcafaaGreatDoor
open Go.RowKit Go.PlainAid
set_option linter.unusedVariables false
def hpS (c t : Int) (k : Bool) (n : Int) : ByteArray := if hdOk c t n = true then strOfNums (hdPut c t k n) else ⟨#[]⟩
def hpE (c t n : Int) : Int := if hdOk c t n = true then 0 else 1
theorem hpS_ok {c t : Int} {k : Bool} {n : Int} (h : hdOk c t n = true) : hpS c t k n = strOfNums (hdPut c t k n) := by rw [hpS, if_pos h]
theorem hpS_bad {c t : Int} {k : Bool} {n : Int} (h : ¬ hdOk c t n = true) : hpS c t k n = ⟨#[]⟩ := by rw [hpS, if_neg h]
theorem hpE_ok {c t n : Int} : hpE c t n = 0 ↔ hdOk c t n = true := by unfold hpE; split <;> simp_all
theorem hpE_bad {c t n : Int} (h : ¬ hdOk c t n = true) : hpE c t n = 1 := by unfold hpE; rw [if_neg h]
theorem putE_bad {c t : Int} (h : ¬ idOk c t = true) : putE c t = 1 := by unfold putE; rw [if_neg h]
theorem lpE_bad {n : Int} (h : ¬ lenOk n = true) : lpE n = 1 := by unfold lpE; rw [if_neg h]
theorem hpS_join {c t : Int} {k : Bool} {n : Int} (h1 : idOk c t = true) (h2 : lenOk n = true) : putS c t k ++ lpS n = hpS c t k n := by
 rw [hpS_ok (hdOk_iff.2 ⟨h1, h2⟩), putS_ok h1, lpS_ok h2, ← strOfNums_append]; rfl
set_option maxHeartbeats 1600000 in
theorem refHeadPut_all (c t : Int) (k : Bool) (n : Int) (hn : -9223372036854775808 ≤ n ∧ n ≤ 9223372036854775807) (w : World) :
  Calls Tryz.prog 42 #[.agg #[.int .i64 c, .int .i64 t, .bool k, .int .i64 n]] w fun e w' => e = .returned (.tuple #[.string (hpS c t k n), .int .i64 (hpE c t n)]) ∧ Below w.heap.size w w' := by
 have HX0 := Lib.hid (Row.new w 36 (hdC c t k n))
 have hB0 : Below w.heap.size w (w.alloc (.cells (hdC c t k n).toArray 36)) := (Below.refl _ _).alloc (Nat.le_refl _) _
 have H0 := Lib.hid (refIdPut_all c t k n)
 have H1 := Lib.hid (refLenPut_all n hn)
 have hl0 := putS_le c t k
 have hl1 := lpS_le n
 by_cases h1 : idOk c t = true
 ·rw [putE_ok.2 h1] at H0
  by_cases h2 : lenOk n = true
  ·rw [lpE_ok.2 h2] at H1
   have HF := Lib.hid (hpS_join (k := k) h1 h2)
   have HE := Lib.hid (hpE_ok.2 (hdOk_iff.2 ⟨h1, h2⟩))
   generalize putS c t k = a at *
   generalize lpS n = b at *
   clear h1 h2 hn
   go_enter Tryz.func42, Tryz.ntmps42
   go_wp2_with fail
   refine (H0.out _).mono ?_
   rintro e w1 ⟨rfl, hb⟩
   have hB1 := hB0.trans (hb.mono hB0.size)
   have HX1 := Lib.hid (HX0.out.below hb HX0.out.lt)
   obtain ⟨k0, k1, k2, k3, _, _, _, _⟩ := head_facts HX1.out
   clear hb hB0 HX0
   go_wp2_with fail
   refine (H1.out _).mono ?_
   rintro e w2 ⟨rfl, hb⟩
   have hB2 := hB1.trans (hb.mono hB1.size)
   clear hb hB1 HX1 k0 k1 k2 k3
   go_wp2
   go_returns
   exact ⟨rets2 (congrArg _ HF.out) (congrArg _ HE.out.symm), hB2⟩
  ·rw [lpE_bad h2] at H1
   have hno : ¬ hdOk c t n = true := by rw [hdOk_iff]; exact fun h => h2 h.2
   have HF := Lib.hid (hpS_bad (k := k) hno)
   have HE := Lib.hid (hpE_bad hno)
   generalize putS c t k = a at *
   generalize lpS n = b at *
   clear h1 h2 hn hno
   go_enter Tryz.func42, Tryz.ntmps42
   go_wp2_with fail
   refine (H0.out _).mono ?_
   rintro e w1 ⟨rfl, hb⟩
   have hB1 := hB0.trans (hb.mono hB0.size)
   have HX1 := Lib.hid (HX0.out.below hb HX0.out.lt)
   obtain ⟨k0, k1, k2, k3, _, _, _, _⟩ := head_facts HX1.out
   clear hb hB0 HX0
   go_wp2_with fail
   refine (H1.out _).mono ?_
   rintro e w2 ⟨rfl, hb⟩
   have hB2 := hB1.trans (hb.mono hB1.size)
   clear hb hB1 HX1 k0 k1 k2 k3
   go_wp2
   go_returns
   exact ⟨rets2 (congrArg _ HF.out.symm) (congrArg _ HE.out.symm), hB2⟩
 ·rw [putE_bad h1] at H0
  have hno : ¬ hdOk c t n = true := by rw [hdOk_iff]; exact fun h => h1 h.1
  have HF := Lib.hid (hpS_bad (k := k) hno)
  have HE := Lib.hid (hpE_bad hno)
  generalize putS c t k = a at *
  clear h1 hn hno
  go_enter Tryz.func42, Tryz.ntmps42
  go_wp2_with fail
  refine (H0.out _).mono ?_
  rintro e w1 ⟨rfl, hb⟩
  have hB1 := hB0.trans (hb.mono hB0.size)
  clear hb hB0 HX0
  go_wp2
  go_returns
  exact ⟨rets2 (congrArg _ HF.out.symm) (congrArg _ HE.out.symm), hB1⟩
def hgAt (b : ByteArray) (at_ : Int) : Int × Int × Bool × Int × Int × Int :=
 if at_ < 0 ∨ (b.size : Int) < at_ then (0, 0, false, 0, 0, 1)
 else ((hdGet ((bl b).drop at_.toNat)).1, (hdGet ((bl b).drop at_.toNat)).2.1, (hdGet ((bl b).drop at_.toNat)).2.2.1, (hdGet ((bl b).drop at_.toNat)).2.2.2.1, at_ + (hdGet ((bl b).drop at_.toNat)).2.2.2.2.1, (hdGet ((bl b).drop at_.toNat)).2.2.2.2.2)
theorem hgAt_in (b : ByteArray) (i : Nat) (hi : i ≤ b.size) {c t : Int} {k : Bool} {v : Int} {n : Nat} {e : Int} (h : hdGet ((bl b).drop i) = (c, t, k, v, n, e)) : hgAt b (i : Int) = (c, t, k, v, (i : Int) + n, e) := by
 unfold hgAt
 rw [if_neg (by omega), Int.toNat_natCast, h]
theorem hgAt_out (b : ByteArray) (at_ : Int) (h : at_ < 0 ∨ (b.size : Int) < at_) : hgAt b at_ = (0, 0, false, 0, 0, 1) := by
 unfold hgAt; rw [if_pos h]
def hgV (g : Int × Int × Bool × Int × Int × Int) : Value := .tuple #[.agg #[.int .i64 g.1, .int .i64 g.2.1, .bool g.2.2.1, .int .i64 g.2.2.2.1], .int .i64 g.2.2.2.2.1, .int .i64 g.2.2.2.2.2]
theorem hgAt_cases (b : ByteArray) (at_ : Int) (ha : -9223372036854775808 ≤ at_ ∧ at_ ≤ 9223372036854775807) (hb : b.size ≤ maxLen) :
  (∃ n e, gAt b at_ = (0, 0, false, n, e) ∧ e ≠ 0 ∧ hgAt b at_ = (0, 0, false, 0, n, e)) ∨
  (∃ c t k n m e, gAt b at_ = (c, t, k, n, 0) ∧ 0 ≤ n ∧ n ≤ b.size ∧ lgAt b n = (0, m, e) ∧ e ≠ 0 ∧ hgAt b at_ = (0, 0, false, 0, m, e)) ∨
  (∃ c t k n v m, gAt b at_ = (c, t, k, n, 0) ∧ 0 ≤ n ∧ n ≤ b.size ∧ lgAt b n = (v, m, 0) ∧ hgAt b at_ = (c, t, k, v, m, 0)) := by
 by_cases h : at_ < 0 ∨ (b.size : Int) < at_
 ·left
  refine ⟨0, 1, ?_, by decide, hgAt_out b at_ h⟩
  unfold gAt; rw [if_pos h]
 ·obtain ⟨i, rfl⟩ := Int.eq_ofNat_of_zero_le (show 0 ≤ at_ by omega)
  have hi : i ≤ b.size := by omega
  have hle := idGet_le ((bl b).drop i)
  rw [List.length_drop, bl_length] at hle
  rcases hdGet_cases ((bl b).drop i) with ⟨c, t, k, n, e, h1, he⟩ | ⟨c, t, k, n, v, m, e, h1, h2, he⟩ | ⟨c, t, k, n, v, m, h1, h2⟩
  ·left
   obtain ⟨z1, z2, z3⟩ := idGet_bad ((bl b).drop i) (by rw [h1]; exact he)
   rw [h1] at z1 z2 z3
   simp only at z1 z2 z3
   subst z1 z2 z3
   exact ⟨(i : Int) + n, e, gAt_in b i hi h1, he, hgAt_in b i hi (hdGet_id h1 he)⟩
  ·right; left
   rw [h1] at hle
   simp only at hle
   have z := lenGet_bad (((bl b).drop i).drop n) (by rw [h2]; exact he)
   rw [h2] at z
   simp only at z
   subst z
   rw [List.drop_drop] at h2
   have e2 := lgAt_in b (i + n) (by omega) h2
   rw [show ((i + n : Nat) : Int) = (i : Int) + n by omega, show (i : Int) + (n : Int) + (m : Int) = (i : Int) + ((n + m : Nat) : Int) by omega] at e2
   exact ⟨c, t, k, (i : Int) + n, _, e, gAt_in b i hi h1, by omega, by omega, e2, he, hgAt_in b i hi (hdGet_len h1 (by rw [List.drop_drop]; exact h2) he)⟩
  ·right; right
   rw [h1] at hle
   simp only at hle
   rw [List.drop_drop] at h2
   have e2 := lgAt_in b (i + n) (by omega) h2
   rw [show ((i + n : Nat) : Int) = (i : Int) + n by omega, show (i : Int) + (n : Int) + (m : Int) = (i : Int) + ((n + m : Nat) : Int) by omega] at e2
   exact ⟨c, t, k, (i : Int) + n, v, _, gAt_in b i hi h1, by omega, by omega, e2, hgAt_in b i hi (hdGet_ok h1 (by rw [List.drop_drop]; exact h2))⟩
theorem hb9_of {b : ByteArray} (h : b.size ≤ maxLen) : (b.size : Int) ≤ 9223372036854775807 := by unfold maxLen at h; omega
end Go.Proofs.YtiecbagejdcafaaGreatDoor
