/- Slices of uint64: of a call's own (Sl) and as they came (Came): appended to, and read. Of any slice from a block's head on. -/
import Derived.Test.YtiiimhamfibdbaaGreatB0
import Derived.Test.YtiiimhamfibdbaaGreatP0
import Derived.Test.YtiiimhamfibdbaaGreatChecked
import Derived.WalkKit
import Derived.WalkSpells
import Derived.Lib.Hide
import Derived.Laws.BytesArg
import Derived.Handy
import Derived.Deep.RegionWith
namespace Go.Proofs.YtiiimhamfibdbaaGreat
open Go.RowKit
set_option linter.unusedVariables false
theorem ivs_length (k : IntKind) (l : List Int) : (ivs k l).length = l.length := by simp [ivs]
theorem ivs_get {k : IntKind} {l : List Int} {j : Nat} (h : j < l.length) : (ivs k l)[j]? = some (.int k l[j]) := by simp [ivs, h]
theorem addr0u (g j : Nat) : (⟨g, 0, none⟩ : Addr).add j = ⟨g, j, none⟩ := by unfold Addr.add; split <;> simp_all
theorem addr_zero (a : Addr) : a.add 0 = a := by unfold Addr.add; split <;> simp_all
theorem addr_one (a : Addr) : a.add 1 = ⟨a.block, a.off + 1, none⟩ := by unfold Addr.add; simp
theorem addr_succ (a : Addr) (n : Nat) (h : n ≠ 0) : a.add n = ⟨a.block, a.off + n, none⟩ := by unfold Addr.add; rw [if_neg h]
theorem Came.sl {w : World} {t : TypeId} {v : Value} {L : List Value} {g : Nat} (h : Sl w t v L g) : Came w (some ⟨g, 0, none⟩) L := by
 obtain ⟨sp, _, _, hr⟩ := h
 intro j u hj
 refine ⟨_, rfl, ?_⟩
 have hj' := (List.getElem?_eq_some_iff.1 hj).1
 rw [addr0u, hr.cell, List.getElem?_append_left hj', hj]
theorem Came.drew {w : World} {oa : Option Addr} {l : List Value} (h : Came w oa l) : Came w.drew oa l := h
theorem Came.at {w : World} {oa : Option Addr} {l : List Value} (h : Came w oa l) (hl : 0 < l.length) : ∃ a, oa = some a ∧ a.block < w.heap.size ∧ w.cell? a = l[0]? ∧ ∀ j, j < l.length → w.cell? (a.add j) = l[j]? := by
 obtain ⟨a, h1, h2, h3⟩ := h.first hl
 have h4 : ∀ j, j < l.length → w.cell? (a.add j) = l[j]? := fun j hj => by rw [h3 j l[j] (List.getElem?_eq_getElem hj), List.getElem?_eq_getElem hj]
 refine ⟨a, h1, h2, ?_, h4⟩
 have := h4 0 hl
 rwa [addr_zero] at this
theorem run_append_empty (w : World) (t ty e : TypeId) (i : TypeInfo) (ad : Option Addr) (n cb c : Nat) {P : Program} (ht : P.underlying t = some (.slice e)) (hi : P.info? e = some i) (hn : n ≤ cb) :
  (Builtin.append_ #[t, t] ty #[.slice ad n cb, .slice none 0 c]).run P w = .ok (.slice ad n cb) w := by
 cases ad <;> simp [Builtin.append_, run_underlying ht, sizeOf, typeInfo, hi, Builtin.lenOf, Builtin.firstCells, storeCells, hn]
end Go.Proofs.YtiiimhamfibdbaaGreat
/- What the reference's Wrong, number and Same of object identifiers give. Of every text, number and list. -/
namespace Go.Proofs.YtiiimhamfibdbaaGreat
open Go.RowKit Go.PlainAid
set_option linter.unusedVariables false
theorem oFresh_zero (l : List Int) : oFresh l 0 = true := rfl
theorem oFresh_bt (b : ByteArray) (i : Nat) (h : i < b.size) : oFresh (bl b) (i + 1) = decide (bt b i < 128) := by
 unfold oFresh
 rw [if_neg (by omega), Nat.add_sub_cancel, List.getD_eq_getElem?_getD, bl_at b i h]; rfl
set_option maxRecDepth 100000 in
set_option maxHeartbeats 1600000 in
theorem refOidWrong_any (n : Int) (b : ByteArray) (hb : b.size ≤ maxLen) (hn : -9223372036854775808 ≤ n ∧ n ≤ 9223372036854775807) (w : World) :
  Calls Tryz.prog 61 #[.int .i64 n, .string b] w fun e w' => e = .returned (.int .i64 (oidWrong n (bl b))) ∧ w' = w := by
 have hb9 : (b.size : Int) ≤ 9223372036854775807 := by unfold maxLen at hb; omega
 obtain ⟨n0, n1⟩ := hn
 by_cases h1 : n < 1
 ·have HF : Hid (0 = oidWrong n (bl b)) := Lib.hid (by unfold oidWrong; rw [if_pos h1])
  go_enter Tryz.func61, Tryz.ntmps61
  go_wp2
  go_returns
  exact ⟨rets1 (congrArg (Value.int .i64) HF.out), rfl⟩
 ·have HO : Hid (oidWrong n (bl b) = oW n true 0 (bl b)) := Lib.hid (by unfold oidWrong; rw [if_neg h1])
  have HR := Lib.hid (oW_range n (bl b) true 0)
  have HST := Lib.hid (fun (i : Nat) (hi : i < b.size) h => (bl_get b i (by rw [bl_length]; exact hi)) ▸ oW_step n (bl b) i (by rw [bl_length]; exact hi) h)
  have HF0 := Lib.hid (oFresh_zero (bl b))
  have HFS := Lib.hid (oFresh_bt b)
  have HGB := Lib.hid (get_bt b)
  rw [bl_length] at HR
  generalize oidWrong n (bl b) = W at *
  generalize oW n true 0 (bl b) = V at *
  have hWV := HO.out
  subst hWV
  have hn1 : -9223372036854775808 ≤ n - 1 := by omega
  clear HO
  go_enter Tryz.func61, Tryz.ntmps61
  go_wp2
  go_loopw [5] (fun iv wr => ∃ (i : Nat), iv = .int .i64 (i : Int) ∧ i ≤ b.size ∧ Hid (¬ (0 ≤ W ∧ W ≤ (i : Int))) ∧ wr = w) (fun iv _ => b.size - (intOf iv).toNat)
  case atStart => exact ⟨0, rfl, by omega, Lib.hid (by have := HR.out; simp at this ⊢; omega), rfl⟩
  case round =>
   obtain ⟨i, rfl, hi, HN, rfl⟩ := hrel
   by_cases hlt : i < b.size
   ·have hst := HST.out i hlt HN.out
    have hbt := HGB.out i hlt
    have hlti : (i : Int) < (b.size : Int) := by omega
    obtain ⟨x, hx⟩ : ∃ x, bt b i = x := ⟨_, rfl⟩
    rw [hx] at hst hbt
    have HX := Lib.hid hx
    have HS := Lib.hid hst
    clear hst hx
    by_cases hx8 : x = 128
    ·subst hx8
     by_cases hi0 : i = 0
     ·subst hi0
      have HF : Hid ((0 : Int) + 1 = W) := Lib.hid (by have := HS.out.2 (.inl ⟨rfl, HF0.out⟩); simpa using this.symm)
      clear HN HS HX
      go_wp2
      go_returns
      exact ⟨rets1 (congrArg (Value.int .i64) HF.out), rfl⟩
     ·obtain ⟨j, rfl⟩ : ∃ j, i = j + 1 := ⟨i - 1, by omega⟩
      have hbt2 := HGB.out j (by omega)
      have hfs := HFS.out j (by omega)
      obtain ⟨y, hy⟩ : ∃ y, bt b j = y := ⟨_, rfl⟩
      rw [hy] at hbt2 hfs
      have hi0b : ((j : Int) + 1 == 0) = false := beq_eq_false_iff_ne.2 (by omega)
      clear hy
      by_cases hy8 : y < 128
      ·have HF : Hid (((j + 1 : Nat) : Int) + 1 = W) := Lib.hid (by have := HS.out.2 (.inl ⟨rfl, by rw [hfs]; exact decide_eq_true hy8⟩); exact this.symm)
       clear HN HS HX hfs hi0
       go_wp2
       go_returns
       exact ⟨rets1 (congrArg (Value.int .i64) HF.out), rfl⟩
      ·by_cases hl : ((j + 1 : Nat) : Int) = n - 1
       ·have hlb : ((j : Int) + 1 == n - 1) = true := beq_iff_eq.2 (by omega)
        have HF : Hid ((j : Int) + 1 + 1 = W) := Lib.hid (by have := HS.out.2 (.inr ⟨hl, by decide⟩); omega)
        clear HN HS HX hfs hi0 hl
        go_wp2
        go_returns
        exact ⟨rets1 (congrArg (Value.int .i64) HF.out), rfl⟩
       ·have hlb : ((j : Int) + 1 == n - 1) = false := beq_eq_false_iff_ne.2 (by omega)
        have HNN : Hid (¬ (0 ≤ W ∧ W ≤ ((j + 1 + 1 : Nat) : Int))) := Lib.hid (by
         have h2 : ¬ W = ((j + 1 : Nat) : Int) + 1 := fun h => by
          rcases HS.out.1 h with ⟨_, h3⟩ | ⟨h3, _⟩
          ·rw [hfs] at h3; exact hy8 (of_decide_eq_true h3)
          ·exact hl h3
         have := HN.out
         omega)
        clear HN HS HX hfs hi0 hl
        go_wp2
        go_roundw
        case rel => exact ⟨j + 1 + 1, by simp, by omega, HNN, by trivial⟩
        case measure => simp [intOf]; omega
    ·have hx8b : (x == 128) = false := beq_eq_false_iff_ne.2 hx8
     by_cases hl : (i : Int) = n - 1 ∧ 127 < x
     ·obtain ⟨hl1, hl2⟩ := hl
      have HF : Hid ((i : Int) + 1 = W) := Lib.hid (HS.out.2 (.inr ⟨hl1, hl2⟩)).symm
      clear HN HS HX hx8 HST
      obtain rfl : n = (i : Int) + 1 := by omega
      clear hl1
      go_wp2
      go_returns
      exact ⟨rets1 (congrArg (Value.int .i64) HF.out), rfl⟩
     ·have HNN : Hid (¬ (0 ≤ W ∧ W ≤ ((i + 1 : Nat) : Int))) := Lib.hid (by
       have h2 : ¬ W = (i : Int) + 1 := fun h => by
        rcases HS.out.1 h with ⟨h3, _⟩ | h3
        ·exact hx8 h3
        ·exact hl h3
       have := HN.out
       omega)
      by_cases hl1 : (i : Int) = n - 1
      ·have hl2 : ¬ 127 < x := fun h => hl ⟨hl1, h⟩
       clear HN HS HX hl hx8
       have hl3 : n = (i : Int) + 1 := by omega
       subst hl3
       clear hl1
       go_wp2
       go_roundw
       case rel => exact ⟨i + 1, by simp, by omega, HNN, by trivial⟩
       case measure => simp [intOf]; omega
      ·have hlb : ((i : Int) == n - 1) = false := beq_eq_false_iff_ne.2 hl1
       clear HN HS HX hl hl1 hx8
       go_wp2
       go_roundw
       case rel => exact ⟨i + 1, by simp, by omega, HNN, by trivial⟩
       case measure => simp [intOf]; omega
   ·have hne : ¬ (i : Int) < (b.size : Int) := by omega
    have HF : Hid (-1 = W) := Lib.hid (by have := HR.out; have := HN.out; simp at *; omega)
    clear HN HR
    go_wp2
    go_returns
    exact ⟨rets1 (congrArg (Value.int .i64) HF.out), rfl⟩
set_option maxHeartbeats 1600000 in
theorem refONumber_any (k : Nat) (hk : (k : Int) ≤ 18446744073709551615) (w : World) :
  Calls Tryz.prog 69 #[.int .u64 (k : Int)] w fun e w' => e = .returned (.string (strOfNums (gB k))) ∧ Below w.heap.size w w' := by
 have hcv0 := conv_at ((k : Int) % 128)
 go_enter Tryz.func69, Tryz.ntmps69
 go_wp2
 have HGL := Lib.hid (gB_length k)
 have HL9 := Lib.hid (loG_le (k / 128) 9 (by simp; omega))
 go_loopw [0, 3] (fun tv sv wr => ∃ (t : Nat) (l : List Int), tv = .int .u64 (t : Int) ∧ sv = .string (strOfNums l) ∧ t ≤ k ∧ Hid (hiG (t / 128) ++ l = gB k) ∧ Hid (Below w.heap.size w wr)) (fun tv _ _ => (intOf tv).toNat)
 case atStart => exact ⟨k, [((k % 128 : Nat) : Int)], rfl, by simp, Nat.le_refl _, Lib.hid rfl, Lib.hid (by go_grown)⟩
 case round =>
  obtain ⟨t, l, rfl, rfl, ht, HT, HB⟩ := hrel
  clear hcv0
  by_cases h127 : (127 : Int) < (t : Int)
  ·have hp := hiG_pos (n := t / 128) (by omega)
   have hll : (strOfNums l).size ≤ 10 := by
    have h1 := congrArg List.length HT.out
    rw [List.length_append, HGL.out] at h1
    have := HL9.out
    rw [strOfNums_size]; omega
   have hx : ((128 + t / 128 % 128 : Nat) : Int) = 128 + (t : Int) / 128 % 128 := by omega
   have HE := Lib.hid (show hiG (t / 128 / 128) ++ ((128 + (t : Int) / 128 % 128) :: l) = gB k by rw [← HT.out, hp, ← hx]; simp)
   have hcv := conv_at (128 + (t : Int) / 128 % 128)
   have hs1 : (strOfNums [128 + (t : Int) / 128 % 128]).size = 1 := by rw [strOfNums_size]; rfl
   have HSA := Lib.hid (strOfNums_append [128 + (t : Int) / 128 % 128] l)
   have hsz := HB.out.size
   clear hp hx
   go_wp2
   go_roundw
   case rel => exact ⟨t / 128, (128 + (t : Int) / 128 % 128) :: l, by simp, congrArg Value.string HSA.out.symm, by omega, HE, Lib.hid (HB.out.alloc hsz _)⟩
   case measure => simp [intOf]; omega
  ·have HF : Hid (l = gB k) := Lib.hid (by have := HT.out; rwa [show t / 128 = 0 by omega, hiG_zero, List.nil_append] at this)
   clear HT
   go_wp2
   go_returns
   exact ⟨rets1 (congrArg (fun z => Value.string (strOfNums z)) HF.out), HB.out⟩
end Go.Proofs.YtiiimhamfibdbaaGreat
/- What oid's Start and Push give: the landed code's contracts. Of every length, state and byte. -/
namespace Go.Proofs.YtiiimhamfibdbaaGreat
open Go.RowKit Go.PlainAid
set_option linter.unusedVariables false
def oSt (left : Int) (wi : Bool) : List Value := [.int .i64 left, .bool wi]
theorem infoOid : (Tryz.prog.info? 171).map (·.size) = some 2 := by kernel_rfl
theorem oid_load {W : World} {g : Nat} {x : Int} {y : Bool} (h : Row W g 171 (oSt x y)) : (loadVar 171 ⟨g, 0, none⟩).run Tryz.prog W = .ok (.agg #[.int .i64 x, .bool y]) W :=
 run_loadVar_mid _ _ 0 _ (oSt x y) _ h.whole Tryz.underlying171 rfl infoOid
def oStart (n : Int) : Int := if 1 ≤ n then n else 0
def oPush (left : Int) (wi : Bool) (b : Int) : Int × Bool × Bool :=
 if left < 1 ∨ (128 ≤ b ∧ left = 1) ∨ (b = 128 ∧ wi = false) then (0, false, false) else (left - 1, decide (128 ≤ b), true)
theorem oid_step (n : Int) (l : List Int) (i : Nat) (hi : i < l.length) (hn : (i : Int) < n) (h : ¬ (0 ≤ oW n true 0 l ∧ oW n true 0 l ≤ i)) :
  oPush (n - i) (!oFresh l i) l[i] = if oW n true 0 l = (i : Int) + 1 then (0, false, false) else (n - ((i + 1 : Nat) : Int), !oFresh l (i + 1), true) := by
 have hs := oW_step n l i hi h
 have hf : oFresh l (i + 1) = decide (l[i] < 128) := by unfold oFresh; rw [if_neg (by omega), Nat.add_sub_cancel, List.getD_eq_getElem?_getD, List.getElem?_eq_getElem hi]; rfl
 unfold oPush
 by_cases hw : oW n true 0 l = (i : Int) + 1
 ·rw [if_pos hw]
  rcases hs.1 hw with ⟨h1, h2⟩ | ⟨h1, h2⟩
  ·rw [if_pos (.inr (.inr ⟨h1, by rw [h2]; rfl⟩))]
  ·rw [if_pos (.inr (.inl ⟨by omega, by omega⟩))]
 ·rw [if_neg hw]
  have h1 : ¬ (l[i] = 128 ∧ oFresh l i = true) := fun e => hw (hs.2 (.inl e))
  have h2 : ¬ ((i : Int) = n - 1 ∧ 127 < l[i]) := fun e => hw (hs.2 (.inr e))
  rw [if_neg, hf]
  ·congr 1
   ·omega
   ·congr 1
    by_cases h3 : l[i] < 128
    ·rw [decide_eq_false (show ¬ 128 ≤ l[i] by omega), decide_eq_true h3]; rfl
    ·rw [decide_eq_true (show 128 ≤ l[i] by omega), decide_eq_false h3]; rfl
  ·rintro (h3 | h3 | ⟨h3, h4⟩)
   ·omega
   ·exact h2 ⟨by omega, by omega⟩
   ·exact h1 ⟨h3, by simpa using h4⟩
theorem oidStart_any (n : Int) (w : World) :
  Calls Tryz.prog 102 #[.int .i64 n] w fun e w' => e = .returned (.tuple #[.agg #[.int .i64 (oStart n), .bool false], .bool (decide (1 ≤ n))]) ∧ Below w.heap.size w w' := by
 by_cases h : n < 1
 ·have HO : Hid ((0 : Int) = oStart n) := Lib.hid (by unfold oStart; rw [if_neg (by omega)])
  have HB : Hid (false = decide (1 ≤ n)) := Lib.hid (decide_eq_false (by omega)).symm
  go_enter Tryz.func102, Tryz.ntmps102
  go_wp2
  exact bodyPost_ret (results_cell_one Tryz.results102 _ (ad := ⟨w.heap.size, 0, none⟩) rfl rfl (oid_load (Row.new w 171 (oSt 0 false)))) rfl ⟨rets2 (congrArg (fun z => Value.agg #[.int .i64 z, .bool false]) HO.out) (congrArg Value.bool HB.out), by go_grown⟩
 ·have HO : Hid (n = oStart n) := Lib.hid (by unfold oStart; rw [if_pos (by omega)])
  have HB : Hid (true = decide (1 ≤ n)) := Lib.hid (decide_eq_true (by omega)).symm
  go_enter Tryz.func102, Tryz.ntmps102
  go_wp2
  exact bodyPost_ret (results_cell_one Tryz.results102 _ (ad := ⟨w.heap.size, 0, none⟩) rfl rfl (oid_load (Row.new w 171 (oSt n false)))) rfl ⟨rets2 (congrArg (fun z => Value.agg #[.int .i64 z, .bool false]) HO.out) (congrArg Value.bool rfl), by go_grown⟩
set_option maxHeartbeats 1600000 in
theorem oidPush_any (left : Int) (wi : Bool) (b : Int) (hl : -9223372036854775808 ≤ left ∧ left ≤ 9223372036854775807) (hb : 0 ≤ b ∧ b ≤ 255) (w : World) :
  Calls Tryz.prog 147 #[.agg #[.int .i64 left, .bool wi], .int .u8 b] w fun e w' => e = .returned (.tuple #[.agg #[.int .i64 (oPush left wi b).1, .bool (oPush left wi b).2.1], .bool (oPush left wi b).2.2]) ∧ Below w.heap.size w w' := by
 obtain ⟨l0, l1⟩ := hl
 obtain ⟨b0, b1⟩ := hb
 by_cases h1 : left < 1
 ·have HO : Hid (oPush left wi b = (0, false, false)) := Lib.hid (by unfold oPush; rw [if_pos (.inl h1)])
  go_enter Tryz.func147, Tryz.ntmps147
  go_wp2
  exact bodyPost_ret (results_cell_one Tryz.results147 _ (ad := ⟨w.heap.size + 1, 0, none⟩) rfl rfl (oid_load (row_new2 w _ 171 (oSt 0 false)))) rfl ⟨by rw [HO.out]; rfl, by go_grown⟩
 ·by_cases h2 : 128 ≤ b ∧ left = 1
  ·obtain ⟨h2, rfl⟩ := h2
   have HO : Hid (oPush 1 wi b = (0, false, false)) := Lib.hid (by unfold oPush; rw [if_pos (.inr (.inl ⟨h2, rfl⟩))])
   go_enter Tryz.func147, Tryz.ntmps147
   go_wp2
   exact bodyPost_ret (results_cell_one Tryz.results147 _ (ad := ⟨w.heap.size + 1, 0, none⟩) rfl rfl (oid_load (row_new2 w _ 171 (oSt 0 false)))) rfl ⟨by rw [HO.out]; rfl, by go_grown⟩
  ·by_cases h3 : b = 128 ∧ wi = false
   ·obtain ⟨rfl, rfl⟩ := h3
    have h4 : ¬ left = 1 := fun e => h2 ⟨by decide, e⟩
    have h5 : (left == 1) = false := beq_eq_false_iff_ne.2 h4
    have HO : Hid (oPush left false 128 = (0, false, false)) := Lib.hid (by unfold oPush; rw [if_pos (.inr (.inr ⟨rfl, rfl⟩))])
    clear h2 h4
    go_enter Tryz.func147, Tryz.ntmps147
    go_wp2
    exact bodyPost_ret (results_cell_one Tryz.results147 _ (ad := ⟨w.heap.size + 1, 0, none⟩) rfl rfl (oid_load (row_new2 w _ 171 (oSt 0 false)))) rfl ⟨by rw [HO.out]; rfl, by go_grown⟩
   ·have HO : Hid (oPush left wi b = (left - 1, decide (128 ≤ b), true)) := Lib.hid (by unfold oPush; exact if_neg (fun h => h.elim h1 (fun h => h.elim h2 h3)))
    by_cases hm : 128 ≤ b
    ·have h4 : ¬ left = 1 := fun e => h2 ⟨hm, e⟩
     have h5 : (left == 1) = false := beq_eq_false_iff_ne.2 h4
     have HD : Hid (decide (128 ≤ b) = true) := Lib.hid (decide_eq_true hm)
     cases wi
     ·have h6 : (b == 128) = false := beq_eq_false_iff_ne.2 (fun e => h3 ⟨e, rfl⟩)
      clear h2 h3 h4
      go_enter Tryz.func147, Tryz.ntmps147
      go_wp2
      exact bodyPost_ret (results_cell_one Tryz.results147 _ (ad := ⟨w.heap.size + 1, 0, none⟩) rfl rfl (oid_load (row_new2 w _ 171 (oSt (left - 1) true)))) rfl ⟨by rw [HO.out, HD.out]; rfl, by go_grown⟩
     ·clear h2 h3 h4
      by_cases h6 : b = 128
      ·subst h6
       go_enter Tryz.func147, Tryz.ntmps147
       go_wp2
       exact bodyPost_ret (results_cell_one Tryz.results147 _ (ad := ⟨w.heap.size + 1, 0, none⟩) rfl rfl (oid_load (row_new2 w _ 171 (oSt (left - 1) true)))) rfl ⟨by rw [HO.out, HD.out]; rfl, by go_grown⟩
      ·have h7 : (b == 128) = false := beq_eq_false_iff_ne.2 h6
       go_enter Tryz.func147, Tryz.ntmps147
       go_wp2
       exact bodyPost_ret (results_cell_one Tryz.results147 _ (ad := ⟨w.heap.size + 1, 0, none⟩) rfl rfl (oid_load (row_new2 w _ 171 (oSt (left - 1) true)))) rfl ⟨by rw [HO.out, HD.out]; rfl, by go_grown⟩
    ·have HD : Hid (decide (128 ≤ b) = false) := Lib.hid (decide_eq_false hm)
     have h6 : (b == 128) = false := beq_eq_false_iff_ne.2 (by omega)
     clear h2 h3
     go_enter Tryz.func147, Tryz.ntmps147
     go_wp2
     exact bodyPost_ret (results_cell_one Tryz.results147 _ (ad := ⟨w.heap.size + 1, 0, none⟩) rfl rfl (oid_load (row_new2 w _ 171 (oSt (left - 1) false)))) rfl ⟨by rw [HO.out, HD.out]; rfl, by go_grown⟩
end Go.Proofs.YtiiimhamfibdbaaGreat
/- What the reference's Put, Get and Same of object identifiers give. Of every list and text. -/
namespace Go.Proofs.YtiiimhamfibdbaaGreat
open Go.RowKit Go.PlainAid
set_option linter.unusedVariables false
def opS (l : List Int) : ByteArray := if arcsOk l = true then strOfNums (oL l) else ⟨#[]⟩
theorem opS_ok {l : List Int} (h : arcsOk l = true) : opS l = strOfNums (oL l) := by rw [opS, if_pos h]
theorem opS_bad {l : List Int} (h : arcsOk l = false) : opS l = ⟨#[]⟩ := by rw [opS, if_neg (by rw [h]; simp)]
theorem beqN {x y : Int} (h : ¬ x = y) : (x == y) = false := by simpa using h
theorem oONum (x : Int) (h0 : 0 ≤ x) (h1 : x ≤ 18446744073709551615) (w : World) :
  Calls Tryz.prog 69 #[.int .u64 x] w fun e w' => e = .returned (.string (strOfNums (oB x))) ∧ Below w.heap.size w w' := by
 have := refONumber_any x.toNat (by omega) w
 rw [Int.toNat_of_nonneg h0] at this
 exact this
theorem flat_size (l : List Int) (h : ∀ x ∈ l, x ≤ 18446744073709551615) : (l.flatMap oB).length ≤ 10 * l.length := by
 induction l with
 |nil => simp
 |cons x r ih =>
  have h1 := oB_le x (h x (List.mem_cons_self ..))
  have h2 := ih (fun y hy => h y (List.mem_cons_of_mem _ hy))
  rw [List.flatMap_cons, List.length_append, List.length_cons]; omega
set_option maxRecDepth 100000 in
set_option maxHeartbeats 1600000 in
theorem refOidPut_any (o : Option Addr) (c : Nat) (l : List Int) (hl : l.length ≤ 1000000) (hin : ∀ x ∈ l, inK .u64 x) (w : World) (hc : Came w o (ivs .u64 l)) :
  Calls Tryz.prog 48 #[.slice o l.length c] w fun e w' => e = .returned (.tuple #[.string (opS l), .bool (arcsOk l)]) ∧ Below w.heap.size w w' := by
 match l, hl, hin, hc with
 |[], hl, hin, hc =>
  go_enter Tryz.func48, Tryz.ntmps48
  go_wp2
  go_returns
  exact ⟨rfl, Below.refl _ _⟩
 |[a], hl, hin, hc =>
  go_enter Tryz.func48, Tryz.ntmps48
  go_wp2
  go_returns
  exact ⟨rfl, Below.refl _ _⟩
 |a :: b :: r, hl, hin, hc =>
  have hlen : (a :: b :: r).length = r.length + 2 := by simp
  obtain ⟨ad, rfl, _, hq0, hq⟩ := hc.at (by rw [ivs_length]; omega)
  have q0 : w.cell? ad = some (.int .u64 a) := hq0
  have q1 : w.cell? ⟨ad.block, ad.off + 1, none⟩ = some (.int .u64 b) := by rw [← addr_one]; exact hq 1 (by rw [ivs_length]; omega)
  have ha : 0 ≤ a ∧ a ≤ 18446744073709551615 := hin a (by simp)
  have hb : 0 ≤ b ∧ b ≤ 18446744073709551615 := hin b (by simp)
  obtain ⟨ha0, ha1⟩ := ha
  obtain ⟨hb0, hb1⟩ := hb
  have hnl : ¬ ((r.length : Int) + 2 < 2) := by omega
  rw [hlen]
  have HC := Lib.hid hc
  have HQ := Lib.hid hq
  clear hc hq hq0
  by_cases h2 : 2 < a
  ·have hno : arcsOk (a :: b :: r) = false := by
    cases hk : arcsOk (a :: b :: r) with
    |false => rfl
    |true => have := (arcsOk_iff a b r).1 hk; omega
   have HF1 := Lib.hid (opS_bad hno).symm
   have HF2 := Lib.hid hno.symm
   clear hno hlen hin
   go_enter Tryz.func48, Tryz.ntmps48
   go_wp2
   go_returns
   exact ⟨rets2 (congrArg Value.string HF1.out) (congrArg Value.bool HF2.out), Below.refl _ _⟩
  ·by_cases hok : arcsOk (a :: b :: r) = true
   ·have HF1 := Lib.hid (opS_ok hok)
    have HF2 := Lib.hid hok
    obtain ⟨_, _, k1, k2⟩ := (arcsOk_iff a b r).1 hok
    have hf1 : 40 * a + b ≤ 18446744073709551615 := by omega
    have hf0 : 0 ≤ 40 * a + b := by omega
    have HN := Lib.hid (oONum (40 * a + b) hf0 hf1)
    have hw : (a < 2 ∧ (a == 2) = false ∧ ¬ 39 < b) ∨ (¬ a < 2 ∧ (a == 2) = true ∧ ¬ 18446744073709551535 < b) := by
     by_cases h : a < 2
     ·exact .inl ⟨h, beqN (by omega), by omega⟩
     ·exact .inr ⟨h, beq_iff_eq.2 (by omega), by omega⟩
    have hm40 : 40 * a ≤ 80 := by omega
    have hwa : IntKind.u64.wrap (40 * a) = 40 * a := by rw [IntKind.wrap_u64]; omega
    have hwr : IntKind.u64.wrap (40 * a + b) = 40 * a + b := by rw [IntKind.wrap_u64]; omega
    have HL := Lib.hid (oL_eq a b r)
    have HIN : Hid (∀ x ∈ (40 * a + b) :: r, 0 ≤ x ∧ x ≤ 18446744073709551615) := Lib.hid (by
     intro x hx
     rcases List.mem_cons.1 hx with rfl | hx
     ·exact ⟨hf0, hf1⟩
     ·exact hin x (by simp [hx]))
    clear hok hlen hin k1 k2
    rcases hw with ⟨w1, w2, w3⟩ | ⟨w1, w2, w3⟩
    all_goals
     go_enter Tryz.func48, Tryz.ntmps48
     go_wp2
     go_region_with (go_at_call 69; with_reducible refine (HN.out _).mono ?_; rintro e w9 ⟨rfl, hb9⟩)
     all_goals
      have hB9 : Below w.heap.size w w9 := Below.trans ((Below.refl _ w).drew) (hb9.mono (by simp))
      have HF3 : Hid ((a :: b :: r).length = r.length + 2) := Lib.hid rfl
      clear hb9 hwa hwr hm40 w1 w2 w3
      obtain ⟨f, hf⟩ : ∃ f, 40 * a + b = f := ⟨_, rfl⟩
      rw [hf] at HIN HL
      rw [hf]
      have HFF := Lib.hid hf
      clear hf HN
      obtain ⟨O, HO⟩ : ∃ O : Nat → List Int, Hid (∀ j, O j = (List.take (j + 1) (f :: r)).flatMap oB) := ⟨_, Lib.hid (fun _ => rfl)⟩
      have HF4 : Hid (O 0 = oB f) := Lib.hid (by rw [HO.out]; simp)
      have HOE : Hid (O r.length = oL (a :: b :: r)) := Lib.hid (by rw [HO.out, HL.out, List.take_of_length_le (by simp)])
      have HOS : Hid (∀ j (h : j < r.length), O (j + 1) = O j ++ oB r[j]) := Lib.hid (by
       intro j h
       rw [HO.out, HO.out, List.take_add_one (i := j + 1), List.getElem?_cons_succ, List.getElem?_eq_getElem h, Option.toList_some, List.flatMap_append]; simp)
      have HOL : Hid (∀ j, j ≤ r.length → (strOfNums (O j)).size ≤ 10 * (j + 1)) := Lib.hid (by
       intro j h
       rw [strOfNums_size, HO.out]
       have := flat_size (List.take (j + 1) (f :: r)) (fun x hx => (HIN.out x (List.mem_of_mem_take hx)).2)
       rw [List.length_take] at this
       omega)
      clear HO HL
      rw [← HF4.out]
      go_wp2
      go_loopw [4, 5] (fun sv iv wr => ∃ (j : Nat), sv = .string (strOfNums (O j)) ∧ iv = .int .i64 ((j : Int) + 2) ∧ j ≤ r.length ∧ Hid (Below w.heap.size w wr)) (fun _ iv _ => r.length + 2 - (intOf iv).toNat)
      case atStart => exact ⟨0, rfl, by simp, by omega, Lib.hid hB9⟩
      case round =>
       obtain ⟨j, rfl, rfl, hj, HB⟩ := hrel
       by_cases hlt : j < r.length
       ·have hj9 : r.length ≤ 999998 := by simp at hl; omega
        have hji : (j : Int) + 2 < (r.length : Int) + 2 := by omega
        have q2 := ((HC.out.below HB.out).at (by rw [ivs_length]; simp)) 
        obtain ⟨ad2, had, _, _, hq2⟩ := q2
        cases had
        have q3 : wr.cell? (ad.add (j + 2)) = some (.int .u64 r[j]) := by
         rw [hq2 (j + 2) (by rw [ivs_length]; simp; exact hlt), ivs_get (by simp; exact hlt)]; rfl
        have q4 : wr.cell? ⟨ad.block, ad.off + (j + 2), none⟩ = some (.int .u64 r[j]) := by rw [← addr_succ ad (j + 2) (by omega)]; exact q3
        have hr := HIN.out r[j] (List.mem_cons_of_mem _ (List.getElem_mem hlt))
        have HOS1 := Lib.hid (HOS.out j hlt)
        have hs1 := HOL.out j hj
        have hs2 : (strOfNums (oB r[j])).size ≤ 10 := by rw [strOfNums_size]; exact oB_le _ hr.2
        have HN2 := Lib.hid (oONum r[j] hr.1 hr.2)
        generalize r[j] = x at *
        have HSA := Lib.hid (strOfNums_append (O j) (oB x))
        clear hq2 hr
        go_wp2_with fail
        refine (HN2.out _).mono ?_
        rintro e w8 ⟨rfl, hb8⟩
        have HB8 := Lib.hid (HB.out.trans (hb8.mono HB.out.size))
        clear hb8 HB
        go_wp2
        go_roundw
        case rel => exact ⟨j + 1, by rw [HOS1.out, HSA.out], by simp; omega, by omega, HB8⟩
        case measure => simp [intOf]; omega
       ·have hje : j = r.length := by omega
        subst hje
        have hne : ¬ ((r.length : Int) + 2 < (r.length : Int) + 2) := by omega
        go_wp2
        go_returns
        exact ⟨rets2 (congrArg Value.string (by rw [HF1.out, HOE.out])) (congrArg Value.bool HF2.out.symm), HB.out⟩
   ·have hno : arcsOk (a :: b :: r) = false := by simpa using hok
    have hw : (a < 2 ∧ 39 < b) ∨ (¬ a < 2 ∧ (a == 2) = true ∧ 18446744073709551535 < b) := by
     rw [arcsOk_iff] at hok
     by_cases h : a < 2
     ·exact .inl ⟨h, by omega⟩
     ·exact .inr ⟨h, beq_iff_eq.2 (by omega), by omega⟩
    have HF1 := Lib.hid (opS_bad hno).symm
    have HF2 := Lib.hid hno.symm
    clear hno hlen hin hok
    rcases hw with ⟨w1, w2⟩ | ⟨w1, w2, w3⟩
    all_goals
     go_enter Tryz.func48, Tryz.ntmps48
     go_wp2
     go_returns
     exact ⟨rets2 (congrArg Value.string HF1.out) (congrArg Value.bool HF2.out), Below.refl _ _⟩
end Go.Proofs.YtiiimhamfibdbaaGreat
