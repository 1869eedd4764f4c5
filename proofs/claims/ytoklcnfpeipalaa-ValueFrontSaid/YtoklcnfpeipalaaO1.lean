/- What oid's Start and Push give: the landed code's contracts. Of every length, state and byte. -/
import Derived.Test.YtoklcnfpeipalaaB0
import Derived.Test.YtoklcnfpeipalaaP0
import Derived.Handy
import Derived.Test.YtoklcnfpeipalaaChecked
import Derived.WalkKit
import Derived.WalkSpells
import Derived.Lib.Hide
import Derived.Laws.BytesArg
import Derived.Deep.RegionWith
namespace Go.Proofs.Ytoklcnfpeipalaa
open Go.RowKit Go.PlainAid
set_option linter.unusedVariables false
/-- The cells of a state: how many bytes are left, and whether a number goes on. -/
def oSt (left : Int) (wi : Bool) : List Value := [.int .i64 left, .bool wi]
theorem infoOid : (Try.prog.info? 81).map (·.size) = some 2 := by kernel_rfl
theorem oid_load {W : World} {g : Nat} {x : Int} {y : Bool} (h : Row W g 81 (oSt x y)) : (loadVar 81 ⟨g, 0, none⟩).run Try.prog W = .ok (.agg #[.int .i64 x, .bool y]) W :=
  run_loadVar_mid _ _ 0 _ (oSt x y) _ h.whole Try.underlying81 rfl infoOid
def oStart (n : Int) : Int := if 1 ≤ n then n else 0
/-- The next state, and whether the byte can be. -/
def oPush (left : Int) (wi : Bool) (b : Int) : Int × Bool × Bool :=
  if left < 1 ∨ (128 ≤ b ∧ left = 1) ∨ (b = 128 ∧ wi = false) then (0, false, false) else (left - 1, decide (128 ≤ b), true)
/-- Along a content: what a push tells. -/
theorem oid_step (n : Int) (l : List Int) (i : Nat) (hi : i < l.length) (hn : (i : Int) < n) (h : ¬ (0 ≤ oW n true 0 l ∧ oW n true 0 l ≤ i)) :
    oPush (n - i) (!oFresh l i) l[i] = if oW n true 0 l = (i : Int) + 1 then (0, false, false) else (n - ((i + 1 : Nat) : Int), !oFresh l (i + 1), true) := by
  have hs := oW_step n l i hi h
  have hf : oFresh l (i + 1) = decide (l[i] < 128) := by unfold oFresh; rw [if_neg (by omega), Nat.add_sub_cancel, List.getD_eq_getElem?_getD, List.getElem?_eq_getElem hi]; rfl
  unfold oPush
  by_cases hw : oW n true 0 l = (i : Int) + 1
  · rw [if_pos hw]
    rcases hs.1 hw with ⟨h1, h2⟩ | ⟨h1, h2⟩
    · rw [if_pos (.inr (.inr ⟨h1, by rw [h2]; rfl⟩))]
    · rw [if_pos (.inr (.inl ⟨by omega, by omega⟩))]
  · rw [if_neg hw]
    have h1 : ¬ (l[i] = 128 ∧ oFresh l i = true) := fun e => hw (hs.2 (.inl e))
    have h2 : ¬ ((i : Int) = n - 1 ∧ 127 < l[i]) := fun e => hw (hs.2 (.inr e))
    rw [if_neg, hf]
    · congr 1
      · omega
      · congr 1
        by_cases h3 : l[i] < 128
        · rw [decide_eq_false (show ¬ 128 ≤ l[i] by omega), decide_eq_true h3]; rfl
        · rw [decide_eq_true (show 128 ≤ l[i] by omega), decide_eq_false h3]; rfl
    · rintro (h3 | h3 | ⟨h3, h4⟩)
      · omega
      · exact h2 ⟨by omega, by omega⟩
      · exact h1 ⟨h3, by simpa using h4⟩
theorem oidStart_any (n : Int) (w : World) :
    Calls Try.prog 44 #[.int .i64 n] w fun e w' => e = .returned (.tuple #[.agg #[.int .i64 (oStart n), .bool false], .bool (decide (1 ≤ n))]) ∧ Below w.heap.size w w' := by
  by_cases h : n < 1
  · have HO : Hid ((0 : Int) = oStart n) := Lib.hid (by unfold oStart; rw [if_neg (by omega)])
    have HB : Hid (false = decide (1 ≤ n)) := Lib.hid (decide_eq_false (by omega)).symm
    go_enter Try.func44, Try.ntmps44
    go_wp2
    exact bodyPost_ret (results_cell_one Try.results44 _ (ad := ⟨w.heap.size, 0, none⟩) rfl rfl (oid_load (Row.new w 81 (oSt 0 false)))) rfl ⟨rets2 (congrArg (fun z => Value.agg #[.int .i64 z, .bool false]) HO.out) (congrArg Value.bool HB.out), by go_grown⟩
  · have HO : Hid (n = oStart n) := Lib.hid (by unfold oStart; rw [if_pos (by omega)])
    have HB : Hid (true = decide (1 ≤ n)) := Lib.hid (decide_eq_true (by omega)).symm
    go_enter Try.func44, Try.ntmps44
    go_wp2
    exact bodyPost_ret (results_cell_one Try.results44 _ (ad := ⟨w.heap.size, 0, none⟩) rfl rfl (oid_load (Row.new w 81 (oSt n false)))) rfl ⟨rets2 (congrArg (fun z => Value.agg #[.int .i64 z, .bool false]) HO.out) (congrArg Value.bool rfl), by go_grown⟩
set_option maxHeartbeats 1600000 in
theorem oidPush_any (left : Int) (wi : Bool) (b : Int) (hl : -9223372036854775808 ≤ left ∧ left ≤ 9223372036854775807) (hb : 0 ≤ b ∧ b ≤ 255) (w : World) :
    Calls Try.prog 98 #[.agg #[.int .i64 left, .bool wi], .int .u8 b] w fun e w' => e = .returned (.tuple #[.agg #[.int .i64 (oPush left wi b).1, .bool (oPush left wi b).2.1], .bool (oPush left wi b).2.2]) ∧ Below w.heap.size w w' := by
  obtain ⟨l0, l1⟩ := hl
  obtain ⟨b0, b1⟩ := hb
  by_cases h1 : left < 1
  · have HO : Hid (oPush left wi b = (0, false, false)) := Lib.hid (by unfold oPush; rw [if_pos (.inl h1)])
    go_enter Try.func98, Try.ntmps98
    go_wp2
    exact bodyPost_ret (results_cell_one Try.results98 _ (ad := ⟨w.heap.size + 1, 0, none⟩) rfl rfl (oid_load (row_new2 w _ 81 (oSt 0 false)))) rfl ⟨by rw [HO.out]; rfl, by go_grown⟩
  · by_cases h2 : 128 ≤ b ∧ left = 1
    · obtain ⟨h2, rfl⟩ := h2
      have HO : Hid (oPush 1 wi b = (0, false, false)) := Lib.hid (by unfold oPush; rw [if_pos (.inr (.inl ⟨h2, rfl⟩))])
      go_enter Try.func98, Try.ntmps98
      go_wp2
      exact bodyPost_ret (results_cell_one Try.results98 _ (ad := ⟨w.heap.size + 1, 0, none⟩) rfl rfl (oid_load (row_new2 w _ 81 (oSt 0 false)))) rfl ⟨by rw [HO.out]; rfl, by go_grown⟩
    · by_cases h3 : b = 128 ∧ wi = false
      · obtain ⟨rfl, rfl⟩ := h3
        have h4 : ¬ left = 1 := fun e => h2 ⟨by decide, e⟩
        have h5 : (left == 1) = false := beq_eq_false_iff_ne.2 h4
        have HO : Hid (oPush left false 128 = (0, false, false)) := Lib.hid (by unfold oPush; rw [if_pos (.inr (.inr ⟨rfl, rfl⟩))])
        clear h2 h4
        go_enter Try.func98, Try.ntmps98
        go_wp2
        exact bodyPost_ret (results_cell_one Try.results98 _ (ad := ⟨w.heap.size + 1, 0, none⟩) rfl rfl (oid_load (row_new2 w _ 81 (oSt 0 false)))) rfl ⟨by rw [HO.out]; rfl, by go_grown⟩
      · have HO : Hid (oPush left wi b = (left - 1, decide (128 ≤ b), true)) := Lib.hid (by unfold oPush; exact if_neg (fun h => h.elim h1 (fun h => h.elim h2 h3)))
        by_cases hm : 128 ≤ b
        · have h4 : ¬ left = 1 := fun e => h2 ⟨hm, e⟩
          have h5 : (left == 1) = false := beq_eq_false_iff_ne.2 h4
          have HD : Hid (decide (128 ≤ b) = true) := Lib.hid (decide_eq_true hm)
          cases wi
          · have h6 : (b == 128) = false := beq_eq_false_iff_ne.2 (fun e => h3 ⟨e, rfl⟩)
            clear h2 h3 h4
            go_enter Try.func98, Try.ntmps98
            go_wp2
            exact bodyPost_ret (results_cell_one Try.results98 _ (ad := ⟨w.heap.size + 1, 0, none⟩) rfl rfl (oid_load (row_new2 w _ 81 (oSt (left - 1) true)))) rfl ⟨by rw [HO.out, HD.out]; rfl, by go_grown⟩
          · clear h2 h3 h4
            by_cases h6 : b = 128
            · subst h6
              go_enter Try.func98, Try.ntmps98
              go_wp2
              exact bodyPost_ret (results_cell_one Try.results98 _ (ad := ⟨w.heap.size + 1, 0, none⟩) rfl rfl (oid_load (row_new2 w _ 81 (oSt (left - 1) true)))) rfl ⟨by rw [HO.out, HD.out]; rfl, by go_grown⟩
            · have h7 : (b == 128) = false := beq_eq_false_iff_ne.2 h6
              go_enter Try.func98, Try.ntmps98
              go_wp2
              exact bodyPost_ret (results_cell_one Try.results98 _ (ad := ⟨w.heap.size + 1, 0, none⟩) rfl rfl (oid_load (row_new2 w _ 81 (oSt (left - 1) true)))) rfl ⟨by rw [HO.out, HD.out]; rfl, by go_grown⟩
        · have HD : Hid (decide (128 ≤ b) = false) := Lib.hid (decide_eq_false hm)
          have h6 : (b == 128) = false := beq_eq_false_iff_ne.2 (by omega)
          clear h2 h3
          go_enter Try.func98, Try.ntmps98
          go_wp2
          exact bodyPost_ret (results_cell_one Try.results98 _ (ad := ⟨w.heap.size + 1, 0, none⟩) rfl rfl (oid_load (row_new2 w _ 81 (oSt (left - 1) false)))) rfl ⟨by rw [HO.out, HD.out]; rfl, by go_grown⟩
end Go.Proofs.Ytoklcnfpeipalaa
/- Slices of uint64: of a call's own (Sl) and as they came (Came): appended to, and read. Of any slice from a block's head on. -/
namespace Go.Proofs.Ytoklcnfpeipalaa
open Go.RowKit
set_option linter.unusedVariables false
theorem ivs_length (k : IntKind) (l : List Int) : (ivs k l).length = l.length := by simp [ivs]
theorem ivs_append (k : IntKind) (l m : List Int) : ivs k (l ++ m) = ivs k l ++ ivs k m := by simp [ivs]
theorem ivs_one (k : IntKind) (l : List Int) : ∀ u ∈ ivs k l, u.oneCell' = true := by
  intro u hu
  obtain ⟨x, _, rfl⟩ := List.mem_map.1 hu
  rfl
theorem ivs_get {k : IntKind} {l : List Int} {j : Nat} (h : j < l.length) : (ivs k l)[j]? = some (.int k l[j]) := by simp [ivs, h]
theorem addr0u (g j : Nat) : (⟨g, 0, none⟩ : Addr).add j = ⟨g, j, none⟩ := by unfold Addr.add; split <;> simp_all
theorem addr_zero (a : Addr) : a.add 0 = a := by unfold Addr.add; split <;> simp_all
theorem addr_one (a : Addr) : a.add 1 = ⟨a.block, a.off + 1, none⟩ := by unfold Addr.add; simp
theorem addr_succ (a : Addr) (n : Nat) (h : n ≠ 0) : a.add n = ⟨a.block, a.off + n, none⟩ := by unfold Addr.add; rw [if_neg h]
theorem infoU64 : (Try.prog.info? 121).map (fun i => (i.zero, i.size, i.bytes)) = some (some (.int .u64 0), 1, 8) := by kernel_rfl
theorem sl_new_u64 (w : World) (l : List Int) (hl : l.length ≤ maxLen) : Sl (w.alloc (.cells (ivs .u64 l).toArray 121)) 121 (.slice (some ⟨w.heap.size, 0, none⟩) l.length l.length) (ivs .u64 l) w.heap.size := by
  have := Sl.new w 121 (ivs .u64 l) (by rw [ivs_length]; exact hl)
  rwa [ivs_length] at this
theorem Came.sl {w : World} {t : TypeId} {v : Value} {L : List Value} {g : Nat} (h : Sl w t v L g) : Came w (some ⟨g, 0, none⟩) L := by
  obtain ⟨sp, _, _, hr⟩ := h
  intro j u hj
  refine ⟨_, rfl, ?_⟩
  have hj' := (List.getElem?_eq_some_iff.1 hj).1
  rw [addr0u, hr.cell, List.getElem?_append_left hj', hj]
theorem Came.alloc {w : World} {oa : Option Addr} {l : List Value} (h : Came w oa l) (o : Obj) : Came (w.alloc o) oa l := h.below ((Below.refl _ w).alloc (Nat.le_refl _) o)
theorem Came.drew {w : World} {oa : Option Addr} {l : List Value} (h : Came w oa l) : Came w.drew oa l := h
/-- Its cells, the place as the walk has it. -/
theorem Came.at {w : World} {oa : Option Addr} {l : List Value} (h : Came w oa l) (hl : 0 < l.length) : ∃ a, oa = some a ∧ a.block < w.heap.size ∧ w.cell? a = l[0]? ∧ ∀ j, j < l.length → w.cell? (a.add j) = l[j]? := by
  obtain ⟨a, h1, h2, h3⟩ := h.first hl
  have h4 : ∀ j, j < l.length → w.cell? (a.add j) = l[j]? := fun j hj => by rw [h3 j l[j] (List.getElem?_eq_getElem hj), List.getElem?_eq_getElem hj]
  refine ⟨a, h1, h2, ?_, h4⟩
  have := h4 0 hl
  rwa [addr_zero] at this
theorem run_append_empty (w : World) (t ty e : TypeId) (i : TypeInfo) (ad : Option Addr) (n cb c : Nat) {P : Program} (ht : P.underlying t = some (.slice e)) (hi : P.info? e = some i) (hn : n ≤ cb) :
    (Builtin.append_ #[t, t] ty #[.slice ad n cb, .slice none 0 c]).run P w = .ok (.slice ad n cb) w := by
  cases ad <;> simp [Builtin.append_, run_underlying ht, sizeOf, typeInfo, hi, Builtin.lenOf, Builtin.firstCells, storeCells, hn]
end Go.Proofs.Ytoklcnfpeipalaa
/- What the reference's Wrong, number and Same of object identifiers give. Of every text, number and list. -/
namespace Go.Proofs.Ytoklcnfpeipalaa
open Go.RowKit Go.PlainAid
set_option linter.unusedVariables false
theorem oFresh_zero (l : List Int) : oFresh l 0 = true := rfl
theorem oFresh_bt (b : ByteArray) (i : Nat) (h : i < b.size) : oFresh (bl b) (i + 1) = decide (bt b i < 128) := by
  unfold oFresh
  rw [if_neg (by omega), Nat.add_sub_cancel, List.getD_eq_getElem?_getD, bl_at b i h]; rfl
set_option maxRecDepth 100000 in
set_option maxHeartbeats 1600000 in
theorem refOidWrong_any (n : Int) (b : ByteArray) (hb : b.size ≤ maxLen) (hn : -9223372036854775808 ≤ n ∧ n ≤ 9223372036854775807) (w : World) :
    Calls Try.prog 20 #[.int .i64 n, .string b] w fun e w' => e = .returned (.int .i64 (oidWrong n (bl b))) ∧ w' = w := by
  have hb9 : (b.size : Int) ≤ 9223372036854775807 := by unfold maxLen at hb; omega
  obtain ⟨n0, n1⟩ := hn
  by_cases h1 : n < 1
  · have HF : Hid (0 = oidWrong n (bl b)) := Lib.hid (by unfold oidWrong; rw [if_pos h1])
    go_enter Try.func20, Try.ntmps20
    go_wp2
    go_returns
    exact ⟨rets1 (congrArg (Value.int .i64) HF.out), rfl⟩
  · have HO : Hid (oidWrong n (bl b) = oW n true 0 (bl b)) := Lib.hid (by unfold oidWrong; rw [if_neg h1])
    have HR := Lib.hid (oW_range n (bl b) true 0)
    have HST := Lib.hid (fun (i : Nat) (hi : i < b.size) h => (bl_get b i (by rw [bl_length]; exact hi)) ▸ oW_step n (bl b) i (by rw [bl_length]; exact hi) h)
    have HF0 := Lib.hid (oFresh_zero (bl b))
    have HFS := Lib.hid (oFresh_bt b)
    have HGB := Lib.hid (get_bt b)
    rw [bl_length] at HR
    generalize oidWrong n (bl b) = W at *
    generalize oW n true 0 (bl b) = V at *
    have hWV := HO.out
    subst hWV
    have hn1 : -9223372036854775808 ≤ n - 1 := by omega
    clear HO
    go_enter Try.func20, Try.ntmps20
    go_wp2
    go_loopw [5] (fun iv wr => ∃ (i : Nat), iv = .int .i64 (i : Int) ∧ i ≤ b.size ∧ Hid (¬ (0 ≤ W ∧ W ≤ (i : Int))) ∧ wr = w) (fun iv _ => b.size - (intOf iv).toNat)
    case atStart => exact ⟨0, rfl, by omega, Lib.hid (by have := HR.out; simp at this ⊢; omega), rfl⟩
    case round =>
      obtain ⟨i, rfl, hi, HN, rfl⟩ := hrel
      by_cases hlt : i < b.size
      · have hst := HST.out i hlt HN.out
        have hbt := HGB.out i hlt
        have hlti : (i : Int) < (b.size : Int) := by omega
        obtain ⟨x, hx⟩ : ∃ x, bt b i = x := ⟨_, rfl⟩
        rw [hx] at hst hbt
        have HX := Lib.hid hx
        have HS := Lib.hid hst
        clear hst hx
        by_cases hx8 : x = 128
        · subst hx8
          by_cases hi0 : i = 0
          · subst hi0
            have HF : Hid ((0 : Int) + 1 = W) := Lib.hid (by have := HS.out.2 (.inl ⟨rfl, HF0.out⟩); simpa using this.symm)
            clear HN HS HX
            go_wp2
            go_returns
            exact ⟨rets1 (congrArg (Value.int .i64) HF.out), rfl⟩
          · obtain ⟨j, rfl⟩ : ∃ j, i = j + 1 := ⟨i - 1, by omega⟩
            have hbt2 := HGB.out j (by omega)
            have hfs := HFS.out j (by omega)
            obtain ⟨y, hy⟩ : ∃ y, bt b j = y := ⟨_, rfl⟩
            rw [hy] at hbt2 hfs
            have hi0b : ((j : Int) + 1 == 0) = false := beq_eq_false_iff_ne.2 (by omega)
            clear hy
            by_cases hy8 : y < 128
            · have HF : Hid (((j + 1 : Nat) : Int) + 1 = W) := Lib.hid (by have := HS.out.2 (.inl ⟨rfl, by rw [hfs]; exact decide_eq_true hy8⟩); exact this.symm)
              clear HN HS HX hfs hi0
              go_wp2
              go_returns
              exact ⟨rets1 (congrArg (Value.int .i64) HF.out), rfl⟩
            · by_cases hl : ((j + 1 : Nat) : Int) = n - 1
              · have hlb : ((j : Int) + 1 == n - 1) = true := beq_iff_eq.2 (by omega)
                have HF : Hid ((j : Int) + 1 + 1 = W) := Lib.hid (by have := HS.out.2 (.inr ⟨hl, by decide⟩); omega)
                clear HN HS HX hfs hi0 hl
                go_wp2
                go_returns
                exact ⟨rets1 (congrArg (Value.int .i64) HF.out), rfl⟩
              · have hlb : ((j : Int) + 1 == n - 1) = false := beq_eq_false_iff_ne.2 (by omega)
                have HNN : Hid (¬ (0 ≤ W ∧ W ≤ ((j + 1 + 1 : Nat) : Int))) := Lib.hid (by
                  have h2 : ¬ W = ((j + 1 : Nat) : Int) + 1 := fun h => by
                    rcases HS.out.1 h with ⟨_, h3⟩ | ⟨h3, _⟩
                    · rw [hfs] at h3; exact hy8 (of_decide_eq_true h3)
                    · exact hl h3
                  have := HN.out
                  omega)
                clear HN HS HX hfs hi0 hl
                go_wp2
                go_roundw
                case rel => exact ⟨j + 1 + 1, by simp, by omega, HNN, by trivial⟩
                case measure => simp [intOf]; omega
        · have hx8b : (x == 128) = false := beq_eq_false_iff_ne.2 hx8
          by_cases hl : (i : Int) = n - 1 ∧ 127 < x
          · obtain ⟨hl1, hl2⟩ := hl
            have HF : Hid ((i : Int) + 1 = W) := Lib.hid (HS.out.2 (.inr ⟨hl1, hl2⟩)).symm
            clear HN HS HX hx8 HST
            obtain rfl : n = (i : Int) + 1 := by omega
            clear hl1
            go_wp2
            go_returns
            exact ⟨rets1 (congrArg (Value.int .i64) HF.out), rfl⟩
          · have HNN : Hid (¬ (0 ≤ W ∧ W ≤ ((i + 1 : Nat) : Int))) := Lib.hid (by
              have h2 : ¬ W = (i : Int) + 1 := fun h => by
                rcases HS.out.1 h with ⟨h3, _⟩ | h3
                · exact hx8 h3
                · exact hl h3
              have := HN.out
              omega)
            by_cases hl1 : (i : Int) = n - 1
            · have hl2 : ¬ 127 < x := fun h => hl ⟨hl1, h⟩
              clear HN HS HX hl hx8
              have hl3 : n = (i : Int) + 1 := by omega
              subst hl3
              clear hl1
              go_wp2
              go_roundw
              case rel => exact ⟨i + 1, by simp, by omega, HNN, by trivial⟩
              case measure => simp [intOf]; omega
            · have hlb : ((i : Int) == n - 1) = false := beq_eq_false_iff_ne.2 hl1
              clear HN HS HX hl hl1 hx8
              go_wp2
              go_roundw
              case rel => exact ⟨i + 1, by simp, by omega, HNN, by trivial⟩
              case measure => simp [intOf]; omega
      · have hne : ¬ (i : Int) < (b.size : Int) := by omega
        have HF : Hid (-1 = W) := Lib.hid (by have := HR.out; have := HN.out; simp at *; omega)
        clear HN HR
        go_wp2
        go_returns
        exact ⟨rets1 (congrArg (Value.int .i64) HF.out), rfl⟩
end Go.Proofs.Ytoklcnfpeipalaa
/- What the reference's Put, Get and Same of object identifiers give. Of every list and text. -/
namespace Go.Proofs.Ytoklcnfpeipalaa
open Go.RowKit Go.PlainAid
set_option linter.unusedVariables false
/-- What Put answers. -/
def opS (l : List Int) : ByteArray := if arcsOk l = true then strOfNums (oL l) else ⟨#[]⟩
theorem opS_ok {l : List Int} (h : arcsOk l = true) : opS l = strOfNums (oL l) := by rw [opS, if_pos h]
theorem opS_bad {l : List Int} (h : arcsOk l = false) : opS l = ⟨#[]⟩ := by rw [opS, if_neg (by rw [h]; simp)]
/-- What Get answers. -/
def ogL (b : ByteArray) : List Int := (oGet (bl b)).getD []
def ogB (b : ByteArray) : Bool := (oGet (bl b)).isSome
theorem beqN {x y : Int} (h : ¬ x = y) : (x == y) = false := by simpa using h
theorem flat_size (l : List Int) (h : ∀ x ∈ l, x ≤ 18446744073709551615) : (l.flatMap oB).length ≤ 10 * l.length := by
  induction l with
  | nil => simp
  | cons x r ih =>
    have h1 := oB_le x (h x (List.mem_cons_self ..))
    have h2 := ih (fun y hy => h y (List.mem_cons_of_mem _ hy))
    rw [List.flatMap_cons, List.length_append, List.length_cons]; omega
end Go.Proofs.Ytoklcnfpeipalaa
