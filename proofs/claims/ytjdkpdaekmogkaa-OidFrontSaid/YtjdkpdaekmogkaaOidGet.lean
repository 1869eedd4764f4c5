/- What oid's isRight, countNumbers, appendArcs and Get give: the landed code's contracts. Of every text (Get: of at most a million bytes). -/
import Derived.Test.YtjdkpdaekmogkaaOidStep
import Derived.Test.YtjdkpdaekmogkaaRefOidGet
import Derived.Test.YtjdkpdaekmogkaaOidPut
import Derived.Handy
import Derived.Deep.RegionWith
import Derived.Laws.MakeOwn
namespace Go.Proofs.Ytjdkpdaekmogkaa
open Go.RowKit Go.PlainAid
set_option linter.unusedVariables false
theorem row_kept {a W w5 : World} {g : Nat} {t : TypeId} {l : List Value} (hb : Below W.heap.size W w5) (hR : Row a g t l) (hd : W.heap = a.heap) : Row w5 g t l := by
  have h : Row W g t l := by unfold Row; rw [hd]; exact hR
  exact h.below hb h.lt
theorem oid_kept {a W w5 : World} {g : Nat} {x : Int} {y : Bool} (hb : Below W.heap.size W w5) (hR : Row a g 25 (oSt x y)) (hd : W.heap = a.heap) :
    w5.cell? ⟨g, 0, none⟩ = some (.int .i64 x) ∧ w5.frozen? ⟨g, 0, none⟩ = false ∧ w5.cell? ⟨g, 1, none⟩ = some (.bool y) ∧ w5.frozen? ⟨g, 1, none⟩ = false :=
  ⟨(row_kept hb hR hd).cell 0, (row_kept hb hR hd).frozen 0, (row_kept hb hR hd).cell 1, (row_kept hb hR hd).frozen 1⟩
theorem below_kept {o a W w5 : World} (hb : Below W.heap.size W w5) (hB : Below o.heap.size o a) (hd : W.heap = a.heap) (h1 : W.os = a.os) (h2 : W.tape = a.tape) (h3 : W.output = a.output) : Below o.heap.size o w5 := by
  have h : Below o.heap.size o W := ⟨h1.trans hB.os, h2.trans hB.tape, h3.trans hB.output, by rw [hd]; exact hB.size, by intro k hk; rw [hd]; exact hB.block k hk⟩
  exact h.trans (hb.mono h.size)
/-- Whether a content is right. -/
def oRight (b : ByteArray) : Bool := decide (1 ≤ b.size ∧ oidWrong b.size (bl b) = -1)
set_option maxRecDepth 100000 in
set_option maxHeartbeats 1600000 in
theorem isRight_any (b : ByteArray) (hb : b.size ≤ maxLen) (w : World) :
    Calls Try.prog 21 #[.string b] w fun e w' => e = .returned (.bool (oRight b)) ∧ Below w.heap.size w w' := by
  have hb9 : (b.size : Int) ≤ 9223372036854775807 := by unfold maxLen at hb; omega
  have HS := Lib.hid (oidStart_any b.size)
  by_cases h1 : b.size < 1
  · have HF : Hid (oRight b = false) := Lib.hid (decide_eq_false (by omega))
    have hz : b.size = 0 := by omega
    have HS := Lib.hid (oidStart_any 0)
    rw [show decide (1 ≤ (0 : Int)) = false from rfl] at HS
    clear h1
    go_enter Try.func21, Try.ntmps21
    go_wp2_with fail
    refine (HS.out _).mono ?_
    rintro e w1 ⟨rfl, hB1⟩
    go_wp2
    go_loopw [4, 5] (fun ov iv wr => ov = .bool false ∧ iv = .int .i64 0 ∧ Hid (Below w.heap.size w wr)) (fun _ _ _ => 0)
    case atStart => exact ⟨rfl, rfl, Lib.hid (hB1.alloc hB1.size _)⟩
    case round =>
      obtain ⟨rfl, rfl, HB⟩ := hrel
      go_wp2
      go_returns
      exact ⟨rets1 (congrArg Value.bool HF.out.symm), HB.out⟩
  · have HO : Hid (oidWrong b.size (bl b) = oW b.size true 0 (bl b)) := Lib.hid (by unfold oidWrong; rw [if_neg (by omega)])
    have HR := Lib.hid (oW_range b.size (bl b) true 0)
    rw [bl_length] at HR
    have HST := Lib.hid (fun (i : Nat) (hi : i < b.size) h => (bl_get b i (by rw [bl_length]; exact hi)) ▸ oid_step b.size (bl b) i (by rw [bl_length]; exact hi) (by omega) h)
    have HGB := Lib.hid (get_bt b)
    have HX0 := Lib.hid (bt_nonneg b)
    have HX1 := Lib.hid (bt_le b)
    have HR1 : Hid (oRight b = decide (oW b.size true 0 (bl b) = -1)) := Lib.hid (by
      unfold oRight; rw [HO.out]
      by_cases h : oW b.size true 0 (bl b) = -1
      · rw [decide_eq_true h, decide_eq_true ⟨by omega, h⟩]
      · rw [decide_eq_false h, decide_eq_false (fun e => h e.2)])
    rw [show decide (1 ≤ (b.size : Int)) = true from decide_eq_true (by omega), show oStart (b.size : Int) = b.size from if_pos (by omega)] at HS
    generalize oRight b = OK at *
    generalize oW b.size true 0 (bl b) = V at *
    generalize hfr : oFresh (bl b) = fr at *
    have hf0 : fr 0 = true := by rw [← hfr]; rfl
    clear h1 HO hfr
    go_enter Try.func21, Try.ntmps21
    go_wp2_with fail
    refine (HS.out _).mono ?_
    rintro e w1 ⟨rfl, hB1⟩
    go_wp2
    go_loopw [4, 5] (fun ov iv wr => ∃ (ok : Bool) (i : Nat) (x : Int) (y : Bool), ov = .bool ok ∧ iv = .int .i64 (i : Int) ∧ i ≤ b.size ∧ (0 ≤ x ∧ x ≤ 9223372036854775807) ∧ Hid (Row wr w1.heap.size 25 (oSt x y)) ∧ Hid (Below w.heap.size w wr) ∧ Hid (ok = true → x = (b.size : Int) - (i : Int) ∧ y = (!fr i) ∧ ¬ (0 ≤ V ∧ V ≤ (i : Int))) ∧ Hid (ok = false → V ≠ -1)) (fun _ iv _ => b.size - (intOf iv).toNat)
    case atStart => exact ⟨true, 0, b.size, false, rfl, rfl, by omega, by omega, Lib.hid (Row.new w1 25 (oSt _ _)), Lib.hid (hB1.alloc hB1.size _), Lib.hid (fun _ => ⟨by simp, by rw [hf0]; rfl, by have := HR.out; simp at this ⊢; omega⟩), Lib.hid (by intro h; cases h)⟩
    case round =>
      obtain ⟨ok, i, x, y, rfl, rfl, hi, ⟨x0, x1⟩, HRo, HB, HT, HN⟩ := hrel
      cases ok
      · have HF : Hid (false = OK) := Lib.hid (by rw [HR1.out, decide_eq_false (HN.out rfl)])
        go_wp2
        go_returns
        exact ⟨rets1 (congrArg Value.bool HF.out), HB.out⟩
      · by_cases hlt : i < b.size
        · have hbt := HGB.out i hlt
          have hx0 := HX0.out i
          have hx1 := HX1.out i
          obtain ⟨t1, t2, t3⟩ := HT.out rfl
          have hst := HST.out i hlt t3
          obtain ⟨z, hz⟩ : ∃ z, bt b i = z := ⟨_, rfl⟩
          rw [hz] at hbt hx0 hx1 hst
          rw [← t1, ← t2] at hst
          have HP := Lib.hid (oidPush_any x y z ⟨by omega, x1⟩ ⟨hx0, hx1⟩)
          have HSP : Hid (0 ≤ (oPush x y z).1 ∧ (oPush x y z).1 ≤ 9223372036854775807 ∧ ((oPush x y z).2.2 = true → (oPush x y z).1 = (b.size : Int) - ((i + 1 : Nat) : Int) ∧ (oPush x y z).2.1 = (!fr (i + 1)) ∧ ¬ (0 ≤ V ∧ V ≤ ((i + 1 : Nat) : Int))) ∧ ((oPush x y z).2.2 = false → V ≠ -1)) := Lib.hid (by
            rw [hst]
            split
            · exact ⟨by decide, by decide, (by intro h; cases h), (by intro _; omega)⟩
            · exact ⟨by simp only; omega, by simp only; omega, (fun _ => ⟨rfl, rfl, by omega⟩), (by intro h; cases h)⟩)
          have h0 : wr.cell? ⟨w1.heap.size, 0, none⟩ = some (.int .i64 x) := HRo.out.cell 0
          have f0 := HRo.out.frozen 0
          have h2 : wr.cell? ⟨w1.heap.size, 1, none⟩ = some (.bool y) := HRo.out.cell 1
          have f2 := HRo.out.frozen 1
          have hls := HRo.out.lt
          have hlti : (i : Int) < (b.size : Int) := by omega
          clear hz t1 t2 t3 hst HT
          generalize oPush x y z = p at *
          obtain ⟨x', y', ok'⟩ := p
          simp only at HP HSP
          go_wp2
          go_region_with (go_at_call 12; refine (HP.out _).mono ?_; rintro e w5 ⟨rfl, hb5⟩; obtain ⟨hc5, hf5, hc6, hf6⟩ := oid_kept hb5 HRo.out rfl)
          all_goals
            have HR5 := Lib.hid (((row_kept hb5 HRo.out rfl).set 0 (.int .i64 x')).set 1 (.bool y'))
            have HB5 := Lib.hid (((below_kept hb5 HB.out rfl rfl rfl rfl).setCell (p := ⟨w1.heap.size, 0, none⟩) hB1.size (.int .i64 x')).setCell (p := ⟨w1.heap.size, 1, none⟩) hB1.size (.bool y'))
            clear hb5 hc5 hf5 hc6 hf6 h0 f0 h2 f2 hls
            go_wp2
            go_roundw
            case rel => exact ⟨ok', i + 1, x', y', rfl, by simp, by omega, ⟨HSP.out.1, HSP.out.2.1⟩, HR5, HB5, Lib.hid HSP.out.2.2.1, Lib.hid HSP.out.2.2.2⟩
            case measure => simp [intOf]; omega
        · have HF : Hid (true = OK) := Lib.hid (by
            have h2 := (HT.out rfl).2.2
            have h3 := HR.out
            rw [HR1.out]; exact (decide_eq_true (by omega)).symm)
          have hne : ¬ (i : Int) < (b.size : Int) := by omega
          go_wp2
          go_returns
          exact ⟨rets1 (congrArg Value.bool HF.out), HB.out⟩
/-- How many numbers end in a list. -/
def oEnds : List Int → Nat
  | [] => 0
  | c :: r => oEnds r + if c < 128 then 1 else 0
theorem oEnds_le (l : List Int) : oEnds l ≤ l.length := by
  induction l with
  | nil => simp [oEnds]
  | cons c r ih => simp only [oEnds, List.length_cons]; split <;> omega
theorem oEnds_app (l m : List Int) : oEnds (l ++ m) = oEnds l + oEnds m := by
  induction l with
  | nil => simp [oEnds]
  | cons c r ih => simp only [List.cons_append, oEnds, ih]; omega
theorem oEnds_take (b : ByteArray) (i : Nat) (h : i < b.size) : oEnds ((bl b).take (i + 1)) = oEnds ((bl b).take i) + if bt b i < 128 then 1 else 0 := by
  rw [List.take_add_one, List.getElem?_eq_getElem (by rw [bl_length]; exact h), bl_get, oEnds_app]
  simp [oEnds]
set_option maxHeartbeats 1600000 in
theorem oidCount_any (b : ByteArray) (hb : b.size ≤ maxLen) (w : World) :
    Calls Try.prog 22 #[.string b] w fun e w' => e = .returned (.int .i64 (oEnds (bl b) : Nat)) ∧ w' = w := by
  have hb9 : (b.size : Int) ≤ 9223372036854775807 := by unfold maxLen at hb; omega
  have HGB := Lib.hid (get_bt b)
  have HE := Lib.hid (oEnds_take b)
  have HL := Lib.hid (fun i => oEnds_le ((bl b).take i))
  obtain ⟨N, hN⟩ : ∃ N : Nat → Nat, ∀ i, oEnds ((bl b).take i) = N i := ⟨_, fun _ => rfl⟩
  have HF : Hid (N b.size = oEnds (bl b)) := Lib.hid (by rw [← hN, List.take_of_length_le (by rw [bl_length]; exact Nat.le_refl _)])
  have HN0 : Hid (N 0 = 0) := Lib.hid (by rw [← hN]; rfl)
  have HNL : Hid (∀ i, i ≤ b.size → N i ≤ i) := Lib.hid (by intro i hi; have := HL.out i; rw [hN, List.length_take] at this; omega)
  simp only [hN] at HE
  clear hN HL
  go_enter Try.func22, Try.ntmps22
  go_wp2
  go_loopw [3, 7] (fun cv iv wr => ∃ (i : Nat), cv = .int .i64 (N i : Nat) ∧ iv = .int .i64 (i : Int) ∧ i ≤ b.size ∧ wr = w) (fun _ iv _ => b.size - (intOf iv).toNat)
  case atStart => exact ⟨0, by rw [HN0.out]; rfl, rfl, by omega, rfl⟩
  case round =>
    obtain ⟨i, rfl, rfl, hi, rfl⟩ := hrel
    have hni := HNL.out i hi
    by_cases hlt : i < b.size
    · have hbt := HGB.out i hlt
      have he := HE.out i hlt
      have hlti : (i : Int) < (b.size : Int) := by omega
      generalize bt b i = z at *
      by_cases hz : z < 128
      · rw [if_pos hz] at he
        have HE1 := Lib.hid he
        clear he
        go_wp2
        go_roundw
        case rel => exact ⟨i + 1, by rw [HE1.out]; simp, by simp, by omega, by trivial⟩
        case measure => simp [intOf]; omega
      · rw [if_neg hz] at he
        have HE1 := Lib.hid he
        clear he
        go_wp2
        go_roundw
        case rel => exact ⟨i + 1, by rw [HE1.out]; simp, by simp, by omega, by trivial⟩
        case measure => simp [intOf]; omega
    · obtain rfl : i = b.size := by omega
      have hne : ¬ ((b.size : Int) < (b.size : Int)) := by omega
      go_wp2
      go_returns
      exact ⟨rets1 (congrArg (fun z : Nat => Value.int .i64 (z : Int)) HF.out), rfl⟩
/-- One number more behind the arcs. -/
def oArcs (A : List Int) (n : Int) : List Int := if A = [] then [oFirst n, n - 40 * oFirst n] else A ++ [n]
theorem oArcs_two (q : List Int) (n : Int) : oArcs (oTwo q) n = oTwo (q ++ [n]) := by
  unfold oArcs
  cases q with
  | nil => rfl
  | cons f r => rw [if_neg (by simp [oTwo])]; simp [oTwo]
set_option maxRecDepth 100000 in
set_option maxHeartbeats 1600000 in
theorem oidArcs_any (A : List Int) (n : Int) (g c : Nat) (hn : 0 ≤ n ∧ n ≤ 18446744073709551615) (hA : A.length ≤ 100000000) (w : World) (hs : Sl w 40 (.slice (some ⟨g, 0, none⟩) A.length c) (ivs .u64 A) g) :
    Calls Try.prog 23 #[.slice (some ⟨g, 0, none⟩) A.length c, .int .u64 n] w fun e w' => ∃ g' c', e = .returned (.slice (some ⟨g', 0, none⟩) (oArcs A n).length c') ∧ Sl w' 40 (.slice (some ⟨g', 0, none⟩) (oArcs A n).length c') (ivs .u64 (oArcs A n)) g' ∧ (g' = g ∨ w.heap.size ≤ g') ∧ w.grownBy w' (some g) := by
  obtain ⟨n0, n1⟩ := hn
  have HS := Lib.hid hs
  clear hs
  by_cases h0 : A = []
  · subst h0
    have HF : Hid (oArcs [] n = [oFirst n, n - 40 * oFirst n]) := Lib.hid rfl
    have HMN : Hid (min (n / 40) 2 = oFirst n) := Lib.hid (by unfold oFirst; split <;> omega)
    have HL2 : Hid ((oArcs [] n).length = 2) := Lib.hid rfl
    rw [HL2.out, HF.out]
    rw [← HMN.out] at *
    clear HF HMN
    go_enter Try.func23, Try.ntmps23
    go_wp2_with (at_builtin; refine wpList_append_u64 rfl (.tmp 16) (.tmp 22) rfl (l := []) (g := g) rfl (HS.out.alloc _) (some ⟨w.heap.size, 0, none⟩) 2 2 [min (n / 40) 2, n - 40 * min (n / 40) 2] rfl rfl (Came.sl (sl_new_u64 w [min (n / 40) 2, n - 40 * min (n / 40) 2] (by simp [maxLen]))) (by simp) ?_)
    all_goals
      intro v' w' g' hs1 hg1 hgr1
      obtain ⟨c', rfl, _, _⟩ := hs1.open (n := 2) (by rw [ivs_length]; simp)
      have hg2 : g' = g ∨ w.heap.size ≤ g' := by rcases hg1 with h | h <;> first | omega | (simp at h; omega)
      have HS1 := Lib.hid hs1
      have HG1 := Lib.hid (grown_trans (grown_alloc (grown_refl w g) _) hgr1)
      clear hs1 hg1 hgr1 HS
      go_wp2
      go_returns
      exact ⟨g', c', rfl, HS1.out, hg2, HG1.out⟩
  · have HF : Hid (oArcs A n = A ++ [n]) := Lib.hid (if_neg h0)
    have hl0 : (0 : Int) < (A.length : Int) := by have := List.length_pos_iff.2 h0; omega
    have HLF : Hid ((oArcs A n).length = A.length + 1) := Lib.hid (by rw [HF.out]; simp)
    rw [HLF.out]
    go_enter Try.func23, Try.ntmps23
    go_wp2_with (at_builtin; refine wpList_append_u64 rfl (.tmp 9) (.tmp 11) rfl (l := A) (g := g) rfl (HS.out.alloc _) (some ⟨w.heap.size, 0, none⟩) 1 1 [n] rfl rfl (Came.sl (sl_new_u64 w [n] (by simp [maxLen]))) (by simp; omega) ?_)
    intro v' w' g' hs1 hg1 hgr1
    obtain ⟨c', rfl, _, _⟩ := hs1.open (n := A.length + 1) (by rw [ivs_length]; simp)
    have hg2 : g' = g ∨ w.heap.size ≤ g' := by rcases hg1 with h | h <;> first | omega | (simp at h; omega)
    rw [← HF.out] at hs1
    have HS1 := Lib.hid hs1
    have HG1 := Lib.hid (grown_trans (grown_alloc (grown_refl w g) _) hgr1)
    clear hs1 hg1 hgr1 HS
    go_wp2
    go_returns
    exact ⟨g', c', rfl, HS1.out, hg2, HG1.out⟩
theorem oRight_get {b : ByteArray} (h : oRight b = true) : oGet (bl b) = (oN 0 (bl b)).map oTwo := by
  unfold oGet; rw [bl_length, if_pos (of_decide_eq_true h)]
theorem oRight_no {b : ByteArray} (h : oRight b = false) : oGet (bl b) = none := by
  unfold oGet; rw [bl_length, if_neg (of_decide_eq_false h)]
/-- Room for numbers, none of which is there yet. -/
theorem made_u64 (n : Nat) (hn : n ≤ 10000000) (w : World) : ∃ C : Array Value, C.size = n ∧
    (Instr.makeSlice 30 (.int .i64 0) (.int .i64 (n : Int))).run Try.prog w = .ok (.slice (some ⟨w.heap.size, 0, none⟩) 0 n) (w.alloc (.cells C 40)) ∧
    Sl (w.alloc (.cells C 40)) 40 (.slice (some ⟨w.heap.size, 0, none⟩) 0 n) (ivs .u64 []) w.heap.size := by
  obtain ⟨i0, hi, hz0, hz1, hz2⟩ := info_parts infoU64
  refine ⟨madeCells #[.int .u64 0] n, size_madeCells _ _, ?_, ⟨(madeCells #[.int .u64 0] n).toList, ?_, ?_, ?_⟩⟩
  · have hr := run_make (P := Try.prog) w 30 40 i0 (.int .u64 0) Try.underlying30 hi hz0 .i64 .i64 0 n (Int.le_refl _) (by omega) (by rw [hz2]; omega) (by omega)
    simp only [Int.toNat_natCast, Int.toNat_zero, hz1, Nat.mul_one] at hr
    exact hr
  · simp [ivs, size_madeCells]
  · simp [ivs, size_madeCells]; unfold maxLen; omega
  · simpa [ivs] using Row.new w 40 (madeCells #[.int .u64 0] n).toList
theorem oTwo_len (q : List Int) : (oTwo q).length ≤ q.length + 1 := by cases q <;> simp [oTwo]
set_option maxRecDepth 100000 in
set_option maxHeartbeats 1600000 in
theorem oidGet_any (b : ByteArray) (hb : b.size ≤ 1000000) (w : World) :
    Calls Try.prog 15 #[.string b] w fun e w' => ∃ o c, e = .returned (.tuple #[.slice o (ogL b).length c, .bool (ogB b)]) ∧ Came w' o (ivs .u64 (ogL b)) ∧ (ogL b).length ≤ c ∧ c ≤ maxLen ∧ Below w.heap.size w w' := by
  have hbm : b.size ≤ maxLen := by unfold maxLen; omega
  have HR := Lib.hid (isRight_any b hbm)
  by_cases hr : oRight b = true
  · have HC := Lib.hid (oidCount_any b hbm)
    have hcl := oEnds_le (bl b)
    rw [bl_length] at hcl
    generalize oEnds (bl b) = N at *
    have HGB := Lib.hid (get_bt b)
    have HX0 := Lib.hid (bt_nonneg b)
    have HX1 := Lib.hid (bt_le b)
    have HD := Lib.hid (bl_drop b)
    have HDE := Lib.hid (bl_drop_end b)
    have hg := oRight_get hr
    obtain ⟨R, hR⟩ : ∃ R, (oN 0 (bl b)).map oTwo = R := ⟨_, rfl⟩
    have HL : Hid (ogL b = R.getD []) := Lib.hid (by unfold ogL; rw [hg, hR])
    have HB : Hid (ogB b = R.isSome) := Lib.hid (by unfold ogB; rw [hg, hR])
    have HR0 := Lib.hid hR
    have hbi : (b.size : Int) ≤ 1000000 := by omega
    rw [hr] at HR
    generalize ogL b = L at *
    generalize ogB b = OK at *
    clear hg hR hr hbm
    go_enter Try.func15, Try.ntmps15
    go_wp2_with fail
    refine (HR.out _).mono ?_
    rintro e w1 ⟨rfl, hB1⟩
    go_wp2_with fail
    refine (HC.out _).mono ?_
    rintro e w2 ⟨rfl, rfl⟩
    obtain ⟨C, hC, hmk, hS0⟩ := made_u64 (1 + N) (by omega) w2
    rw [show ((1 + N : Nat) : Int) = 1 + (N : Int) by omega] at hmk
    have HS0 := Lib.hid hS0
    clear hS0 hC
    go_wp2
    clear hmk HC HR
    go_loopw [4, 5, 17] (fun sv nv iv wr => ∃ (i g c : Nat) (n : Int) (Q : List Int), sv = .slice (some ⟨g, 0, none⟩) (oTwo Q).length c ∧ nv = .int .u64 n ∧ iv = .int .i64 (i : Int) ∧ i ≤ b.size ∧ (oTwo Q).length ≤ i + 1 ∧ (0 ≤ n ∧ n ≤ 18446744073709551615) ∧ Hid ((oN n ((bl b).drop i)).map (fun q => oTwo (Q ++ q)) = R) ∧ w.heap.size ≤ g ∧ Hid (Sl wr 40 (.slice (some ⟨g, 0, none⟩) (oTwo Q).length c) (ivs .u64 (oTwo Q)) g) ∧ Hid (Below w.heap.size w wr)) (fun _ _ iv _ => b.size - (intOf iv).toNat)
    case atStart => exact ⟨0, w2.heap.size, 1 + N, 0, [], rfl, rfl, rfl, by omega, by simp [oTwo], by omega, HR0, hB1.size, HS0, Lib.hid (hB1.alloc hB1.size _)⟩
    case round =>
      obtain ⟨i, g, c, n, Q, rfl, rfl, rfl, hi, hQ, ⟨n0, n1⟩, HM, hg, HS, HBl⟩ := hrel
      by_cases hlt : i < b.size
      · have hM2 := HM.out
        rw [HD.out i hlt, oN_cons] at hM2
        have hbt := HGB.out i hlt
        have hx0 := HX0.out i
        have hx1 := HX1.out i
        have hlti : (i : Int) < (b.size : Int) := by omega
        obtain ⟨x, hx⟩ : ∃ x, bt b i = x := ⟨_, rfl⟩
        rw [hx] at hM2 hbt hx0 hx1
        clear hx HM
        by_cases hbig : 144115188075855871 < n
        · rw [if_pos hbig] at hM2
          have HF : Hid (L = [] ∧ OK = false) := Lib.hid (by rw [HL.out, HB.out, ← hM2]; exact ⟨rfl, rfl⟩)
          clear hM2
          go_wp2
          go_returns
          refine ⟨none, 0, ?_⟩
          rw [HF.out.1, HF.out.2]
          exact ⟨rfl, Came.nil _ _, Nat.zero_le _, Nat.zero_le _, HBl.out⟩
        · rw [if_neg hbig] at hM2
          have ha := and8_127 x hx0 hx1
          have hor : bits .or .u64 (n * 128) (x % 128) = 128 * n + x % 128 := by
            have := or64_add n (x % 128) 7 n0 (by omega) (by omega) (by omega)
            rw [show n * 2 ^ 7 = n * 128 by omega] at this
            rw [this]; omega
          have hq0 : 0 ≤ 128 * n + x % 128 := by omega
          have hq1 : 128 * n + x % 128 ≤ 18446744073709551615 := by omega
          by_cases hlo : x < 128
          · rw [if_pos hlo] at hM2
            have HM3 := Lib.hid (show (oN 0 ((bl b).drop (i + 1))).map (fun q => oTwo ((Q ++ [128 * n + x % 128]) ++ q)) = R by
              rw [← hM2, Option.map_map]
              congr 1
              funext q
              simp)
            have HA := Lib.hid (fun W hs => oidArcs_any (oTwo Q) (128 * n + x % 128) g c ⟨hq0, hq1⟩ (by omega) W hs)
            rw [oArcs_two] at HA
            have HQ2 := Lib.hid (show (oTwo (Q ++ [128 * n + x % 128])).length ≤ i + 1 + 1 by
              rw [← oArcs_two]; unfold oArcs
              split
              · simp
              · simp; exact hQ)
            clear hM2
            go_wp2_with fail
            refine (HA.out _ HS.out).mono ?_
            rintro e w3 ⟨g3, c3, rfl, hs3, hg3, hgr3⟩
            have HS3 := Lib.hid hs3
            have HB3 := Lib.hid (HBl.out.grown hgr3 HBl.out.size (by intro k hk; cases hk; exact hg))
            have hg4 : w.heap.size ≤ g3 := by
              have := HBl.out.size
              rcases hg3 with h | h <;> omega
            clear hs3 hgr3 HS HBl HA hg3
            go_wp2
            go_roundw
            case rel => exact ⟨i + 1, g3, c3, 0, Q ++ [128 * n + x % 128], rfl, rfl, by simp, by omega, HQ2.out, by omega, HM3, hg4, HS3, HB3⟩
            case measure => simp [intOf]; omega
          · rw [if_neg hlo] at hM2
            have HM3 := Lib.hid hM2
            clear hM2
            go_wp2
            go_roundw
            case rel => exact ⟨i + 1, g, c, 128 * n + x % 128, Q, rfl, rfl, by simp, by omega, by omega, ⟨hq0, hq1⟩, HM3, hg, HS, HBl⟩
            case measure => simp [intOf]; omega
      · have hne : ¬ (i : Int) < (b.size : Int) := by omega
        have hM2 := HM.out
        rw [HDE.out i (by omega)] at hM2
        have hl1 : L = oTwo Q := by rw [HL.out, ← hM2]; simp [oN]
        have HF : Hid (OK = true) := Lib.hid (by rw [HB.out, ← hM2]; simp [oN])
        have HC := Lib.hid (Came.sl HS.out)
        have HOP := Lib.hid (HS.out.open (n := (oTwo Q).length) (by rw [ivs_length]))
        have HLL := Lib.hid hl1
        clear hM2 HM HS hl1
        go_wp2
        go_returns
        rw [HLL.out, HF.out]
        obtain ⟨c', hc', h1, h2⟩ := HOP.out
        cases hc'
        exact ⟨_, c, rfl, HC.out, h1, h2, HBl.out⟩
  · have hno : oRight b = false := by simpa using hr
    have hg := oRight_no hno
    have e1 : ogL b = [] := by unfold ogL; rw [hg]; rfl
    have e2 : ogB b = false := by unfold ogB; rw [hg]; rfl
    rw [e1, e2]
    rw [hno] at HR
    clear hr hno hg e1 e2
    go_enter Try.func15, Try.ntmps15
    go_wp2_with fail
    refine (HR.out _).mono ?_
    rintro e w1 ⟨rfl, hB1⟩
    go_wp2
    go_returns
    exact ⟨none, 0, rfl, Came.nil _ _, Nat.zero_le _, Nat.zero_le _, hB1⟩
end Go.Proofs.Ytjdkpdaekmogkaa
