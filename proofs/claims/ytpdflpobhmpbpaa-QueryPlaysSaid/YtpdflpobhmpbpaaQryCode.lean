/- Package query's calls are what the laws need: New and Answers; together with Begin, Push and Date. -/
import Derived.Test.YtpdflpobhmpbpaaQryDate
import Derived.Test.YtpdflpobhmpbpaaRefQry
import Derived.Lib.SliceRun
namespace Go.Proofs.Ytpdflpobhmpbpaa
open Go.RowKit Go.PlainAid
set_option linter.unusedVariables false
theorem infoSer : (Try.prog.info? 51).map (fun i => (i.zero, i.size, i.bytes)) = some (some (.agg (seC []).toArray), 21, 32) := by kernel_rfl
/-- make: so many serial numbers. -/
theorem made_ser (n : Nat) (hn : n ≤ 1000000) : ∃ C : Array Value, C.size = n * 21 ∧ ∀ w : World, (Instr.makeSlice 48 (.int .i64 (n : Int)) (.int .i64 (n : Int))).run Try.prog w = .ok (.slice (some ⟨w.heap.size, 0, none⟩) n n) (w.alloc (.cells C 51)) := by
  obtain ⟨i0, hi, hz0, hz1, hz2⟩ := info_parts infoSer
  refine ⟨madeCells (Value.agg (seC []).toArray).cells (n * 21), size_madeCells _ _, fun w => ?_⟩
  have hr := run_make (P := Try.prog) w 48 51 i0 _ Try.underlying48 hi hz0 .i64 .i64 n n (by omega) (Int.le_refl _) (by rw [hz2]; omega) (by omega)
  simp only [Int.toNat_natCast, hz1] at hr
  exact hr
theorem made_ans_row (n : Nat) (hn : n ≤ 1000000) : ∃ C : List Value, C = avs (List.replicate n (false, ⟨#[]⟩)) ∧ ∀ w : World, (Instr.makeSlice 31 (.int .i64 (n : Int)) (.int .i64 (n : Int))).run Try.prog w = .ok (.slice (some ⟨w.heap.size, 0, none⟩) n n) (w.alloc (.cells C.toArray 43)) := by
  obtain ⟨i0, hi, hz0, hz1, hz2⟩ := info_parts infoAns
  refine ⟨(madeCells #[.bool false, .string ⟨#[]⟩] (n * 2)).toList, made_cells2 n, fun w => ?_⟩
  have hr := run_make (P := Try.prog) w 31 43 i0 _ Try.underlying31 hi hz0 .i64 .i64 n n (by omega) (Int.le_refl _) (by rw [hz2]; omega) (by omega)
  simp only [Int.toNat_natCast, hz1] at hr
  rw [Array.toArray_toList]
  exact hr
set_option maxRecDepth 100000 in
set_option maxHeartbeats 8000000 in
theorem qat_new (w : World) (ox : Option Addr) (c : Nat) (l : List ByteArray) (hC : Came w ox (svs l)) (hlc : l.length ≤ c) (hc : c ≤ maxLen) (hs : serAll l = true) :
    Calls Try.prog 10 #[.slice ox l.length c] w fun e w' => ∃ k F, e = .returned (.tuple #[.pointer (some ⟨k, 0, none⟩), .int .i64 0]) ∧ (∀ i, F i → w.heap.size ≤ i) ∧ QAt w' k F l QS.zero ∧ Below w.heap.size w w' := by
  have hlen : l.length ≤ 64 := serAll_len hs
  have hl' : ¬ (64 : Int) < (l.length : Int) := by omega
  have HC := Lib.hid hC
  have HSM := Lib.hid (serAll_mem hs)
  have HS := Lib.hid hs
  obtain ⟨Z, hZl, hZ⟩ := made_ser l.length (by omega)
  obtain ⟨V, hV, hVr⟩ := made_ans_row l.length (by omega)
  have HV := Lib.hid hV
  have HZl := Lib.hid hZl
  clear hC hs hV hZl hlc hc
  go_enter Try.func10, Try.ntmps10
  go_wp2_with fail
  go_loopg [15] l.length (fun gk iv wr => ∃ i : Nat, iv = .int .i64 (i : Int) ∧ i ≤ l.length ∧ l.length - i ≤ gk ∧ Hid (∃ L, L.length = (l.length - i) * 21 ∧ Row wr w.heap.size 51 (askC (l.take i) ++ L)) ∧ Hid (Below w.heap.size w wr))
  case atStart => exact ⟨0, rfl, by omega, by omega, Lib.hid ⟨Z.toList, by rw [Array.length_toList, HZl.out]; simp, by have := Row.new w 51 Z.toList; rwa [Array.toArray_toList] at this⟩, Lib.hid ((Below.refl _ _).alloc (Nat.le_refl _) _)⟩
  case round =>
    obtain ⟨i, rfl, hi, hgk, HR, HB⟩ := hrel
    by_cases hlt : i < l.length
    · have hlt2 : (i : Int) < (l.length : Int) := by omega
      obtain ⟨ad, rfl, _, hcell⟩ := came_str (HC.out.below HB.out) hlt
      have hser := HSM.out _ (List.getElem_mem hlt)
      have hsz := (serR_len hser).2
      have HI := Lib.hid (fun X => isSerial_any l[i] (by unfold maxLen; omega) X)
      have HO := Lib.hid (fun X => serialOf_any l[i] hsz X)
      rw [hser] at HI
      have HT := Lib.hid (askC_take l hlt)
      have HCL : Hid ((seC (bl l[i])).length = 21) := Lib.hid (seC_length _)
      have HO1 : Hid (∀ u ∈ seC (bl l[i]), u.oneCell' = true) := Lib.hid (se_one _ _)
      clear hser hsz
      generalize l[i] = x at *
      generalize seC (bl x) = C at *
      go_wp2_with fail
      refine (HI.out _).mono ?_
      rintro e w1 ⟨rfl, hb1⟩
      go_wp2_with fail
      refine (HO.out _).mono ?_
      rintro e w2 ⟨rfl, hb2⟩
      have hB2 : Below w.heap.size w w2 := HB.out.trans ((hb1.mono HB.out.size).trans (hb2.mono (Nat.le_trans HB.out.size hb1.size)))
      obtain ⟨L, hL, hr⟩ := HR.out
      have hr2 : Row w2 w.heap.size 51 (askC (l.take i) ++ L) := (hr.below hb1 hr.lt).below hb2 (Nat.lt_of_lt_of_le hr.lt hb1.size)
      have hpl : (askC (l.take i)).length = i * 21 := by rw [askC_length, List.length_take]; congr 1; omega
      have hL21 : 21 ≤ L.length := by rw [hL]; omega
      have hR3 : Row (w2.setCells w.heap.size (i * 21) C) w.heap.size 51 (askC (l.take (i + 1)) ++ L.drop 21) := by
        have h := Row.setMany C (i * 21) hr2 (by rw [List.length_append, hpl, HCL.out]; omega)
        rw [← hpl, List.take_left, HCL.out, ← List.drop_drop, List.drop_left] at h
        rw [HT.out, ← hpl]
        exact h
      have HR3 := Lib.hid hR3
      have HB3 : Hid (Below w.heap.size w (w2.setCells w.heap.size (i * 21) C)) := Lib.hid (below_setCells _ _ hB2 (Nat.le_refl _))
      have HTh : Hid (World.there w2 w.heap.size (i * 21) C.toArray.size) := Lib.hid (hr2.there (by rw [List.size_toArray, HCL.out, List.length_append, hpl]; omega))
      have HI2 : Hid ((Try.prog.info? 51).map (·.size) = some C.toArray.size) := Lib.hid (by rw [List.size_toArray, HCL.out]; exact infoSerial)
      have HL : Hid ((L.drop 21).length = (l.length - (i + 1)) * 21) := Lib.hid (by rw [List.length_drop, hL]; omega)
      clear hR3 hr2 hr hL hL21 hpl hB2 hb1 hb2 HR HI HO HCL HT HC
      go_wp2_with (refine wpList_store_mid rfl 51 (.tmp 27) (.tmp 26) rfl w.heap.size (i * 21) C.toArray rfl rfl HTh.out HI2.out (all_oneCell_toArray HO1.out) ?_)
      go_roundg (l.length - (i + 1))
      case measure => omega
      case rel => exact ⟨i + 1, by simp, by omega, by omega, Lib.hid ⟨_, HL.out, HR3.out⟩, HB3⟩
    · have hlt2 : ¬ (i : Int) < (l.length : Int) := by omega
      obtain rfl : i = l.length := by omega
      obtain ⟨L, hL, hr⟩ := HR.out
      obtain rfl : L = [] := List.eq_nil_of_length_eq_zero (by rw [hL]; simp)
      rw [List.take_of_length_le (Nat.le_refl _), List.append_nil] at hr
      have HF : Hid (∀ X, X = (wr.alloc (.cells V.toArray 43)).alloc (.cells (kC w.heap.size wr.heap.size l.length (cC QS.zero)).toArray 54) → (∀ i, (i = wr.heap.size + 1 ∨ i = w.heap.size ∨ i = wr.heap.size) → w.heap.size ≤ i) ∧ QAt X (wr.heap.size + 1) (fun i => i = wr.heap.size + 1 ∨ i = w.heap.size ∨ i = wr.heap.size) l QS.zero ∧ Below w.heap.size w X) := Lib.hid (by
        rintro _ rfl
        have hws := hr.lt
        have hwb := HB.out.size
        refine ⟨fun i hi => by omega, ⟨w.heap.size, wr.heap.size, ?_, (hr.alloc _).alloc _, ?_, HS.out, by omega, fun i => Iff.rfl⟩, (HB.out.alloc HB.out.size _).alloc (by simp; omega) _⟩
        · exact row_new2 wr _ _ _
        · rw [QS.zero_found, ← HV.out]
          exact (Row.new wr 43 V).alloc _)
      clear hr hL HR HC HSM HS HV HZl hZ
      go_wp2_with fail
      go_returns
      have HQ := Lib.hid (HF.out _ rfl)
      exact ⟨wr.heap.size + 1, rfl, _, HQ.out.1, HQ.out.2.1, HQ.out.2.2⟩
set_option maxRecDepth 100000 in
set_option maxHeartbeats 4000000 in
theorem cloneA_any (g : Nat) (L : List QAns) (hn : L.length ≤ 1000000) (w : World) (h : Row w g 43 (avs L)) :
    Calls Try.prog 22 #[.slice (some ⟨g, 0, none⟩) L.length L.length] w fun e w' => ∃ v, e = .returned v ∧ Ans w' w.heap.size v L ∧ Below w.heap.size w w' := by
  have HEm : Hid (Ans (w.alloc (.cells #[] 43)) w.heap.size (.slice (some ⟨w.heap.size, 0, none⟩) 0 0) []) := Lib.hid (Ans.made (Row.new w _ []) (Nat.le_refl _))
  have HC := Lib.hid (row_cells18 (h.alloc (.cells #[] 43)))
  have hl9 : ([] : List QAns).length + L.length ≤ 1000000000 := by rw [List.length_nil]; omega
  have hE := Lib.run_eql_slice_nil (P := Try.prog) w 31 43 (some ⟨g, 0, none⟩) L.length L.length 0 0 Try.underlying31
  have hsz : w.heap.size ≤ (w.alloc (.cells #[] 43)).heap.size := by simp
  clear h
  go_enter Try.func22, Try.ntmps22
  go_wp2_with (at_builtin; refine wpList_append_ans rfl (.tmp 5) (.tmp 6) rfl w.heap.size rfl HEm.out hsz ⟨g, 0, none⟩ L.length L.length L rfl rfl HC.out hl9 ?_)
  intro v3 w3 hs3 hgr3 _
  have hs3 : Ans w3 w.heap.size v3 L := hs3
  have hB3 : Below w.heap.size w w3 := HEm.out.grown ((Below.refl _ _).alloc (Nat.le_refl _) _) hsz hgr3
  have HD := Lib.hid (And.intro hs3 hB3)
  clear hs3 hB3 hgr3 HEm HC
  go_wp2
  go_returns
  exact ⟨_, rfl, HD.out.1, HD.out.2⟩
set_option maxRecDepth 100000 in
set_option maxHeartbeats 4000000 in
theorem qat_answers {w : World} {k : Nat} {F : Nat → Prop} {l : List ByteArray} {q : QS} (h : QAt w k F l q) :
    Calls Try.prog 13 #[.pointer (some ⟨k, 0, none⟩)] w fun r w' => ∃ v, r = .returned v ∧ Ans w' w.heap.size v (q.found l) ∧ Below w.heap.size w w' := by
  obtain ⟨ga, gv, h1, h2, h3, hs, hn, h4⟩ := h
  have hlen : l.length ≤ 64 := serAll_len hs
  have q1 : w.cell? ⟨k, 1, none⟩ = some (.slice (some ⟨gv, 0, none⟩) l.length l.length) := h1.cell 1
  have HC := cloneA_any gv (q.found l) (by rw [QS.found_len]; omega) w h3
  rw [QS.found_len] at HC
  generalize q.found l = R at *
  have HC := Lib.hid HC
  clear h1 h2 h3 hs hn h4
  go_enter Try.func13, Try.ntmps13
  go_wp2_with fail
  refine HC.out.mono ?_
  rintro e w1 ⟨v, rfl, p1, p2⟩
  have HD := Lib.hid (And.intro p1 p2)
  clear p1 p2 HC
  go_wp2
  go_returns
  exact ⟨_, rfl, HD.out.1, HD.out.2⟩
set_option maxRecDepth 100000 in
set_option maxHeartbeats 8000000 in
theorem qat_bad (w : World) (ox : Option Addr) (c : Nat) (l : List ByteArray) (hC : Came w ox (svs l)) (hlc : l.length ≤ c) (hc : c ≤ maxLen) (hl : l.length ≤ 1000000) (hx : ∀ x ∈ l, x.size ≤ maxLen) (hs : serAll l = false) :
    Calls Try.prog 10 #[.slice ox l.length c] w fun e w' => e = .returned (.tuple #[.pointer none, .int .i64 15]) ∧ Below w.heap.size w w' := by
  by_cases hlen : 64 < l.length
  · have hl2 : (64 : Int) < (l.length : Int) := by omega
    clear hC hs hx hlc hc hl hlen
    go_enter Try.func10, Try.ntmps10
    go_wp2
    go_returns
    exact ⟨rfl, Below.refl _ _⟩
  · have hl' : ¬ (64 : Int) < (l.length : Int) := by omega
    have hex : ∃ j, ∃ h : j < l.length, serR l[j] = false ∧ ∀ i (h : i < j), serR (l[i]'(by omega)) = true := by
      have h0 : l.all serR = false := by
        unfold serAll at hs
        rwa [decide_eq_true (by omega : l.length ≤ 64), Bool.and_true] at hs
      clear hs hC hlc hc hl hx hlen hl'
      induction l with
      | nil => simp at h0
      | cons x r ih =>
        cases hxr : serR x with
        | false => exact ⟨0, by simp, hxr, fun i h => by omega⟩
        | true =>
          rw [List.all_cons, hxr, Bool.true_and] at h0
          obtain ⟨j, hj, h1, h2⟩ := ih h0
          refine ⟨j + 1, by simpa using hj, h1, fun i hi => ?_⟩
          cases i with
          | zero => exact hxr
          | succ i => exact h2 i (by omega)
    obtain ⟨j, hj, hbad, hgood⟩ := hex
    have HC := Lib.hid hC
    have HX := Lib.hid hx
    have HG := Lib.hid hgood
    obtain ⟨Z, hZl, hZ⟩ := made_ser l.length (by omega)
    have HZl := Lib.hid hZl
    have HBad := Lib.hid hbad
    clear hC hs hlc hc hx hgood hZl hbad hl
    go_enter Try.func10, Try.ntmps10
    go_wp2_with fail
    go_loopg [15] l.length (fun gk iv wr => ∃ i : Nat, iv = .int .i64 (i : Int) ∧ i ≤ j ∧ l.length - i ≤ gk ∧ Hid (∃ L, L.length = l.length * 21 ∧ Row wr w.heap.size 51 L) ∧ Hid (Below w.heap.size w wr))
    case atStart => exact ⟨0, rfl, by omega, by omega, Lib.hid ⟨Z.toList, by rw [Array.length_toList, HZl.out], by have := Row.new w 51 Z.toList; rwa [Array.toArray_toList] at this⟩, Lib.hid ((Below.refl _ _).alloc (Nat.le_refl _) _)⟩
    case round =>
      obtain ⟨i, rfl, hi, hgk, HR, HB⟩ := hrel
      have hlt : i < l.length := by omega
      have hlt2 : (i : Int) < (l.length : Int) := by omega
      obtain ⟨ad, rfl, _, hcell⟩ := came_str (HC.out.below HB.out) hlt
      have HI := Lib.hid (fun X => isSerial_any l[i] (HX.out _ (List.getElem_mem hlt)) X)
      by_cases hij : i = j
      · subst hij
        rw [HBad.out] at HI
        clear HBad HG HX HC
        generalize l[i] = x at *
        go_wp2_with fail
        refine (HI.out _).mono ?_
        rintro e w1 ⟨rfl, hb1⟩
        have HB1 := Lib.hid (HB.out.trans (hb1.mono HB.out.size))
        clear hb1 HB HR HI
        go_wp2
        go_returns
        exact ⟨rfl, HB1.out⟩
      · have hser := HG.out i (by omega)
        have hsz := (serR_len hser).2
        have HO := Lib.hid (fun X => serialOf_any l[i] hsz X)
        rw [hser] at HI
        have HCL : Hid ((seC (bl l[i])).length = 21) := Lib.hid (seC_length _)
        have HO1 : Hid (∀ u ∈ seC (bl l[i]), u.oneCell' = true) := Lib.hid (se_one _ _)
        clear hser hsz
        generalize l[i] = x at *
        generalize seC (bl x) = C at *
        go_wp2_with fail
        refine (HI.out _).mono ?_
        rintro e w1 ⟨rfl, hb1⟩
        go_wp2_with fail
        refine (HO.out _).mono ?_
        rintro e w2 ⟨rfl, hb2⟩
        have hB2 : Below w.heap.size w w2 := HB.out.trans ((hb1.mono HB.out.size).trans (hb2.mono (Nat.le_trans HB.out.size hb1.size)))
        obtain ⟨L, hL, hr⟩ := HR.out
        have hr2 : Row w2 w.heap.size 51 L := (hr.below hb1 hr.lt).below hb2 (Nat.lt_of_lt_of_le hr.lt hb1.size)
        have HR3 := Lib.hid (Row.setMany C (i * 21) hr2 (by rw [hL, HCL.out]; omega))
        have HB3 : Hid (Below w.heap.size w (w2.setCells w.heap.size (i * 21) C)) := Lib.hid (below_setCells _ _ hB2 (Nat.le_refl _))
        have HTh : Hid (World.there w2 w.heap.size (i * 21) C.toArray.size) := Lib.hid (hr2.there (by rw [List.size_toArray, HCL.out, hL]; omega))
        have HI2 : Hid ((Try.prog.info? 51).map (·.size) = some C.toArray.size) := Lib.hid (by rw [List.size_toArray, HCL.out]; exact infoSerial)
        have HL : Hid ((L.take (i * 21) ++ C ++ L.drop (i * 21 + C.length)).length = l.length * 21) := Lib.hid (by rw [List.length_append, List.length_append, List.length_take, List.length_drop, HCL.out, hL]; omega)
        clear hr2 hr hL hB2 hb1 hb2 HR HI HO HCL HC
        go_wp2_with (refine wpList_store_mid rfl 51 (.tmp 27) (.tmp 26) rfl w.heap.size (i * 21) C.toArray rfl rfl HTh.out HI2.out (all_oneCell_toArray HO1.out) ?_)
        go_roundg (l.length - (i + 1))
        case measure => omega
        case rel => exact ⟨i + 1, by simp, by omega, by omega, Lib.hid ⟨_, HL.out, HR3.out⟩, HB3⟩
theorem qrySpec : QrySpec QAt := ⟨qat_lt, qat_aside, qat_new, qat_bad, fun h => qat_begin h, fun b h _ _ _ => qat_push b h, fun d h ho => qat_date d h ho, fun h => qat_answers h⟩
end Go.Proofs.Ytpdflpobhmpbpaa
