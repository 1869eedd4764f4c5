/- Package query's Date: which queries are answered. -/
import Derived.Test.YtpdflpobhmpbpaaQryAt
import Derived.Test.YtpdflpobhmpbpaaQryEq
import Derived.Deep.QuietTactic
import Derived.BigQuiet
namespace Go.Proofs.Ytpdflpobhmpbpaa
open Go.RowKit Go.PlainAid
set_option linter.unusedVariables false
theorem avs_split (L : List QAns) {i : Nat} (h : i < L.length) : avs L = avs (L.take i) ++ (avC L[i] ++ avs (L.drop (i + 1))) := by
  have e : L = L.take i ++ (L[i] :: L.drop (i + 1)) := by rw [← List.drop_eq_getElem_cons h, List.take_append_drop]
  conv => lhs; rw [e]
  rw [avs_append]
  rfl
theorem drawn_below2 (w : World) (n : Nat) : Below w.heap.size w (w.drewN n) := ⟨rfl, rfl, rfl, Nat.le_refl _, fun _ _ => rfl⟩
/-- A load of a struct or an array, in a region that only reads. -/
theorem quiet_load_mid {P : Program} {op : Oper} {a : Act} {w : World} {K : Act → Prop} (ty : TypeId) (x : Operand) (ho : op.op = .load ty x)
    (b o : Nat) (hx : a.eval x = .pointer (some ⟨b, o, none⟩)) (cs : List Value)
    (hl : ∀ n, (loadVar ty ⟨b, o, none⟩).run P (w.drewN n) = .ok (.agg cs.toArray) (w.drewN n))
    (h : K (a.put op.dst (.agg cs.toArray))) : op.quiet P a (fun w' => ∃ n, w' = w.drewN n) K := by
  refine ⟨.agg cs.toArray, ?_, h⟩
  rintro _ ⟨n, rfl⟩
  unfold Oper.quietAt execOp
  simp only [ho, hx, Instr.loadAt, Instr.sureAddr, Sem.run_bind, Sem.run_pure, Result.andThen_ok, hl n]
  exact ⟨rfl, rfl⟩
/-- Two structs compared, in a region that only reads. -/
theorem quiet_eql {P : Program} {op : Oper} {a : Act} {w : World} {K : Act → Prop} (t tr : TypeId) (x y : Operand) (ho : op.op = .binOp .eql t x y tr)
    (xs ys : Array Value) (hx : a.eval x = .agg xs) (hy : a.eval y = .agg ys) (hm : P.eqGuardType P.depth t = false) (r : Bool)
    (hl : ∀ n, (binOp .eql t (.agg xs) (.agg ys)).run P (w.drewN n) = .ok (.bool r) (w.drewN n))
    (h : K (a.put op.dst (.bool r))) : op.quiet P a (fun w' => ∃ n, w' = w.drewN n) K := by
  refine ⟨.bool r, ?_, h⟩
  rintro _ ⟨n, rfl⟩
  unfold Oper.quietAt execOp
  simp only [ho, hx, hy, Sem.run_bind, Result.andThen_ok, run_eqGuard_agg _ .eql t x y xs ys hm, hl n, Sem.run_pure]
  exact ⟨rfl, rfl⟩
/-- The walk of such a region, closed: nothing unfolds what is still to be walked. -/
structure QkH (P : Program) (ops : Array Oper) (C : World → Prop) (Q : Act → Prop) (l : List Oper) (a : Act) : Prop where
  out : wpQuiet P ops C Q l a
theorem qk_in {P : Program} {ops : Array Oper} {C : World → Prop} {Q : Act → Prop} {l : List Oper} {a : Act} (h : QkH P ops C Q l a) : wpQuiet P ops C Q l a := h.out
theorem qk_nil {P : Program} {ops : Array Oper} {C : World → Prop} {Q : Act → Prop} {a : Act} (h : Q a) : QkH P ops C Q [] a := ⟨wpQuiet_nil h⟩
theorem qk_step {P : Program} {ops : Array Oper} {C : World → Prop} {Q : Act → Prop} {rest : List Oper} {o : Oper} {a : Act}
    (h : ∀ K : Act → Prop, (∀ a, QkH P ops C Q rest a → K a) → if Region.wanted o (yielded ops a.tmps) then o.quiet P a C K else K (a.put o.dst undef)) : QkH P ops C Q (o :: rest) a :=
  ⟨wpQuiet_step fun K hK => h K fun a q => hK a q.out⟩
set_option maxRecDepth 100000 in
set_option maxHeartbeats 8000000 in
theorem qat_date0 {w : World} {k : Nat} {F : Nat → Prop} {l : List ByteArray} {q : QS} (d : ByteArray) (h : QAt w k F l q) (hOk : q.Ok) :
    Calls Try.prog 17 #[.pointer (some ⟨k, 0, none⟩), .string d] w fun r w' => r = .returned (.tuple #[]) ∧ QAt w' k F l (q.date d) ∧ Chg F w w' := by
  obtain ⟨ga, gv, h1, h2, h3, hs, hn, h4⟩ := h
  have hlen : l.length ≤ 64 := serAll_len hs
  obtain ⟨R, hR⟩ : ∃ R, q.found l = R := ⟨_, rfl⟩
  obtain ⟨D, hD⟩ : ∃ D, (q.date d).found l = D := ⟨_, rfl⟩
  rw [hR] at h3
  have hRl : R.length = l.length := by rw [← hR, QS.found_len]
  have hDl : D.length = l.length := by rw [← hD, QS.found_len]
  have HRD : Hid (∀ i (h : i < l.length), R[i]'(by omega) = q.ans l[i] ∧ D[i]'(by omega) = (if q.hits l[i] then (true, d) else q.ans l[i])) := Lib.hid (by
    intro i h; subst hR; subst hD; exact ⟨QS.found_at q h, QS.found_at (q.date d) h⟩)
  have HFin : Hid (∀ w', Row w' k 54 (kC ga gv l.length (cC q)) → Row w' ga 51 (askC l) → Row w' gv 43 (avs D) → QAt w' k F l (q.date d)) := Lib.hid (by
    intro w' p1 p2 p3
    exact ⟨ga, gv, p1, p2, by rw [hD]; exact p3, hs, hn, h4⟩)
  have HS := Lib.hid (serAll_mem hs)
  have hF1 : F gv := (h4 gv).2 (.inr (.inr rfl))
  have HC2 : Hid ((cC q).length = 21) := Lib.hid (cC_length q)
  obtain ⟨n1, n2, n3⟩ := hn
  clear hR hD hs h4
  have HSER : Hid (∀ (x : ByteArray), x.size ≤ 20 → ∀ X, (binOp .eql 51 (.agg (seC (bl x)).toArray) (.agg (cC q).toArray)).run Try.prog X = .ok (.bool (decide (q.begun = true ∧ bl x = q.came))) X) := Lib.hid (by
    intro x hx X
    have h := eql_serial (seB (bl x)) (cB q) (seN (bl x)) (cN q) (seB_isB (bl_isB _)) (cB_isB q hOk.isB) (seB_length _) (cB_length q) X
    have e : decide (seB (bl x) = cB q ∧ ((seN (bl x) : Nat) : Int) = ((cN q : Nat) : Int)) = decide (q.begun = true ∧ bl x = q.came) := by
      apply decide_eq_decide.2
      rw [← c_alike q hx, Int.ofNat_inj]
    rw [e] at h
    exact h)
  generalize cC q = CQ at *
  have q0 : w.cell? ⟨k, 0, none⟩ = some (.slice (some ⟨ga, 0, none⟩) l.length l.length) := h1.cell 0
  go_enter Try.func17, Try.ntmps17
  go_wp2_with fail
  go_loopg [11] l.length (fun gk iv wr => ∃ i : Nat, iv = .int .i64 (i : Int) ∧ i ≤ l.length ∧ l.length - i ≤ gk ∧ Hid (Row wr k 54 (kC ga gv l.length CQ)) ∧ Hid (Row wr ga 51 (askC l)) ∧ Hid (Row wr gv 43 (avs (D.take i ++ R.drop i))) ∧ Hid (Chg F w wr))
  case atStart => exact ⟨0, rfl, by omega, by omega, Lib.hid h1, Lib.hid h2, Lib.hid h3, Lib.hid ⟨rfl, rfl, rfl, Nat.le_refl _, fun _ _ _ => rfl⟩⟩
  case round =>
    clear h1 h2 h3 q0
    obtain ⟨i, rfl, hi, hgk, HK, HG, HV, HB⟩ := hrel
    by_cases hlt : i < l.length
    · have hlt2 : (i : Int) < (l.length : Int) := by omega
      have hkq := HK.out.lt
      have hgq := HG.out.lt
      have hvq := HV.out.lt
      have hx20 : (l[i]).size ≤ 20 := (serR_len (HS.out _ (List.getElem_mem hlt))).2
      have HE := Lib.hid (askC_split l hlt)
      have hpl : (askC (l.take i)).length = i * 21 := by rw [askC_length, List.length_take]; congr 1; omega
      obtain ⟨hRi, hDi⟩ := HRD.out i hlt
      have HRi := Lib.hid hRi
      have HDi := Lib.hid hDi
      have HTR : Hid (D.take i ++ R.drop i = D.take i ++ (R[i] :: R.drop (i + 1))) := Lib.hid (by rw [← List.drop_eq_getElem_cons (by omega)])
      have HTD : Hid (D.take (i + 1) ++ R.drop (i + 1) = D.take i ++ (D[i] :: R.drop (i + 1))) := Lib.hid (by rw [List.take_add_one, List.getElem?_eq_getElem (by omega), Option.toList_some, List.append_assoc]; rfl)
      have HRG : Hid (wr.rangeAt ga (i * 21) (seC (bl l[i]))) := Lib.hid (by
        have h := HG.out
        rw [HE.out] at h
        have := h.range (askC (l.take i)).length 21
        rwa [List.drop_left, ← seC_length (bl l[i]), List.take_left, hpl] at this)
      have hkl : ∀ X, Row X k 54 (kC ga gv l.length CQ) → ∀ n, (loadVar 51 ⟨k, 2, none⟩).run Try.prog (X.drewN n) = .ok (.agg CQ.toArray) (X.drewN n) := fun X h n =>
        se_load (pre := [.slice (some ⟨ga, 0, none⟩) l.length l.length, .slice (some ⟨gv, 0, none⟩) l.length l.length]) (C := CQ) (post := []) (W := X.drewN n) (g := k) (t := 54) (by rw [List.append_nil]; exact h) HC2.out
      have HKL := Lib.hid hkl
      have hr : ∃ r : Bool, r = decide (q.begun = true ∧ bl l[i] = q.came) := ⟨_, rfl⟩
      obtain ⟨r, hr⟩ := hr
      have HQ : Hid (∀ X, (binOp .eql 51 (.agg (seC (bl l[i])).toArray) (.agg CQ.toArray)).run Try.prog X = .ok (.bool r) X) := Lib.hid (by
        intro X; rw [hr]; exact HSER.out l[i] hx20 X)
      have HI : Hid ((Try.prog.info? 51).map (·.size) = some (seC (bl l[i])).length) := Lib.hid (by rw [seC_length]; exact infoSerial)
      have HI2 : Hid ((Try.prog.info? 51).map (·.size) = some (seC (bl l[i])).toArray.size) := Lib.hid (by rw [List.size_toArray, seC_length]; exact infoSerial)
      have HO1 : Hid (∀ u ∈ seC (bl l[i]), u.oneCell' = true) := Lib.hid (se_one _ _)
      have HCL : Hid ((seC (bl l[i])).length = 21) := Lib.hid (seC_length _)
      have HHit : Hid (q.hits l[i] = (r && !(q.ans l[i]).1)) := Lib.hid (by
        rw [hr]; unfold QS.hits
        cases q.begun <;> simp [Bool.and_comm])
      have HR := Lib.hid hr
      clear hRi hDi hkl hr HRD
      generalize seC (bl l[i]) = C at *
      have hZ : (#[Value.int IntKind.u8 0, Value.int IntKind.u8 0, Value.int IntKind.u8 0, Value.int IntKind.u8 0,
          Value.int IntKind.u8 0, Value.int IntKind.u8 0, Value.int IntKind.u8 0, Value.int IntKind.u8 0,
          Value.int IntKind.u8 0, Value.int IntKind.u8 0, Value.int IntKind.u8 0, Value.int IntKind.u8 0,
          Value.int IntKind.u8 0, Value.int IntKind.u8 0, Value.int IntKind.u8 0, Value.int IntKind.u8 0,
          Value.int IntKind.u8 0, Value.int IntKind.u8 0, Value.int IntKind.u8 0, Value.int IntKind.u8 0,
          Value.int IntKind.i64 0] : Array Value) = (seC []).toArray := rfl
      have HN := Lib.hid (Row.new wr 51 (seC []))
      have HT : Hid (World.there (wr.alloc (.cells (seC []).toArray 51)) wr.heap.size 0 C.toArray.size) := Lib.hid (HN.out.there (by rw [List.size_toArray, HCL.out]; simp [seC_length]))
      have HRN : Hid (Row ((wr.alloc (.cells (seC []).toArray 51)).setCells wr.heap.size 0 C) wr.heap.size 51 C) := Lib.hid (HN.out.setAll (by rw [HCL.out, seC_length]))
      have HK1 := Lib.hid ((HK.out.alloc (.cells (seC []).toArray 51)).farMany (g' := wr.heap.size) (by omega) 0 C)
      have HG1 := Lib.hid ((HG.out.alloc (.cells (seC []).toArray 51)).farMany (g' := wr.heap.size) (by omega) 0 C)
      have HV1 := Lib.hid ((HV.out.alloc (.cells (seC []).toArray 51)).farMany (g' := wr.heap.size) (by omega) 0 C)
      have HB1 : Hid (Chg F w ((wr.alloc (.cells (seC []).toArray 51)).setCells wr.heap.size 0 C)) := Lib.hid (HB.out.trans (Chg.of_below (F := F) (below_setCells _ _ ((Below.refl _ _).alloc (Nat.le_refl _) _) (Nat.le_refl _))) (fun i h => .inl h))
      go_wp2_with (first
        | refine wpList_load_mid rfl 51 (.tmp 14) rfl ga (i * 21) rfl C _ HRG.out Try.underlying51 rfl HI.out ?_
        | refine wpList_store_mid rfl 51 (.tmp 5) (.tmp 15) rfl wr.heap.size 0 C.toArray rfl rfl HT.out HI2.out (all_oneCell_toArray HO1.out) ?_)
      clear HN HT hZ
      generalize (wr.alloc (.cells (seC []).toArray 51)).setCells wr.heap.size 0 C = W at *
      have hL1 : ∀ n, (loadVar 51 ⟨wr.heap.size, 0, none⟩).run Try.prog (W.drewN n) = .ok (.agg C.toArray) (W.drewN n) := fun n =>
        se_load (pre := []) (C := C) (post := []) (W := W.drewN n) (g := wr.heap.size) (t := 51) (by rw [List.append_nil]; exact HRN.out) HCL.out
      have hL2 : ∀ n, (loadVar 51 ⟨k, 2, none⟩).run Try.prog (W.drewN n) = .ok (.agg CQ.toArray) (W.drewN n) := fun n => HKL.out W HK1.out n
      have HL1 := Lib.hid hL1
      have HL2 := Lib.hid hL2
      have heq : ∀ n, (binOp .eql 51 (.agg C.toArray) (.agg CQ.toArray)).run Try.prog (W.drewN n) = .ok (.bool r) (W.drewN n) := fun n => HQ.out _
      clear hL1 hL2 HQ HKL
      have k0 : W.cell? ⟨k, 0, none⟩ = some (.slice (some ⟨ga, 0, none⟩) l.length l.length) := HK1.out.cell 0
      have k1 : W.cell? ⟨k, 1, none⟩ = some (.slice (some ⟨gv, 0, none⟩) l.length l.length) := HK1.out.cell 1
      obtain ⟨av, hav⟩ : ∃ a : QAns, q.ans l[i] = a := ⟨_, rfl⟩
      obtain ⟨r2, d2⟩ := av
      rw [hav] at HHit HRi HDi
      have hvv : W.cell? ⟨gv, i * 2, none⟩ = some (.bool r2) ∧ W.cell? ⟨gv, i * 2 + 1, none⟩ = some (.string d2) := by
        have h := HV1.out
        rw [HTR.out, HRi.out] at h
        have hl2 : (avs (D.take i)).length = i * 2 := by rw [avs_length, List.length_take]; congr 1; omega
        rw [avs_append] at h
        have e1 := h.cell (i * 2)
        have e2 := h.cell (i * 2 + 1)
        rw [List.getElem?_append_right (by omega), hl2, Nat.sub_self] at e1
        rw [List.getElem?_append_right (by omega), hl2, show i * 2 + 1 - i * 2 = 1 by omega] at e2
        exact ⟨e1, e2⟩
      obtain ⟨v0, v1⟩ := hvv
      have fv0 := HV1.out.frozen (i * 2)
      have fv1 := HV1.out.frozen (i * 2 + 1)
      have HEQ := Lib.hid heq
      have HM : Hid (Program.eqGuardType Try.prog (Program.depth Try.prog) 51 = false) := Lib.hid (by kernel_rfl)
      clear heq
      have hgvl : i < l.length := hlt
      cases r
      · have HRow : Hid (D[i] = R[i]) := Lib.hid (by rw [HDi.out, HRi.out, HHit.out]; rfl)
        have HVn : Hid (Row W gv 43 (avs (D.take (i + 1) ++ R.drop (i + 1)))) := Lib.hid (by
          rw [HTD.out, HRow.out, ← HTR.out]; exact HV1.out)
        refine wp_region_quiet_lit (by kernel_rfl) (by kernel_rfl) (qk_in ?_)
        refine qk_step (fun K hK => ?_); rw [if_pos (by rfl)]; refine quiet_load_mid 51 (.tmp 5) rfl wr.heap.size 0 rfl C HL1.out ?_; refine hK _ ?_; clear hK K
        (refine qk_step (fun K hK => ?_); go_simp; refine hK _ ?_; clear hK K)
        (refine qk_step (fun K hK => ?_); go_simp; refine hK _ ?_; clear hK K)
        (refine qk_step (fun K hK => ?_); go_simp; refine hK _ ?_; clear hK K)
        refine qk_step (fun K hK => ?_); rw [if_pos (by rfl)]; refine quiet_load_mid 51 (.tmp 19) rfl k 2 rfl CQ HL2.out ?_; refine hK _ ?_; clear hK K
        refine qk_step (fun K hK => ?_); rw [if_pos (by rfl)]; refine quiet_eql 51 51 (.tmp 16) (.tmp 20) rfl C.toArray CQ.toArray rfl rfl HM.out false HEQ.out ?_; refine hK _ ?_; clear hK K
        repeat (refine qk_step (fun K hK => ?_); go_simp; refine hK _ ?_; clear hK K)
        refine qk_nil ?_
        intro _ hw'
        obtain ⟨nq, rfl⟩ := hw'
        go_wp2
        go_roundg (l.length - (i + 1))
        case measure => omega
        case rel => exact ⟨i + 1, by simp, by omega, by omega, Lib.hid HK1.out, Lib.hid HG1.out, Lib.hid HVn.out, Lib.hid (HB1.out.trans (F' := F) (Chg.of_below (drawn_below2 W nq)) (fun i h => .inl h))⟩
      · cases r2
        · have HRow : Hid (D[i] = (true, d)) := Lib.hid (by rw [HDi.out, HHit.out]; rfl)
          refine wp_region_quiet_lit (by kernel_rfl) (by kernel_rfl) (qk_in ?_)
          refine qk_step (fun K hK => ?_); rw [if_pos (by rfl)]; refine quiet_load_mid 51 (.tmp 5) rfl wr.heap.size 0 rfl C HL1.out ?_; refine hK _ ?_; clear hK K
          (refine qk_step (fun K hK => ?_); go_simp; refine hK _ ?_; clear hK K)
          (refine qk_step (fun K hK => ?_); go_simp; refine hK _ ?_; clear hK K)
          (refine qk_step (fun K hK => ?_); go_simp; refine hK _ ?_; clear hK K)
          refine qk_step (fun K hK => ?_); rw [if_pos (by rfl)]; refine quiet_load_mid 51 (.tmp 19) rfl k 2 rfl CQ HL2.out ?_; refine hK _ ?_; clear hK K
          refine qk_step (fun K hK => ?_); rw [if_pos (by rfl)]; refine quiet_eql 51 51 (.tmp 16) (.tmp 20) rfl C.toArray CQ.toArray rfl rfl HM.out true HEQ.out ?_; refine hK _ ?_; clear hK K
          repeat (refine qk_step (fun K hK => ?_); go_simp; refine hK _ ?_; clear hK K)
          refine qk_nil ?_
          intro _ hw'
          obtain ⟨nq, rfl⟩ := hw'
          have HVs : Hid (Row (((W.drewN nq).setCell ⟨gv, i * 2, none⟩ (.bool true)).setCell ⟨gv, i * 2 + 1, none⟩ (.string d)) gv 43 (avs (D.take (i + 1) ++ R.drop (i + 1)))) := Lib.hid (by
            have h := HV1.out
            rw [HTR.out, HRi.out, avs_append] at h
            have hl2 : (avs (D.take i)).length = i * 2 := by rw [avs_length, List.length_take]; congr 1; omega
            have h1 := (show Row (W.drewN nq) gv _ _ from h).set (i * 2) (.bool true)
            have h2 := h1.set (i * 2 + 1) (.string d)
            rw [List.set_append_right _ _ (by omega), List.set_append_right _ _ (by omega), hl2, Nat.sub_self, show i * 2 + 1 - i * 2 = 1 by omega] at h2
            rw [HTD.out, HRow.out, avs_append]
            exact h2)
          have HKs : Hid (Row (((W.drewN nq).setCell ⟨gv, i * 2, none⟩ (.bool true)).setCell ⟨gv, i * 2 + 1, none⟩ (.string d)) k 54 (kC ga gv l.length CQ)) := Lib.hid (((show Row (W.drewN nq) k _ _ from HK1.out).far (p := ⟨gv, i * 2, none⟩) n2 _).far (p := ⟨gv, i * 2 + 1, none⟩) n2 _)
          have HGs : Hid (Row (((W.drewN nq).setCell ⟨gv, i * 2, none⟩ (.bool true)).setCell ⟨gv, i * 2 + 1, none⟩ (.string d)) ga 51 (askC l)) := Lib.hid (((show Row (W.drewN nq) ga _ _ from HG1.out).far (p := ⟨gv, i * 2, none⟩) n3 _).far (p := ⟨gv, i * 2 + 1, none⟩) n3 _)
          have HBs : Hid (Chg F w (((W.drewN nq).setCell ⟨gv, i * 2, none⟩ (.bool true)).setCell ⟨gv, i * 2 + 1, none⟩ (.string d))) := Lib.hid (by
            have h := HB1.out
            refine ⟨h.os, h.tape, h.output, by simpa using h.size, fun j hj hn => ?_⟩
            have hjn : j ≠ gv := fun e => hn (by rw [e]; exact hF1)
            rw [Below.heap_setCell _ _ _ j hjn, Below.heap_setCell _ _ _ j hjn]
            exact h.block j hj hn)
          clear HV1 HK1 HG1 HB1 HTR HTD HRow HRi HDi HHit HEQ HL1 HL2
          go_wp2
          go_roundg (l.length - (i + 1))
          case measure => omega
          case rel => exact ⟨i + 1, by simp, by omega, by omega, HKs, HGs, HVs, HBs⟩
        · have HRow : Hid (D[i] = R[i]) := Lib.hid (by rw [HDi.out, HRi.out, HHit.out]; rfl)
          have HVn : Hid (Row W gv 43 (avs (D.take (i + 1) ++ R.drop (i + 1)))) := Lib.hid (by
            rw [HTD.out, HRow.out, ← HTR.out]; exact HV1.out)
          refine wp_region_quiet_lit (by kernel_rfl) (by kernel_rfl) (qk_in ?_)
          refine qk_step (fun K hK => ?_); rw [if_pos (by rfl)]; refine quiet_load_mid 51 (.tmp 5) rfl wr.heap.size 0 rfl C HL1.out ?_; refine hK _ ?_; clear hK K
          (refine qk_step (fun K hK => ?_); go_simp; refine hK _ ?_; clear hK K)
          (refine qk_step (fun K hK => ?_); go_simp; refine hK _ ?_; clear hK K)
          (refine qk_step (fun K hK => ?_); go_simp; refine hK _ ?_; clear hK K)
          refine qk_step (fun K hK => ?_); rw [if_pos (by rfl)]; refine quiet_load_mid 51 (.tmp 19) rfl k 2 rfl CQ HL2.out ?_; refine hK _ ?_; clear hK K
          refine qk_step (fun K hK => ?_); rw [if_pos (by rfl)]; refine quiet_eql 51 51 (.tmp 16) (.tmp 20) rfl C.toArray CQ.toArray rfl rfl HM.out true HEQ.out ?_; refine hK _ ?_; clear hK K
          repeat (refine qk_step (fun K hK => ?_); go_simp; refine hK _ ?_; clear hK K)
          refine qk_nil ?_
          intro _ hw'
          obtain ⟨nq, rfl⟩ := hw'
          go_wp2
          go_roundg (l.length - (i + 1))
          case measure => omega
          case rel => exact ⟨i + 1, by simp, by omega, by omega, Lib.hid HK1.out, Lib.hid HG1.out, Lib.hid HVn.out, Lib.hid (HB1.out.trans (F' := F) (Chg.of_below (drawn_below2 W nq)) (fun i h => .inl h))⟩
    · have hlt2 : ¬ (i : Int) < (l.length : Int) := by omega
      obtain rfl : i = l.length := by omega
      have HVn : Hid (Row wr gv 43 (avs D)) := Lib.hid (by
        have h := HV.out
        rwa [List.take_of_length_le (by omega), List.drop_of_length_le (by omega), List.append_nil] at h)
      have HDn : Hid (QAt wr k F l (q.date d)) := Lib.hid (HFin.out wr HK.out HG.out HVn.out)
      clear HFin HVn HV HK HG HS HRD
      go_wp2
      first | go_end0 | go_returns
      exact ⟨rfl, HDn.out, HB.out⟩
theorem qat_date {w : World} {k : Nat} {F : Nat → Prop} {l : List ByteArray} {q : QS} (d : ByteArray) (h : QAt w k F l q) (hOk : q.Ok) :
    Calls Try.prog 17 #[.pointer (some ⟨k, 0, none⟩), .string d] w fun r w' => ∃ F', r = .returned (.tuple #[]) ∧ (∀ i, F' i → F i ∨ w.heap.size ≤ i) ∧ QAt w' k F' l (q.date d) ∧ Chg F w w' :=
  (qat_date0 d h hOk).mono fun _ _ ⟨h1, h2, h3⟩ => ⟨F, h1, fun i hi => .inl hi, h2, h3⟩
end Go.Proofs.Ytpdflpobhmpbpaa
