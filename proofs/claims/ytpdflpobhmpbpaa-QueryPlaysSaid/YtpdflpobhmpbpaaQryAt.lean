/- What queries of the landed code are in memory: their block, and the slices of what is asked and of what is answered. -/
import Derived.Test.YtpdflpobhmpbpaaQryPush
import Derived.Test.YtpdflpobhmpbpaaQryIs
import Derived.Test.YtpdflpobhmpbpaaAns
namespace Go.Proofs.Ytpdflpobhmpbpaa
open Go.RowKit Go.PlainAid
set_option linter.unusedVariables false
def askC (l : List ByteArray) : List Value := l.flatMap (fun x => seC (bl x))
theorem askC_length (l : List ByteArray) : (askC l).length = l.length * 21 := by
  induction l with
  | nil => rfl
  | cons x r ih => show (seC (bl x) ++ askC r).length = _; rw [List.length_append, ih, seC_length, List.length_cons]; omega
theorem askC_append (l m : List ByteArray) : askC (l ++ m) = askC l ++ askC m := by simp [askC]
theorem askC_split (l : List ByteArray) {i : Nat} (h : i < l.length) : askC l = askC (l.take i) ++ (seC (bl l[i]) ++ askC (l.drop (i + 1))) := by
  have e : l = l.take i ++ (l[i] :: l.drop (i + 1)) := by rw [← List.drop_eq_getElem_cons h, List.take_append_drop]
  conv => lhs; rw [e]
  rw [askC_append]
  rfl
theorem askC_take (l : List ByteArray) {i : Nat} (h : i < l.length) : askC (l.take (i + 1)) = askC (l.take i) ++ seC (bl l[i]) := by
  rw [List.take_add_one, List.getElem?_eq_getElem h, askC_append]
  show askC (l.take i) ++ (seC (bl l[i]) ++ []) = _
  rw [List.append_nil]
def kC (ga gv n : Nat) (C : List Value) : List Value := [.slice (some ⟨ga, 0, none⟩) n n, .slice (some ⟨gv, 0, none⟩) n n] ++ C
def QAt : QryPred := fun w k F l q => ∃ ga gv : Nat, Row w k 54 (kC ga gv l.length (cC q)) ∧ Row w ga 51 (askC l) ∧ Row w gv 43 (avs (q.found l)) ∧ serAll l = true ∧ (k ≠ ga ∧ k ≠ gv ∧ ga ≠ gv) ∧ ∀ i, F i ↔ i = k ∨ i = ga ∨ i = gv
theorem qat_lt {w : World} {k : Nat} {F : Nat → Prop} {l : List ByteArray} {q : QS} (h : QAt w k F l q) : ∀ i, F i → i < w.heap.size := by
  obtain ⟨ga, gv, h1, h2, h3, _, _, h4⟩ := h
  intro i hi
  rcases (h4 i).1 hi with rfl | rfl | rfl
  · exact h1.lt
  · exact h2.lt
  · exact h3.lt
theorem qat_aside {w w' : World} {k : Nat} {F F' : Nat → Prop} {l : List ByteArray} {q : QS} (h : QAt w k F l q) (hc : Chg F' w w') (hF : ∀ i, F i → ¬ F' i) : QAt w' k F l q := by
  obtain ⟨ga, gv, h1, h2, h3, hs, hn, h4⟩ := h
  exact ⟨ga, gv, h1.chg hc (hF _ ((h4 _).2 (.inl rfl))), h2.chg hc (hF _ ((h4 _).2 (.inr (.inl rfl)))), h3.chg hc (hF _ ((h4 _).2 (.inr (.inr rfl)))), hs, hn, h4⟩
set_option maxRecDepth 100000 in
set_option maxHeartbeats 4000000 in
theorem qat_begin0 {w : World} {k : Nat} {F : Nat → Prop} {l : List ByteArray} {q : QS} (h : QAt w k F l q) :
    Calls Try.prog 15 #[.pointer (some ⟨k, 0, none⟩)] w fun r w' => r = .returned (.tuple #[]) ∧ QAt w' k F l q.begin ∧ Chg F w w' := by
  obtain ⟨ga, gv, h1, h2, h3, hs, hn, h4⟩ := h
  have hcc := cC_length q
  obtain ⟨Z, hZ⟩ : ∃ Z, cC q.begin = Z := ⟨_, rfl⟩
  have hzl : Z.length = 21 := by rw [← hZ]; exact cC_length _
  have hz0 : (#[Value.int IntKind.u8 0, Value.int IntKind.u8 0, Value.int IntKind.u8 0, Value.int IntKind.u8 0,
          Value.int IntKind.u8 0, Value.int IntKind.u8 0, Value.int IntKind.u8 0, Value.int IntKind.u8 0,
          Value.int IntKind.u8 0, Value.int IntKind.u8 0, Value.int IntKind.u8 0, Value.int IntKind.u8 0,
          Value.int IntKind.u8 0, Value.int IntKind.u8 0, Value.int IntKind.u8 0, Value.int IntKind.u8 0,
          Value.int IntKind.u8 0, Value.int IntKind.u8 0, Value.int IntKind.u8 0, Value.int IntKind.u8 0,
          Value.int IntKind.i64 0] : Array Value) = Z.toArray := by rw [← hZ, cC_begin]; rfl
  have hR := Row.setMany Z 2 h1 (by rw [hzl]; simp [kC, hcc])
  have e : (kC ga gv l.length (cC q)).take 2 ++ Z ++ (kC ga gv l.length (cC q)).drop (2 + Z.length) = kC ga gv l.length Z := by
    rw [hzl]
    unfold kC
    rw [List.drop_of_length_le (by simp [hcc]), List.append_nil]
    rfl
  rw [e] at hR
  have hF : F k := (h4 k).2 (.inl rfl)
  have HF : Hid (QAt (w.setCells k 2 Z) k F l q.begin ∧ Chg F w (w.setCells k 2 Z)) := Lib.hid ⟨⟨ga, gv, by rw [hZ]; exact hR, h2.farMany (by omega) _ _, h3.farMany (by omega) _ _, hs, hn, h4⟩, ⟨(below_setCells (B := 0) (g := k) Z 2 (Below.refl 0 w) (Nat.zero_le _)).os, (below_setCells (B := 0) (g := k) Z 2 (Below.refl 0 w) (Nat.zero_le _)).tape, (below_setCells (B := 0) (g := k) Z 2 (Below.refl 0 w) (Nat.zero_le _)).output, by rw [setCells_size]; exact Nat.le_refl _, fun i _ hi => heap_setCells_far _ 2 k w (fun e => hi (by rw [e]; exact hF))⟩⟩
  have HT : Hid (World.there w k 2 Z.toArray.size) := Lib.hid (h1.there (by rw [List.size_toArray, hzl]; simp [kC, hcc]))
  have HI2 : Hid ((Try.prog.info? 51).map (·.size) = some Z.toArray.size) := Lib.hid (by rw [List.size_toArray, hzl]; exact infoSerial)
  have H1 : Hid (∀ u ∈ Z, u.oneCell' = true) := Lib.hid (by rw [← hZ, cC_begin]; exact se_one _ 0)
  clear h1 h2 h3 hR e hcc hF hzl hZ
  go_enter Try.func15, Try.ntmps15
  go_wp2_with (refine wpList_store_mid rfl 51 (.tmp 5) (.tmp 3) rfl k 2 Z.toArray rfl rfl HT.out HI2.out (all_oneCell_toArray H1.out) ?_)
  first | go_end0 | go_returns
  exact ⟨rfl, HF.out.1, HF.out.2⟩
theorem qat_begin {w : World} {k : Nat} {F : Nat → Prop} {l : List ByteArray} {q : QS} (h : QAt w k F l q) :
    Calls Try.prog 15 #[.pointer (some ⟨k, 0, none⟩)] w fun r w' => ∃ F', r = .returned (.tuple #[]) ∧ (∀ i, F' i → F i ∨ w.heap.size ≤ i) ∧ QAt w' k F' l q.begin ∧ Chg F w w' :=
  (qat_begin0 h).mono fun _ _ ⟨h1, h2, h3⟩ => ⟨F, h1, fun i hi => .inl hi, h2, h3⟩
set_option maxRecDepth 100000 in
set_option maxHeartbeats 4000000 in
theorem qat_push0 {w : World} {k : Nat} {F : Nat → Prop} {l : List ByteArray} {q : QS} (b : Int) (h : QAt w k F l q) :
    Calls Try.prog 16 #[.pointer (some ⟨k, 0, none⟩), .int .u8 b] w fun r w' => r = .returned (.tuple #[]) ∧ QAt w' k F l (q.push b) ∧ Chg F w w' := by
  obtain ⟨ga, gv, h1, h2, h3, hs, hn, h4⟩ := h
  have HP : Hid (Calls Try.prog 23 #[.pointer (some ⟨k, 2, none⟩), .int .u8 b] w fun r w' => r = .returned (.tuple #[]) ∧ QAt w' k F l (q.push b) ∧ Chg F w w') := Lib.hid (by
    refine (sePush_any (pre := [.slice (some ⟨ga, 0, none⟩) l.length l.length, .slice (some ⟨gv, 0, none⟩) l.length l.length]) (B := cB q) (n := cN q) h1 (cB_length q) (cN_le q) b).mono ?_
    rintro r w' ⟨rfl, q1, q2⟩
    refine ⟨rfl, ⟨ga, gv, ?_, h2.chg q2 (by omega), h3.chg q2 (by omega), hs, hn, h4⟩, ⟨q2.os, q2.tape, q2.output, q2.size, fun i hi hni => q2.block i hi (fun e => hni (by rw [e]; exact (h4 k).2 (.inl rfl)))⟩⟩
    rw [← cB_push, ← cN_push] at q1
    exact q1)
  have h0 := h1.lt
  clear h1 h2 h3 hs hn h4
  go_enter Try.func16, Try.ntmps16
  go_wp2_with fail
  refine HP.out.mono ?_
  rintro r w5 ⟨rfl, q1, q2⟩
  have HD := Lib.hid (And.intro q1 q2)
  clear q1 q2 HP
  go_wp2_with fail
  first | go_end0 | go_returns
  exact ⟨rfl, HD.out.1, HD.out.2⟩
theorem qat_push {w : World} {k : Nat} {F : Nat → Prop} {l : List ByteArray} {q : QS} (b : Int) (h : QAt w k F l q) :
    Calls Try.prog 16 #[.pointer (some ⟨k, 0, none⟩), .int .u8 b] w fun r w' => ∃ F', r = .returned (.tuple #[]) ∧ (∀ i, F' i → F i ∨ w.heap.size ≤ i) ∧ QAt w' k F' l (q.push b) ∧ Chg F w w' :=
  (qat_push0 b h).mono fun _ _ ⟨h1, h2, h3⟩ => ⟨F, h1, fun i hi => .inl hi, h2, h3⟩
end Go.Proofs.Ytpdflpobhmpbpaa
