/- Two serial numbers of the landed code are alike just if their bytes and their counts are. -/
import Derived.Test.YtpdflpobhmpbpaaQryPush
import Derived.Stop.BytesEq
import Derived.Laws.StructEq
namespace Go.Proofs.Ytpdflpobhmpbpaa
open Go.RowKit Go.PlainAid
set_option linter.unusedVariables false
def u8Of (v : Int) : UInt8 := UInt8.ofNat v.toNat
theorem u8Of_nat {v : Int} (h0 : 0 ≤ v) (h1 : v ≤ 255) : ((u8Of v).toNat : Int) = v := by
  unfold u8Of
  simp
  omega
theorem u8s_cell {l : List Int} (h : IsB l) : u8s l = (l.map u8Of).map Extern.Stop.cell := by
  unfold u8s
  rw [List.map_map]
  apply List.map_congr_left
  intro v hv
  have := h v hv
  show Value.int .u8 v = Value.int .u8 ((u8Of v).toNat : Int)
  rw [u8Of_nat this.1 this.2]
theorem map_u8Of_inj : ∀ {A B : List Int}, IsB A → IsB B → A.map u8Of = B.map u8Of → A = B
  | [], [], _, _, _ => rfl
  | [], _ :: _, _, _, h => by simp at h
  | _ :: _, [], _, _, h => by simp at h
  | a :: A, b :: B, hA, hB, h => by
    simp only [List.map_cons, List.cons.injEq] at h
    have h1 := hA a (List.mem_cons_self ..)
    have h2 := hB b (List.mem_cons_self ..)
    have e : ((u8Of a).toNat : Int) = ((u8Of b).toNat : Int) := by rw [h.1]
    rw [u8Of_nat h1.1 h1.2, u8Of_nat h2.1 h2.2] at e
    rw [e, map_u8Of_inj (fun v hv => hA v (List.mem_cons_of_mem _ hv)) (fun v hv => hB v (List.mem_cons_of_mem _ hv)) h.2]
theorem beq_u8Of {A B : List Int} (hA : IsB A) (hB : IsB B) : (A.map u8Of == B.map u8Of) = decide (A = B) := by
  by_cases h : A = B
  · subst h; simp
  · have : ¬ A.map u8Of = B.map u8Of := fun e => h (map_u8Of_inj hA hB e)
    rw [beq_eq_false_iff_ne.2 this, decide_eq_false h]
set_option maxRecDepth 100000 in
theorem eql_serial (A B : List Int) (n m : Int) (hA : IsB A) (hB : IsB B) (lA : A.length = 20) (lB : B.length = 20) (W : World) :
    (binOp .eql 51 (.agg (u8s A ++ [Value.int .i64 n]).toArray) (.agg (u8s B ++ [Value.int .i64 m]).toArray)).run Try.prog W = .ok (.bool (decide (A = B ∧ n = m))) W := by
  have hsz : ∀ w, (sizeOf 5).run Try.prog w = .ok 1 w := fun w => Try.sizeOf5 ..
  have hb := run_equalIn_bytes (P := Try.prog) W 9997 49 5 20 Try.underlying49 Try.underlying5 hsz (A.map u8Of) (B.map u8Of) (by simpa using lA) (by simpa using lB)
  rw [← u8s_cell hA, ← u8s_cell hB, beq_u8Of hA hB] at hb
  have eA : ((u8s A ++ [Value.int .i64 n]).toArray).extract 0 20 = (u8s A).toArray := by
    apply Array.toList_inj.1
    simp [u8s_length, lA]
  have eB : ((u8s B ++ [Value.int .i64 m]).toArray).extract 0 20 = (u8s B).toArray := by
    apply Array.toList_inj.1
    simp [u8s_length, lB]
  have nA : ((u8s A ++ [Value.int .i64 n]).toArray)[20]? = some (.int .i64 n) := by
    simp [u8s_length, lA]
  have nB : ((u8s B ++ [Value.int .i64 m]).toArray)[20]? = some (.int .i64 m) := by
    simp [u8s_length, lB]
  generalize (u8s A ++ [Value.int .i64 n]).toArray = X at *
  generalize (u8s B ++ [Value.int .i64 m]).toArray = Y at *
  generalize (u8s A).toArray = X1 at *
  generalize (u8s B).toArray = Y1 at *
  rw [run_eql_struct, run_equalIn_struct (P := Try.prog) W 9999 51 X Y (by kernel_rfl) (by kernel_rfl)]
  have hf : (Program.fieldsOf Try.prog 51).toList.map (fun f => (f.name, f.type, f.offset)) = [("b", 49, 0), ("n", 3, 20)] := by kernel_rfl
  generalize (Program.fieldsOf Try.prog 51).toList = fs at hf
  have hl : fs.length = 2 := by have := congrArg List.length hf; simpa using this
  obtain ⟨f, r, rfl⟩ := List.exists_cons_of_length_eq_add_one hl
  obtain ⟨g, r, rfl⟩ := List.exists_cons_of_length_eq_add_one (show r.length = 0 + 1 by simpa using hl)
  obtain rfl : r = [] := List.eq_nil_of_length_eq_zero (by simpa using hl)
  simp only [List.map_cons, List.map_nil, List.cons.injEq, Prod.mk.injEq, and_true] at hf
  obtain ⟨⟨f1, f2, f3⟩, g1, g2, g3⟩ := hf
  have hi := run_equalIn_int (P := Try.prog) W 9998 3 .i64 .i64 n m Try.underlying3
  simp [Op.eqFields, f1, f2, f3, g1, g2, g3, part, isAgg, run_underlying Try.underlying49, run_underlying Try.underlying3, eA, eB, nA, nB, hb, hi]
  by_cases h : A = B
  · by_cases h2 : n = m
    · simp [h, h2]
    · simp [h, h2]
  · simp [h]
end Go.Proofs.Ytpdflpobhmpbpaa
