/- What New gives: a digest of nothing yet; what the Sum of a text gives. -/
import Derived.Test.YtfkfkoebplpooaaShaSum
namespace Go.Proofs.Ytfkfkoebplpooaa
open Go.RowKit Go.PlainAid
set_option linter.unusedVariables false
theorem wpList_sbuild1 {P : Program} {ops : Array Oper} {rest : List Oper} {o : Oper} {a : Act} {w : World} {Q : Exit → Act → World → Prop} (hgd : o.guard = none) (t : TypeId) (i : Nat) (x : Operand) (ho : o.op = .build t #[(i, x)]) (v : Value) (hx : a.eval x = v) (cells : Array Value)
    (hf : P.built t [(i, v)] = some cells) (h : wpList P ops Q rest (a.put o.dst (.agg cells)) w) : wpList P ops Q (o :: rest) a w :=
  wpList_sbuild hgd t _ ho cells (by simpa [hx] using hf) h
theorem builtHash (s : St) : Try.prog.built 57 [(0, .agg (uv s.l).toArray)] = some (hcells s (List.replicate 64 0) 0).toArray := by
  kernel_rfl
set_option maxRecDepth 100000 in
set_option maxHeartbeats 1000000 in
theorem new_gen (s : St) (hrk : ∀ w, Calls Try.prog 26 #[] w fun e w' => e = .returned (.agg (uv s.l).toArray) ∧ Below w.heap.size w w') (w : World) :
    Calls Try.prog 18 #[] w fun e w' => ∃ g, e = .returned (.pointer (some ⟨g, 0, none⟩)) ∧ w.heap.size ≤ g ∧ Row w' g 57 (hcells s (List.replicate 64 0) 0) ∧ Below w.heap.size w w' := by
  have HRK := Lib.hid hrk
  clear hrk
  go_enter Try.func18, Try.ntmps18
  go_wp2_with fail
  refine (HRK.out _).mono ?_
  rintro e w1 ⟨rfl, hB1⟩
  have hsz := hB1.size
  have HBU := Lib.hid (builtHash s)
  generalize hC : hcells s (List.replicate 64 0) 0 = C at *
  have HC := Lib.hid hC
  clear hC
  generalize uv s.l = L at *
  go_wp2_with (refine wpList_sbuild1 rfl 57 0 (.tmp 1) rfl (.agg L.toArray) rfl C.toArray HBU.out ?_)
  go_ret
  exact ⟨_, rfl, hsz, by rw [HC.out]; exact Row.new w1 57 C, hB1.alloc hsz _⟩
theorem new_any (w : World) :
    Calls Try.prog 18 #[] w fun e w' => ∃ g, e = .returned (.pointer (some ⟨g, 0, none⟩)) ∧ w.heap.size ≤ g ∧ HashAt w' g ByteArray.empty ∧ Below w.heap.size w w' := by
  refine (new_gen S0 firstState_any w).mono ?_
  rintro e w' ⟨g, he, hg, hr, hb⟩
  exact ⟨g, he, hg, ⟨List.replicate 64 0, by simp, fun j hj => absurd hj (by show ¬ j < 0 % 64; omega), hr⟩, hb⟩
theorem ab_any : ABSpec := fun s b w hs hb => afterBlock_any KS KS_length KS_bd roundWords_any s hs b hb w
end Go.Proofs.Ytfkfkoebplpooaa
