import Derived.Test.YthhdiibknfcnpaaShaSum
namespace Go.Proofs.Ythhdiibknfcnpaa
open Go.RowKit Go.PlainAid
set_option linter.unusedVariables false
theorem wpList_build1 {P : Program} {ops : Array Oper} {rest : List Oper} {o : Oper} {a : Act} {w : World} {Q : Exit → Act → World → Prop} (hgd : o.guard = none) (t : TypeId) (i : Nat) (x : Operand) (ho : o.op = .build t #[(i, x)]) (v : Value) (hx : a.eval x = v) (cells : Array Value)
    (hf : P.built t [(i, v)] = some cells) (h : wpList P ops Q rest (a.put o.dst (.agg cells)) w) : wpList P ops Q (o :: rest) a w :=
  wpList_build hgd t _ ho cells (by simpa [hx] using hf) h
theorem builtHash (s : St) : Try.prog.built 45 [(0, .agg (uv s.l).toArray)] = some (hcells s (List.replicate 64 0) 0).toArray := by
  kernel_rfl
set_option maxRecDepth 100000 in
set_option maxHeartbeats 1000000 in
theorem new_gen (s : St) (hrk : ∀ w, Calls Try.prog 21 #[] w fun e w' => e = .returned (.agg (uv s.l).toArray) ∧ Below w.heap.size w w') (w : World) :
    Calls Try.prog 12 #[] w fun e w' => ∃ g, e = .returned (.pointer (some ⟨g, 0, none⟩)) ∧ w.heap.size ≤ g ∧ Row w' g 45 (hcells s (List.replicate 64 0) 0) ∧ Below w.heap.size w w' := by
  have HRK := Lib.hid hrk
  clear hrk
  go_enter Try.func12, Try.ntmps12
  go_wp2_with fail
  refine (HRK.out _).mono ?_
  rintro e w1 ⟨rfl, hB1⟩
  have hsz := hB1.size
  have HBU := Lib.hid (builtHash s)
  generalize hC : hcells s (List.replicate 64 0) 0 = C at *
  have HC := Lib.hid hC
  clear hC
  generalize uv s.l = L at *
  go_wp2_with (refine wpList_build1 rfl 45 0 (.tmp 1) rfl (.agg L.toArray) rfl C.toArray HBU.out ?_)
  go_ret
  exact ⟨_, rfl, hsz, by rw [HC.out]; exact Row.new w1 45 C, hB1.alloc hsz _⟩
theorem new_any (w : World) :
    Calls Try.prog 12 #[] w fun e w' => ∃ g, e = .returned (.pointer (some ⟨g, 0, none⟩)) ∧ w.heap.size ≤ g ∧ HashAt w' g ByteArray.empty ∧ Below w.heap.size w w' := by
  refine (new_gen S0 firstState_any w).mono ?_
  rintro e w' ⟨g, he, hg, hr, hb⟩
  exact ⟨g, he, hg, ⟨List.replicate 64 0, by simp, fun j hj => absurd hj (by show ¬ j < 0 % 64; omega), hr⟩, hb⟩
theorem ab_any : ABSpec := fun s b w hs hb => afterBlock_any KS KS_length KS_bd roundWords_any s hs b hb w
set_option maxRecDepth 100000 in
set_option maxHeartbeats 1000000 in
theorem shaSum_any (b : ByteArray) (hb : b.size ≤ 900000) (w : World) :
    Calls Try.prog 9 #[.string b] w fun e w' => e = .returned (.string (shaB b)) ∧ Below w.heap.size w w' := by
  have HN := Lib.hid new_any
  have HAB := Lib.hid ab_any
  have hW : ∀ g w, HashAt w g ByteArray.empty → Calls Try.prog 13 #[.pointer (some ⟨g, 0, none⟩), .string b] w fun e w' => e = .returned (.tuple #[]) ∧ HashAt w' g b ∧ w.grownBy w' (some g) := by
    intro g w h
    have := write_any HAB.out g ByteArray.empty b w h (by show 0 + b.size ≤ _; omega)
    rwa [ByteArray.empty_append] at this
  have HW := Lib.hid hW
  have HSZ := Lib.hid hb
  clear hW hb
  go_enter Try.func9, Try.ntmps9
  go_wp2_with fail
  refine (HN.out _).mono ?_
  rintro e w1 ⟨g, rfl, hg, hA1, hB1⟩
  have HA1 := Lib.hid hA1
  clear hA1
  go_wp2_with fail
  refine (HW.out g _ HA1.out).mono ?_
  rintro e w2 ⟨rfl, hA2, hG2⟩
  have hB2 := grown_to_below hB1 hg hG2
  have HA2 := Lib.hid hA2
  clear hA2 hG2
  go_wp2_with fail
  refine (sum_any HAB.out g b _ HA2.out HSZ.out).mono ?_
  rintro e w3 ⟨rfl, hB3⟩
  go_wp2
  go_ret
  exact ⟨rfl, hB2.trans (hB3.mono hB2.size)⟩
end Go.Proofs.Ythhdiibknfcnpaa
