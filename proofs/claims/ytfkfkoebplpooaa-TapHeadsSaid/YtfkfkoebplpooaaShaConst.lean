/- What the code's functions that hold the constants give: the first state, and the rounds' words. -/
import Derived.Test.YtfkfkoebplpooaaSha
import Derived.Test.YtfkfkoebplpooaaWord
import Derived.Test.YtfkfkoebplpooaaMem2
import Derived.Test.YtfkfkoebplpooaaOrders
import Derived.Deep.Cut
import Derived.Deep.LoopGhost
namespace Go.Proofs.Ytfkfkoebplpooaa
open Go.RowKit Go.PlainAid
set_option linter.unusedVariables false
def uv (l : List Int) : List Value := l.map fun x : Int => Value.int .u32 x
theorem uv_length (l : List Int) : (uv l).length = l.length := by simp [uv]
theorem uv_at {l : List Int} {p : Nat} (h : p < l.length) : (uv l)[p]? = some (.int .u32 (l.getD p 0)) := by
  simp [uv, List.getD, List.getElem?_eq_getElem h]
theorem uv_set (l : List Int) (i : Nat) (x : Int) : uv (l.set i x) = (uv l).set i (.int .u32 x) := by unfold uv; rw [List.map_set]
theorem uv_one (l : List Int) : ∀ u ∈ uv l, u.oneCell' = true := by intro u hu; obtain ⟨x, _, rfl⟩ := List.mem_map.1 hu; rfl
theorem infoRow64 : (Try.prog.info? 65).map (·.size) = some 64 := by kernel_rfl
theorem infoRow8 : (Try.prog.info? 54).map (·.size) = some 8 := by kernel_rfl
theorem S0_lit : S0.l = [1779033703, 3144134277, 1013904242, 2773480762, 1359893119, 2600822924, 528734635, 1541459225] := by decide +kernel
theorem KS_lit : KS = [1116352408, 1899447441, 3049323471, 3921009573, 961987163, 1508970993, 2453635748, 2870763221, 3624381080, 310598401, 607225278, 1426881987, 1925078388, 2162078206, 2614888103, 3248222580, 3835390401, 4022224774, 264347078, 604807628, 770255983, 1249150122, 1555081692, 1996064986, 2554220882, 2821834349, 2952996808, 3210313671, 3336571891, 3584528711, 113926993, 338241895, 666307205, 773529912, 1294757372, 1396182291, 1695183700, 1986661051, 2177026350, 2456956037, 2730485921, 2820302411, 3259730800, 3345764771, 3516065817, 3600352804, 4094571909, 275423344, 430227734, 506948616, 659060556, 883997877, 958139571, 1322822218, 1537002063, 1747873779, 1955562222, 2024104815, 2227730452, 2361852424, 2428436474, 2756734187, 3204031479, 3329325298] := by decide +kernel
set_option maxRecDepth 100000 in
set_option maxHeartbeats 4000000 in
theorem firstState_any (w : World) :
    Calls Try.prog 26 #[] w fun e w' => e = .returned (.agg (uv S0.l).toArray) ∧ Below w.heap.size w w' := by
  have HI : Hid ((Try.prog.info? 54).map (·.size) = some (uv S0.l).length) := Lib.hid (by rw [infoRow8, uv_length, S0_lit]; rfl)
  have HR : Hid (Row (w.alloc (.cells #[.int .u32 1779033703, .int .u32 3144134277, .int .u32 1013904242, .int .u32 2773480762, .int .u32 1359893119, .int .u32 2600822924, .int .u32 528734635, .int .u32 1541459225] 54)) w.heap.size 54 (uv S0.l)) := Lib.hid (by rw [S0_lit]; exact Row.new w _ _)
  go_enter Try.func26, Try.ntmps26
  go_wp2_with fail
  exact bodyPost_ret (v := .agg (uv S0.l).toArray) (results_cell Try.results26 _ (ad := ⟨w.heap.size, 0, none⟩) rfl (run_loadVar_mid _ _ 0 _ _ _ HR.out.whole Try.underlying54 rfl HI.out)) rfl ⟨rfl, (Below.refl _ _).alloc (Nat.le_refl _) _⟩
theorem wpList_sbuild {P : Program} {ops : Array Oper} {rest : List Oper} {o : Oper} {a : Act} {w : World} {Q : Exit → Act → World → Prop} (hgd : o.guard = none) (t : TypeId) (parts : Array (Nat × Operand)) (ho : o.op = .build t parts) (cells : Array Value)
    (hf : P.built t (parts.map fun (i, x) => (i, a.eval x)).toList = some cells) (h : wpList P ops Q rest (a.put o.dst (.agg cells)) w) : wpList P ops Q (o :: rest) a w := by
  refine wpList_plain hgd fun K hK => ?_
  unfold Oper.wp execOp
  simp only [ho, Sem.run_bind, run_build w t _ cells hf, Result.andThen_ok]
  exact hK _ _ h
set_option maxRecDepth 100000 in
set_option maxHeartbeats 4000000 in
theorem roundWords_any (w : World) :
    Calls Try.prog 34 #[] w fun e w' => e = .returned (.agg (uv KS).toArray) ∧ Below w.heap.size w w' := by
  have HI : Hid ((Try.prog.info? 65).map (·.size) = some (uv KS).length) := Lib.hid (by rw [infoRow64, uv_length, KS_length])
  have HI2 : Hid ((Try.prog.info? 65).map (·.size) = some (uv KS).toArray.size) := Lib.hid (by rw [infoRow64, List.size_toArray, uv_length, KS_length])
  have hR := Row.new w 65 (List.replicate 64 (.int .u32 0))
  have HT : Hid ((w.alloc (.cells (List.replicate 64 (Value.int .u32 0)).toArray 65)).there w.heap.size 0 (uv KS).toArray.size) := Lib.hid (hR.there (by rw [List.size_toArray, uv_length, KS_length]; simp))
  have HS : Hid (Row ((w.alloc (.cells (List.replicate 64 (Value.int .u32 0)).toArray 65)).setCells w.heap.size 0 (uv KS)) w.heap.size 65 (uv KS)) := Lib.hid (hR.setAll (by rw [uv_length, KS_length]; simp))
  have HB : Below w.heap.size w ((w.alloc (.cells (List.replicate 64 (Value.int .u32 0)).toArray 65)).setCells w.heap.size 0 (uv KS)) := below_setCells _ _ ((Below.refl _ _).alloc (Nat.le_refl _) _) (Nat.le_refl _)
  clear hR
  go_enter Try.func34, Try.ntmps34
  go_upto_region 1 with (fail)
  refine wp_region_lit ?_
  refine wpList_sbuild rfl 65 _ rfl (uv KS).toArray (by rw [KS_lit]; kernel_rfl) ?_
  refine wpList_store_mid rfl 65 (.tmp 0) (.tmp 1) rfl w.heap.size 0 (uv KS).toArray rfl rfl HT.out HI2.out (all_oneCell_toArray (uv_one _)) ?_
  rw [show (uv KS).toArray.toList = uv KS from rfl]
  generalize HL : uv KS = L at *
  have HLE := Lib.hid HL
  clear HL
  go_wp2_with fail
  exact bodyPost_ret (v := .agg L.toArray) (results_cell Try.results34 _ (ad := ⟨w.heap.size, 0, none⟩) rfl (run_loadVar_mid _ _ 0 _ _ _ HS.out.whole Try.underlying65 rfl HI.out)) rfl ⟨by rw [HLE.out], HB⟩
end Go.Proofs.Ytfkfkoebplpooaa
