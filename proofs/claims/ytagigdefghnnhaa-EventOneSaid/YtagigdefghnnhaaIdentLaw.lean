/- Layer 5: what the laws need beside the contracts. -/
import Derived.Test.YtagigdefghnnhaaIdentDefs
import Derived.Test.YtagigdefghnnhaaRefIdent
import Derived.Test.YtagigdefghnnhaaRefIdentGet
namespace Go.Proofs.Ytagigdefghnnhaa
open Go.RowKit Go.PlainAid
set_option linter.unusedVariables false
theorem refIdPut_all (cls tag : Int) (cons : Bool) (len : Int) (w : World) :
    Calls Try.prog 27 #[.agg #[.int .i64 cls, .int .i64 tag, .bool cons, .int .i64 len]] w fun e w' => e = .returned (.tuple #[.string (putS cls tag cons), .int .i64 (putE cls tag)]) ∧ Below w.heap.size w w' := by
  unfold putS putE
  cases h : idOk cls tag
  · simpa using refIdPut_bad cls tag cons len h w
  · simpa using refIdPut_any cls tag cons len h w
theorem refIdGet_all (b : ByteArray) (at_ : Int) (hb : b.size ≤ maxLen) (w : World) :
    Calls Try.prog 46 #[.string b, .int .i64 at_] w fun e w' => e = .returned (gV (gAt b at_)) ∧ Below w.heap.size w w' := by
  by_cases h : at_ < 0 ∨ (b.size : Int) < at_
  · rw [gV_arg b at_ h]; exact refIdGet_arg b at_ hb h w
  · obtain ⟨i, rfl⟩ := Int.eq_ofNat_of_zero_le (show 0 ≤ at_ by omega)
    rw [← gV_at b i (by omega)]; exact refIdGet_any b i hb (by omega) w
theorem refIdGet_is (b : ByteArray) (at_ : Int) (hb : b.size ≤ maxLen) {c t : Int} {k : Bool} {n e : Int} (h : gAt b at_ = (c, t, k, n, e)) (w : World) :
    Calls Try.prog 46 #[.string b, .int .i64 at_] w fun r w' => r = .returned (.tuple #[.agg #[.int .i64 c, .int .i64 t, .bool k, .int .i64 0], .int .i64 n, .int .i64 e]) ∧ Below w.heap.size w w' := by
  have := refIdGet_all b at_ hb w
  rw [h] at this
  exact this
theorem putE_ok {cls tag : Int} : putE cls tag = 0 ↔ idOk cls tag = true := by
  unfold putE; split <;> simp_all
theorem putS_ok {cls tag : Int} {cons : Bool} (h : idOk cls tag = true) : putS cls tag cons = strOfNums (idPut cls tag cons) := by rw [putS, if_pos h]
theorem putS_bad {cls tag : Int} {cons : Bool} (h : ¬ idOk cls tag = true) : putS cls tag cons = ⟨#[]⟩ := by rw [putS, if_neg h]
theorem putS_size {cls tag : Int} {cons : Bool} (h : idOk cls tag = true) : (putS cls tag cons).size = (idPut cls tag cons).length := by rw [putS_ok h, strOfNums_size]
theorem putS_le (cls tag : Int) (cons : Bool) : (putS cls tag cons).size ≤ 5 := by
  by_cases h : idOk cls tag = true
  · rw [putS_size h]; exact (idPut_length h).2
  · rw [putS_bad h]; decide
theorem bl_putS {cls tag : Int} {cons : Bool} (h : idOk cls tag = true) : bl (putS cls tag cons) = idPut cls tag cons := by rw [putS_ok h, bl_str (idPut_isB h)]
theorem gAt_in (b : ByteArray) (i : Nat) (hi : i ≤ b.size) {c t : Int} {k : Bool} {n : Nat} {e : Int} (h : idGet ((bl b).drop i) = (c, t, k, n, e)) : gAt b (i : Int) = (c, t, k, (i : Int) + n, e) := by
  unfold gAt
  rw [if_neg (by omega), Int.toNat_natCast, h]
theorem gAt_bd (b : ByteArray) (at_ : Int) : 0 ≤ (gAt b at_).1 ∧ (gAt b at_).1 ≤ 3 ∧ 0 ≤ (gAt b at_).2.1 ∧ (gAt b at_).2.1 ≤ 268435455 := by
  unfold gAt
  split
  · simp
  · exact idGet_bd _ ((bl_isB b).drop _)
theorem back_at (m : ByteArray) {cls tag : Int} {cons : Bool} (h : idOk cls tag = true) : gAt (m ++ putS cls tag cons ++ m) m.size = (cls, tag, cons, (m.size : Int) + (putS cls tag cons).size, 0) := by
  rw [putS_size h]
  refine gAt_in _ m.size (by rw [ByteArray.size_append, ByteArray.size_append]; omega) ?_
  rw [bl_append, bl_append, List.append_assoc, List.drop_left' (by rw [bl_length]), bl_putS h]
  exact idGet_put h _
theorem cut_at {cls tag : Int} {cons : Bool} (h : idOk cls tag = true) (n : Nat) (hn : n < (putS cls tag cons).size) : gAt ((putS cls tag cons).extract 0 n) 0 = (0, 0, false, (n : Int), 2) := by
  have := gAt_in ((putS cls tag cons).extract 0 n) 0 (by omega) (c := 0) (t := 0) (k := false) (n := n) (e := 2) (by
    rw [List.drop_zero, bl_extract _ _ _ (by omega), List.drop_zero, bl_putS h, Nat.sub_zero]
    exact idGet_cut h n (by rw [← putS_size h]; exact hn))
  simpa using this
theorem whole_at {cls tag : Int} {cons : Bool} (h : idOk cls tag = true) (m : ByteArray) : gAt (putS cls tag cons ++ m) 0 = (cls, tag, cons, ((putS cls tag cons).size : Int), 0) := by
  have e : idGet ((bl (putS cls tag cons ++ m)).drop 0) = (cls, tag, cons, (idPut cls tag cons).length, 0) := by
    rw [List.drop_zero, bl_append, bl_putS h]
    exact idGet_put h _
  have := gAt_in (putS cls tag cons ++ m) 0 (by omega) e
  rw [putS_size h]
  simpa using this
theorem whole_at0 {cls tag : Int} {cons : Bool} (h : idOk cls tag = true) : gAt (putS cls tag cons) 0 = (cls, tag, cons, ((putS cls tag cons).size : Int), 0) := by
  have := whole_at (cons := cons) h ⟨#[]⟩
  rwa [show putS cls tag cons ++ (⟨#[]⟩ : ByteArray) = putS cls tag cons by apply ByteArray.ext; simp [ByteArray.data_append]] at this
theorem one_at (b : ByteArray) (h : (gAt b 0).2.2.2.2 = 0) : ∃ n : Nat, (gAt b 0).2.2.2.1 = n ∧ 1 ≤ n ∧ n ≤ b.size ∧ putE (gAt b 0).1 (gAt b 0).2.1 = 0 ∧ putS (gAt b 0).1 (gAt b 0).2.1 (gAt b 0).2.2.1 = b.extract 0 n := by
  have e : gAt b 0 = ((idGet (bl b)).1, (idGet (bl b)).2.1, (idGet (bl b)).2.2.1, ((idGet (bl b)).2.2.2.1 : Int), (idGet (bl b)).2.2.2.2) := by
    have := gAt_in b 0 (by omega) (show idGet ((bl b).drop 0) = ((idGet (bl b)).1, (idGet (bl b)).2.1, (idGet (bl b)).2.2.1, (idGet (bl b)).2.2.2.1, (idGet (bl b)).2.2.2.2) by rw [List.drop_zero])
    simpa using this
  rw [e] at h ⊢
  obtain ⟨h1, h2, h3, h4⟩ := idGet_one (bl b) (bl_isB b) h
  rw [bl_length] at h3
  refine ⟨_, rfl, h2, h3, putE_ok.2 h1, ?_⟩
  apply bl_inj
  rw [bl_putS h1, h4, bl_extract _ _ _ h3, List.drop_zero, Nat.sub_zero]
theorem bad_at (b : ByteArray) (h : ¬ (gAt b 0).2.2.2.2 = 0) : (gAt b 0).1 = 0 ∧ (gAt b 0).2.1 = 0 ∧ (gAt b 0).2.2.1 = false := by
  unfold gAt at h ⊢
  rw [if_neg (by omega)] at h ⊢
  exact idGet_bad _ h
/-! ### Sizes -/
theorem idPut_tail (cls tag : Int) (cons : Bool) (c2 : Int) (k2 : Bool) : (idPut cls tag cons).drop 1 = (idPut c2 tag k2).drop 1 := rfl
theorem loG_half {n : Nat} (h : n ≠ 0) : (loG n).length = (loG (n / 128)).length + 1 := by rw [loG_pos h]; rfl
theorem sizes_len {cls tag : Int} {cons : Bool} (h : idOk cls tag = true) : (putS cls tag cons).size = if tag < 31 then 1 else 1 + (loG tag.toNat).length := by
  obtain ⟨h0, h1, h2, h3⟩ := idOk_iff.1 h
  rw [putS_size h, idPut]
  by_cases ht : tag < 31
  · rw [if_pos ht, if_pos ht]; rfl
  · rw [if_neg ht, if_neg ht, List.length_cons, gB_length, loG_half (show tag.toNat ≠ 0 by omega)]; omega
theorem first_bt {cls tag : Int} {cons : Bool} (h : idOk cls tag = true) : bt (putS cls tag cons) 0 = first cls tag cons := by
  have h1 : 0 < (putS cls tag cons).size := by rw [putS_size h]; exact (idPut_length h).1
  have := bl_at (putS cls tag cons) 0 h1
  rw [bl_putS h, idPut] at this
  simpa using this.symm
theorem first_parts {cls tag : Int} {cons : Bool} (h : idOk cls tag = true) : first cls tag cons / 64 = cls ∧ decide (first cls tag cons / 32 % 2 = 1) = cons ∧ first cls tag cons % 32 = first 0 tag false % 32 := by
  obtain ⟨h0, h1, h2, h3⟩ := idOk_iff.1 h
  unfold first
  by_cases ht : tag < 31 <;> cases cons <;> simp [ht] <;> omega
end Go.Proofs.Ytagigdefghnnhaa
