/- What the reference's leaf and element of layer 9 give. -/
import Derived.Test.YtagigdefghnnhaaRefEvent
namespace Go.Proofs.Ytagigdefghnnhaa
open Go.RowKit Go.PlainAid
set_option linter.unusedVariables false
/-! ### What is told, in memory -/
def tdC (v : Value) (e p : Int) : List Value := [v, .int .i64 e, .int .i64 p]
def tdV (v : Value) (e p : Int) : Value := .agg #[v, .int .i64 e, .int .i64 p]
theorem infoTold : (Try.prog.info? 29).map (·.size) = some 3 := by kernel_rfl
theorem told_load {W : World} {g : Nat} {v : Value} {e p : Int} (h : Row W g 29 (tdC v e p)) : (loadVar 29 ⟨g, 0, none⟩).run Try.prog W = .ok (tdV v e p) W :=
  run_loadVar_mid _ _ 0 _ (tdC v e p) _ h.whole Try.underlying29 rfl infoTold
theorem told_facts {W : World} {g : Nat} {v : Value} {e p : Int} (h : Row W g 29 (tdC v e p)) :
    W.cell? ⟨g, 0, none⟩ = some v ∧ W.cell? ⟨g, 1, none⟩ = some (.int .i64 e) ∧ W.cell? ⟨g, 2, none⟩ = some (.int .i64 p) ∧ W.frozen? ⟨g, 0, none⟩ = false ∧ W.frozen? ⟨g, 1, none⟩ = false ∧ W.frozen? ⟨g, 2, none⟩ = false :=
  ⟨h.cell 0, h.cell 1, h.cell 2, h.frozen 0, h.frozen 1, h.frozen 2⟩
theorem told_set {W : World} {g : Nat} {v0 : Value} {e0 p0 : Int} (h : Row W g 29 (tdC v0 e0 p0)) (v : Value) (e p : Int) :
    Row (((W.setCell ⟨g, 0, none⟩ v).setCell ⟨g, 1, none⟩ (.int .i64 e)).setCell ⟨g, 2, none⟩ (.int .i64 p)) g 29 (tdC v e p) :=
  ((h.set 0 v).set 1 (.int .i64 e)).set 2 (.int .i64 p)
theorem told_below {B : Nat} {a W : World} {g : Nat} (h : Below B a W) (hg : B ≤ g) (v : Value) (e p : Int) :
    Below B a (((W.setCell ⟨g, 0, none⟩ v).setCell ⟨g, 1, none⟩ (.int .i64 e)).setCell ⟨g, 2, none⟩ (.int .i64 p)) :=
  ((h.setCell hg _).setCell hg _).setCell hg _
theorem size_set3 (W : World) (g : Nat) (a b c : Value) : (((W.setCell ⟨g, 0, none⟩ a).setCell ⟨g, 1, none⟩ b).setCell ⟨g, 2, none⟩ c).heap.size = W.heap.size := by simp
theorem told_other (W : World) (g : Nat) (a b c : Value) (i : Nat) (h : i ≠ g) : (((W.setCell ⟨g, 0, none⟩ a).setCell ⟨g, 1, none⟩ b).setCell ⟨g, 2, none⟩ c).heap[i]? = W.heap[i]? := by
  rw [Below.heap_setCell _ _ _ i h, Below.heap_setCell _ _ _ i h, Below.heap_setCell _ _ _ i h]
/-- What lies in another type's block doesn't touch a list of events. -/
theorem Evs.keep {w w' : World} {base : Nat} {v : Value} {l : List Ev} (h : Evs w base v l) {kb : Nat} {t : TypeId} {cs : List Value} (hr : Row w kb t cs) (ht : t ≠ 42) (hb : ∀ i, i ≠ kb → w'.heap[i]? = w.heap[i]?) : Evs w' base v l := by
  obtain ⟨hl, h1 | ⟨g, cap, cur, hv, hg, hh, hn, hc, hs, hk⟩⟩ := h
  · exact ⟨hl, .inl h1⟩
  · refine ⟨hl, .inr ⟨g, cap, cur, hv, hg, ?_, hn, hc, hs, hk⟩⟩
    have hne : g ≠ kb := by
      rintro rfl
      unfold Row at hr
      rw [hr] at hh
      injection hh with hh
      injection hh with _ h2 _
      exact ht h2
    rw [hb g hne]; exact hh
theorem Evs.told {w : World} {base : Nat} {v : Value} {l : List Ev} (h : Evs w base v l) {kb : Nat} {cs : List Value} (hr : Row w kb 29 cs) (a b c : Value) :
    Evs (((w.setCell ⟨kb, 0, none⟩ a).setCell ⟨kb, 1, none⟩ b).setCell ⟨kb, 2, none⟩ c) base v l := h.keep hr (by decide) (fun i hi => told_other w kb a b c i hi)
theorem Evs.form {w : World} {base : Nat} {v : Value} {l : List Ev} (h : Evs w base v l) : ∃ oa c, v = .slice oa l.length c := by
  rcases h.shape with ⟨rfl, rfl⟩ | ⟨g, c, rfl, _⟩
  · exact ⟨none, 0, rfl⟩
  · exact ⟨_, c, rfl⟩
theorem bytesE_snoc (l : List Int) (k i : Nat) (h : k < l.length) : bytesE (l.take (k + 1)) i = bytesE (l.take k) i ++ [evByte (i + k) l[k]] := by
  induction l generalizing k i with
  | nil => simp at h
  | cons x r ih =>
    cases k with
    | zero => simp [bytesE]
    | succ k =>
      rw [List.take_succ_cons, List.take_succ_cons, bytesE, bytesE, ih k (i + 1) (by simpa using h), List.cons_append, List.getElem_cons_succ, show i + 1 + k = i + (k + 1) by omega]
theorem bytesE_len (l : List Int) (i : Nat) : (bytesE l i).length = l.length := by
  induction l generalizing i with
  | nil => rfl
  | cons x r ih => rw [bytesE, List.length_cons, List.length_cons, ih]
set_option maxRecDepth 100000 in
set_option maxHeartbeats 1600000 in
theorem refLeaf_any (b : ByteArray) (p : Nat) (n : Int) {base : Nat} {v : Value} {l : List Ev} {w : World} (h : Evs w base v l) (hb : base ≤ w.heap.size) (hl : l.length ≤ 50000000) (hs : b.size ≤ 1000000) (hp : p ≤ b.size) (hp1 : 1 ≤ p) (hn : 0 ≤ n) (hn1 : n ≤ 2305843009213693951) :
    Calls Try.prog 30 #[.string b, v, .int .i64 (p : Int), .int .i64 n] w fun r w' => ∃ v', r = .returned (tdV v' (leafP (bl b) p n).e ((leafP (bl b) p n).at_ : Int)) ∧ Evs w' base v' (l ++ (leafP (bl b) p n).l) ∧ Below w.heap.size w w' := by
  have HZ := Lib.hid (Row.new w 29 (tdC (.slice none 0 0) 0 0))
  have hB0 : Below w.heap.size w (w.alloc (.cells (tdC (.slice none 0 0) 0 0).toArray 29)) := (Below.refl _ _).alloc (Nat.le_refl _) _
  have HB0 := Lib.hid hB0
  have HE0 := Lib.hid (h.below hB0)
  clear hB0
  by_cases h0 : n = 0
  · subst h0
    have HL : Hid (leafP (bl b) p 0 = ⟨[evEnd (p - 1)], 0, p⟩) := Lib.hid (by unfold leafP; rw [if_pos rfl])
    rw [HL.out]
    have HA := Lib.hid (refAnd_any HE0.out (Nat.le_trans hb (by simp)) (by omega) (evEnd (p - 1)))
    have hpc : ((p - 1 : Nat) : Int) = (p : Int) - 1 := by omega
    have HQ : Hid (evEnd (p - 1) = ⟨4, (p : Int) - 1, 0, 0, false, 0, 0⟩) := Lib.hid (by unfold evEnd; rw [hpc])
    unfold evV evEnd at HA
    rw [hpc] at HA
    clear hn hn1 h HL hpc
    go_enter Try.func30, Try.ntmps30
    go_wp2_with fail
    refine (HA.out).mono ?_
    rintro r w1 ⟨v1, rfl, he1, hb1⟩
    have HZ1 := Lib.hid (HZ.out.below hb1 HZ.out.lt)
    have HB1 := Lib.hid (HB0.out.trans (hb1.mono HB0.out.size))
    have HE1 := Lib.hid he1
    obtain ⟨oa, c1, rfl⟩ := he1.form
    generalize (l ++ [(⟨4, (p : Int) - 1, 0, 0, false, 0, 0⟩ : Ev)]).length = ln at *
    obtain ⟨k0, k1, k2, f0, f1, f2⟩ := told_facts HZ1.out
    have hlt := HZ1.out.lt
    have HRf := Lib.hid (told_set HZ1.out (.slice oa ln c1) 0 (p : Int))
    have HBf := Lib.hid (told_below HB1.out (Nat.le_refl _) (.slice oa ln c1) 0 (p : Int))
    clear hb1 he1 HZ HB0 HE0 HA
    go_wp2
    exact bodyPost_ret (results_cell Try.results30 _ (ad := ⟨w.heap.size, 0, none⟩) rfl (told_load HRf.out)) rfl ⟨_, rfl, by rw [HQ.out]; exact HE1.out.told HZ1.out _ _ _, HBf.out⟩
  · have hnp : ¬ n = 0 := h0
    have hn2 : (n == 0) = false := by simpa using h0
    have HDR := Lib.hid (show ((bl b).drop p).length = b.size - p by rw [List.length_drop, bl_length])
    have HSN := Lib.hid (fun (k : Nat) (h : k < b.size - p) => (bytesE_snoc ((bl b).drop p) k p (by rw [List.length_drop, bl_length]; exact h)).trans (by rw [List.getElem_drop, bl_get]))
    have HBL := Lib.hid (fun (k : Nat) => Nat.le_trans (Nat.le_of_eq (bytesE_len (((bl b).drop p).take k) p)) (Nat.le_trans (List.length_take_le' k _) (Nat.le_of_eq HDR.out)))
    have HBT := Lib.hid (get_bt b)
    have HL1 : Hid (((b.size - p : Nat) : Int) < n → leafP (bl b) p n = ⟨bytesE (((bl b).drop p).take (b.size - p)) p, 2, b.size⟩) := Lib.hid (by
      intro hh
      unfold leafP
      rw [if_neg h0, HDR.out, if_pos hh, List.take_of_length_le (by rw [HDR.out]; omega), bl_length])
    have HL2 : Hid (¬ ((b.size - p : Nat) : Int) < n → leafP (bl b) p n = ⟨bytesE (((bl b).drop p).take n.toNat) p ++ [⟨4, (p : Int) + n - 1, 0, 0, false, 0, 0⟩], 0, p + n.toNat⟩) := Lib.hid (by
      intro hh
      unfold leafP evEnd
      rw [if_neg h0, HDR.out, if_neg hh, show ((p + n.toNat - 1 : Nat) : Int) = (p : Int) + n - 1 by omega])
    obtain ⟨oa0, c0, rfl⟩ := h.form
    clear h0 h
    go_enter Try.func30, Try.ntmps30
    go_wp2_with fail
    go_loopw [1, 9] (fun lv kv wr => ∃ k : Nat, kv = .int .i64 (k : Int) ∧ (k : Int) ≤ n ∧ k ≤ b.size - p ∧ Hid (Evs wr base lv (l ++ bytesE (((bl b).drop p).take k) p)) ∧ Hid (Row wr w.heap.size 29 (tdC (.slice none 0 0) 0 0)) ∧ Hid (Below w.heap.size w wr)) (fun _ kv _ => (b.size - intOf kv).toNat)
    case atStart => exact ⟨0, rfl, by omega, by omega, Lib.hid (by rw [List.take_zero, bytesE, List.append_nil]; exact HE0.out), HZ, HB0⟩
    case round =>
      clear HZ HB0 HE0
      obtain ⟨k, rfl, hkn, hkp, HE, HZ, HB⟩ := hrel
      have hbl := HBL.out k
      obtain ⟨oa, c1, hv⟩ := HE.out.form
      subst hv
      by_cases hk : (k : Int) = n
      · subst hk
        have HA := Lib.hid (refAnd_any HE.out (Nat.le_trans hb HB.out.size) (by rw [List.length_append]; omega) ⟨4, (p : Int) + (k : Int) - 1, 0, 0, false, 0, 0⟩)
        unfold evV at HA
        have HL := Lib.hid (HL2.out (by omega))
        rw [Int.toNat_natCast] at HL
        have hnk : ¬ (k : Int) < (k : Int) := by omega
        clear HL1 HL2 HSN HBL HBT HDR hnp hn2 hkn
        generalize (l ++ bytesE (((bl b).drop p).take k) p).length = ln0 at *
        go_wp2_with fail
        refine (HA.out).mono ?_
        rintro r w1 ⟨v1, rfl, he1, hb1⟩
        have HZ1 := Lib.hid (HZ.out.below hb1 HZ.out.lt)
        have HB1 := Lib.hid (HB.out.trans (hb1.mono HB.out.size))
        have HE1 := Lib.hid he1
        obtain ⟨oa2, c2, rfl⟩ := he1.form
        obtain ⟨ln, hln⟩ : ∃ ln, (l ++ bytesE (((bl b).drop p).take k) p ++ [(⟨4, (p : Int) + (k : Int) - 1, 0, 0, false, 0, 0⟩ : Ev)]).length = ln := ⟨_, rfl⟩
        rw [hln] at HE1 ⊢
        obtain ⟨k0, k1, k2, f0, f1, f2⟩ := told_facts HZ1.out
        have hlt := HZ1.out.lt
        have HRf := Lib.hid (told_set HZ1.out (.slice oa2 ln c2) 0 ((p : Int) + (k : Int)))
        have HBf := Lib.hid (told_below HB1.out (Nat.le_refl _) (.slice oa2 ln c2) 0 ((p : Int) + (k : Int)))
        clear hb1 he1 HZ HB HE HA hln
        go_wp2
        exact bodyPost_ret (results_cell Try.results30 _ (ad := ⟨w.heap.size, 0, none⟩) rfl (told_load HRf.out)) rfl ⟨.slice oa2 ln c2, by rw [HL.out]; simp [tdV], by rw [HL.out, ← List.append_assoc]; exact HE1.out.told HZ1.out _ _ _, HBf.out⟩
      · have hkn2 : (k : Int) < n := by omega
        by_cases hz : k = b.size - p
        · have HL := Lib.hid (HL1.out (by omega))
          have hge : (b.size : Int) ≤ (p : Int) + (k : Int) := by omega
          rw [← hz] at HL
          obtain ⟨ln, hln⟩ : ∃ ln, (l ++ bytesE (((bl b).drop p).take k) p).length = ln := ⟨_, rfl⟩
          rw [hln] at HE ⊢
          obtain ⟨k0, k1, k2, f0, f1, f2⟩ := told_facts HZ.out
          have HRf := Lib.hid (told_set HZ.out (.slice oa ln c1) 2 (b.size : Int))
          have HBf := Lib.hid (told_below HB.out (Nat.le_refl _) (.slice oa ln c1) 2 (b.size : Int))
          clear HL1 HL2 HSN HBL HBT HDR hnp hn2 hkn hln hbl hz
          go_wp2
          exact bodyPost_ret (results_cell Try.results30 _ (ad := ⟨w.heap.size, 0, none⟩) rfl (told_load HRf.out)) rfl ⟨_, by rw [HL.out], by rw [HL.out]; exact HE.out.told HZ.out _ _ _, HBf.out⟩
        · have hlt3 : (p : Int) + (k : Int) < (b.size : Int) := by omega
          have hbt := HBT.out (p + k) (by omega)
          have HSN1 := Lib.hid (HSN.out k (by omega))
          obtain ⟨x, hx⟩ : ∃ x, bt b (p + k) = x := ⟨_, rfl⟩
          rw [hx] at hbt HSN1
          unfold evByte at HSN1
          rw [show ((p + k : Nat) : Int) = (p : Int) + (k : Int) by omega] at HSN1
          have HA := Lib.hid (refAnd_any HE.out (Nat.le_trans hb HB.out.size) (by rw [List.length_append]; omega) ⟨3, (p : Int) + (k : Int), 0, 0, false, 0, x⟩)
          unfold evV at HA
          clear HL1 HL2 HSN HBL HBT HDR hx hkn hz hbl
          generalize (l ++ bytesE (((bl b).drop p).take k) p).length = ln0 at *
          go_wp2_with fail
          refine (HA.out).mono ?_
          rintro r w1 ⟨v1, rfl, he1, hb1⟩
          have HZ1 := Lib.hid (HZ.out.below hb1 HZ.out.lt)
          have HB1 := Lib.hid (HB.out.trans (hb1.mono HB.out.size))
          have HE1 : Hid (Evs w1 base v1 (l ++ bytesE (((bl b).drop p).take (k + 1)) p)) := Lib.hid (by rw [HSN1.out, ← List.append_assoc]; exact he1)
          clear hb1 he1 HZ HB HE HA HSN1 hbt
          go_wp2
          go_roundw
          case rel => exact ⟨k + 1, by simp, by omega, by omega, HE1, HZ1, HB1⟩
          case measure => simp [intOf] <;> omega
end Go.Proofs.Ytagigdefghnnhaa
