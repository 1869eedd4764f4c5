/- What the reference's functions of layer 9 give. -/
import Derived.Test.YtiiimhamfibdbaaGreatE1
import Derived.Test.YtiiimhamfibdbaaGreatE2
import Derived.Test.YtiiimhamfibdbaaGreatB0
import Derived.Test.YtiiimhamfibdbaaGreatP0
import Derived.Deep.QuietTactic
import Derived.BigQuiet
import Derived.Deep.LoopGhost
import Derived.Deep.RegionHeld3
import Derived.Laws.AppendOwnNone
import Derived.Maps.AppendAt
namespace Go.Proofs.YtiiimhamfibdbaaGreat
open Go.RowKit Go.PlainAid
set_option linter.unusedVariables false
theorem startL_place (hd r : List Int) : ∀ (i : Nat) (e : Int), i ≤ (startL hd r i e).2.1 ∧ (startL hd r i e).2.1 ≤ i + r.length := by
 induction r generalizing hd with
 |nil => intro i e; simp [startL]
 |cons x r ih =>
  intro i e
  rw [startL]
  by_cases h1 : (i : Int) = e
  ·rw [if_pos h1]; simp
  ·rw [if_neg h1]
   by_cases h2 : (hdGet (hd ++ [x])).2.2.2.2.2 = 0
   ·rw [if_pos h2]; simp
   ·rw [if_neg h2]
    by_cases h3 : (hdGet (hd ++ [x])).2.2.2.2.2 ≠ 2
    ·rw [if_pos h3]; simp
    ·rw [if_neg h3]
     have := ih (hd ++ [x]) (i + 1) e
     simp; omega
def stV (s : (Int × Int × Bool × Int) × Nat × Int) : Value := .tuple #[hdV s.1.1 s.1.2.1 s.1.2.2.1 s.1.2.2.2, .int .i64 (s.2.1 : Int), .int .i64 s.2.2]
def seg (b : ByteArray) (at_ i : Nat) : List Int := ((bl b).take i).drop at_
theorem seg_nil (b : ByteArray) (at_ : Nat) : seg b at_ at_ = [] := by unfold seg; rw [List.drop_eq_nil_of_le]; rw [List.length_take]; omega
theorem seg_succ (b : ByteArray) (at_ i : Nat) (h1 : at_ ≤ i) (h2 : i < b.size) : seg b at_ (i + 1) = seg b at_ i ++ [bt b i] := by
 unfold seg
 have hl : i < (bl b).length := by rw [bl_length]; exact h2
 rw [List.take_add_one, List.getElem?_eq_getElem hl, Option.toList_some, List.drop_append_of_le_length (by rw [List.length_take]; omega), bl_get]
theorem hgAt_seg (b : ByteArray) (at_ i : Nat) (h1 : at_ ≤ i) (h2 : i ≤ b.size) : hgAt (b.extract 0 i) (at_ : Int) = ((hdGet (seg b at_ i)).1, (hdGet (seg b at_ i)).2.1, (hdGet (seg b at_ i)).2.2.1, (hdGet (seg b at_ i)).2.2.2.1, (at_ : Int) + (hdGet (seg b at_ i)).2.2.2.2.1, (hdGet (seg b at_ i)).2.2.2.2.2) := by
 refine hgAt_in _ at_ (by rw [ByteArray.size_extract]; omega) ?_
 rw [bl_extract _ _ _ h2, List.drop_zero, Nat.sub_zero]
 rfl
theorem startL_five {hd : List Int} {x : Int} {r : List Int} {i : Nat} {e : Int} (h : (i : Int) = e) : startL hd (x :: r) i e = ((0, 0, false, 0), i, 5) := by rw [startL, if_pos h]
theorem startL_ok {hd : List Int} {x : Int} {r : List Int} {i : Nat} {e : Int} {c t : Int} {f : Bool} {n : Int} {m : Nat} (h : ¬ (i : Int) = e) (hg : hdGet (hd ++ [x]) = (c, t, f, n, m, 0)) : startL hd (x :: r) i e = ((c, t, f, n), i, 0) := by
 rw [startL, if_neg h, hg, if_pos rfl]
theorem startL_err {hd : List Int} {x : Int} {r : List Int} {i : Nat} {e : Int} {c t : Int} {f : Bool} {n : Int} {m : Nat} {er : Int} (h : ¬ (i : Int) = e) (hg : hdGet (hd ++ [x]) = (c, t, f, n, m, er)) (h0 : er ≠ 0) (h2 : er ≠ 2) : startL hd (x :: r) i e = ((0, 0, false, 0), i, er) := by
 rw [startL, if_neg h, hg, if_neg h0, if_pos h2]
theorem startL_more {hd : List Int} {x : Int} {r : List Int} {i : Nat} {e : Int} {c t : Int} {f : Bool} {n : Int} {m : Nat} (h : ¬ (i : Int) = e) (hg : hdGet (hd ++ [x]) = (c, t, f, n, m, 2)) : startL hd (x :: r) i e = startL (hd ++ [x]) r (i + 1) e := by
 rw [startL, if_neg h, hg, if_neg (by simp), if_neg (by simp)]
set_option maxRecDepth 100000 in
set_option maxHeartbeats 1600000 in
theorem refStart_any (b : ByteArray) (at_ : Nat) (e : Int) (hb : b.size ≤ 1000000) (ha : at_ ≤ b.size) (w : World) :
  Calls Tryz.prog 30 #[.string b, .int .i64 (at_ : Int), .int .i64 e] w fun r w' => r = .returned (stV (startL [] ((bl b).drop at_) at_ e)) ∧ Below w.heap.size w w' := by
 have HZ := Lib.hid (Row.new w 32 (hdC 0 0 false 0))
 have hB0 : Below w.heap.size w (w.alloc (.cells (hdC 0 0 false 0).toArray 32)) := (Below.refl _ _).alloc (Nat.le_refl _) _
 have HG := Lib.hid (fun (i : Nat) (h : at_ ≤ i) (h2 : i < b.size) (w : World) => refHeadGet_any (b.extract 0 (i + 1)) (at_ : Int) (by rw [ByteArray.size_extract]; unfold maxLen; omega) ⟨by omega, by omega⟩ w)
 have HGS := Lib.hid (fun (i : Nat) (h : at_ ≤ i) (h2 : i < b.size) => hgAt_seg b at_ (i + 1) (by omega) (by omega))
 have HSS := Lib.hid (seg_succ b at_)
 have HS0 := Lib.hid (seg_nil b at_)
 have HD := Lib.hid (bl_drop b)
 obtain ⟨R, hR⟩ : ∃ R, startL [] ((bl b).drop at_) at_ e = R := ⟨_, rfl⟩
 rw [hR]
 rw [← HS0.out] at hR
 have HR := Lib.hid hR
 clear hR
 go_enter Tryz.func30, Tryz.ntmps30
 go_wp2_with fail
 go_loopw [9] (fun iv wr => ∃ i : Nat, iv = .int .i64 (i : Int) ∧ at_ ≤ i ∧ i ≤ b.size ∧ Hid (startL (seg b at_ i) ((bl b).drop i) i e = R) ∧ Hid (Row wr w.heap.size 32 (hdC 0 0 false 0)) ∧ Hid (Below w.heap.size w wr)) (fun iv _ => (b.size - intOf iv).toNat)
 case atStart => exact ⟨at_, rfl, Nat.le_refl _, ha, HR, HZ, Lib.hid hB0⟩
 case round =>
  clear HR HZ hB0 HS0
  obtain ⟨i, rfl, hi, hib, HR, HZ, HB⟩ := hrel
  obtain ⟨k0, k1, k2, k3, f0, f1, f2, f3⟩ := head_facts HZ.out
  have hlt := HZ.out.lt
  by_cases hz : i = b.size
  ·have hR : R = ((0, 0, false, 0), b.size, 2) := by
    rw [← HR.out, bl_drop_end b i (by omega), hz]; rfl
   subst hz
   subst hR
   clear HG HGS HSS HD HR
   have hn : ¬ (b.size : Int) < (b.size : Int) := by omega
   have HRf := Lib.hid (head_set HZ.out 0 0 false 0)
   have HBf := Lib.hid (head_below HB.out (Nat.le_refl _) 0 0 false 0)
   go_wp2
   exact bodyPost_ret (results_cell_two Tryz.results30 _ (ad := ⟨w.heap.size, 0, none⟩) rfl rfl rfl (head_load HRf.out)) rfl ⟨rfl, HBf.out⟩
  ·have hil : i < b.size := by omega
   have hil2 : (i : Int) < (b.size : Int) := by omega
   have hDi := HD.out i hil
   by_cases h5 : (i : Int) = e
   ·have hR : R = ((0, 0, false, 0), i, 5) := by rw [← HR.out, hDi, startL_five h5]
    have he5 : ((i : Int) == e) = true := by simpa using h5
    subst hR
    clear HG HGS HSS HD HR hDi h5 hz
    have HRf := Lib.hid (head_set HZ.out 0 0 false 0)
    have HBf := Lib.hid (head_below HB.out (Nat.le_refl _) 0 0 false 0)
    go_wp2
    exact bodyPost_ret (results_cell_two Tryz.results30 _ (ad := ⟨w.heap.size, 0, none⟩) rfl rfl rfl (head_load HRf.out)) rfl ⟨rfl, HBf.out⟩
   ·have he5 : ((i : Int) == e) = false := by simpa using h5
    have hG1 := HG.out i hi hil
    rw [HGS.out i hi hil] at hG1
    obtain ⟨c, t, f, n, m, er, hg⟩ : ∃ c t f n m er, hdGet (seg b at_ (i + 1)) = (c, t, f, n, m, er) := ⟨_, _, _, _, _, _, rfl⟩
    have hg2 := hg
    rw [HSS.out i hi hil] at hg2
    rw [hg] at hG1
    simp only [hgV] at hG1
    have HG1 := Lib.hid hG1
    clear hG1
    have HR' := HR.out
    rw [hDi] at HR'
    clear HG HGS hz HR hDi
    by_cases c0 : er = 0
    ·subst c0
     have hR : R = ((c, t, f, n), i, 0) := by rw [← HR', startL_ok h5 hg2]
     subst hR
     clear hg hg2 HR' h5 HSS HD
     go_wp2_with fail
     refine (HG1.out _).mono ?_
     rintro e' w1 ⟨rfl, hb1⟩
     have HZ1 := Lib.hid (HZ.out.below hb1 HZ.out.lt)
     have HB1 := Lib.hid (HB.out.trans (hb1.mono HB.out.size))
     have hs1 := HZ1.out.lt
     obtain ⟨j0, j1, j2, j3, g0, g1, g2, g3⟩ := head_facts HZ1.out
     have HRf := Lib.hid ((head_set HZ1.out c t f n).alloc (.cells (hdC c t f n).toArray 32))
     have HBf := Lib.hid ((head_below HB1.out (Nat.le_refl _) c t f n).alloc (by rw [size_set4]; exact HB1.out.size) (.cells (hdC c t f n).toArray 32))
     clear hb1 HZ HB k0 k1 k2 k3 f0 f1 f2 f3
     go_wp2
     exact bodyPost_ret (results_cell_two Tryz.results30 _ (ad := ⟨w.heap.size, 0, none⟩) rfl rfl rfl (head_load HRf.out)) rfl ⟨rfl, HBf.out⟩
    ·by_cases c2 : er = 2
     ·subst c2
      have HR2 : Hid (startL (seg b at_ (i + 1)) ((bl b).drop (i + 1)) (i + 1) e = R) := Lib.hid (by rw [← HR', startL_more h5 hg2, HSS.out i hi hil])
      clear hg hg2 HR' h5 c0
      go_wp2_with fail
      refine (HG1.out _).mono ?_
      rintro e' w1 ⟨rfl, hb1⟩
      have HZ1 := Lib.hid (HZ.out.below hb1 HZ.out.lt)
      have HB1 := Lib.hid (HB.out.trans (hb1.mono HB.out.size))
      have hs1 := HZ1.out.lt
      obtain ⟨j0, j1, j2, j3, g0, g1, g2, g3⟩ := head_facts HZ1.out
      clear hb1 HZ HB k0 k1 k2 k3 f0 f1 f2 f3
      go_wp2
      go_roundw
      case rel => exact ⟨i + 1, by simp, by omega, by omega, HR2, Lib.hid (HZ1.out.alloc _), Lib.hid (HB1.out.alloc HB1.out.size _)⟩
      case measure => simp [intOf] <;> omega
     ·have hR : R = ((0, 0, false, 0), i, er) := by rw [← HR', startL_err h5 hg2 c0 c2]
      have e0 : (er == 0) = false := by simpa using c0
      have e2 : (er == 2) = false := by simpa using c2
      subst hR
      clear hg hg2 HR' h5 HSS HD c0 c2
      go_wp2_with fail
      refine (HG1.out _).mono ?_
      rintro e' w1 ⟨rfl, hb1⟩
      have HZ1 := Lib.hid (HZ.out.below hb1 HZ.out.lt)
      have HB1 := Lib.hid (HB.out.trans (hb1.mono HB.out.size))
      have hs1 := HZ1.out.lt
      obtain ⟨j0, j1, j2, j3, g0, g1, g2, g3⟩ := head_facts HZ1.out
      have HRf := Lib.hid ((head_set HZ1.out 0 0 false 0).alloc (.cells (hdC c t f n).toArray 32))
      have HBf := Lib.hid ((head_below HB1.out (Nat.le_refl _) 0 0 false 0).alloc (by rw [size_set4]; exact HB1.out.size) (.cells (hdC c t f n).toArray 32))
      clear hb1 HZ HB k0 k1 k2 k3 f0 f1 f2 f3
      go_wp2
      exact bodyPost_ret (results_cell_two Tryz.results30 _ (ad := ⟨w.heap.size, 0, none⟩) rfl rfl rfl (head_load HRf.out)) rfl ⟨rfl, HBf.out⟩
end Go.Proofs.YtiiimhamfibdbaaGreat
/- What the reference's leaf and element of layer 9 give. -/
namespace Go.Proofs.YtiiimhamfibdbaaGreat
open Go.RowKit Go.PlainAid
set_option linter.unusedVariables false
/-! ### What is told, in memory -/
def tdC (v : Value) (e p : Int) : List Value := [v, .int .i64 e, .int .i64 p]
def tdV (v : Value) (e p : Int) : Value := .agg #[v, .int .i64 e, .int .i64 p]
theorem infoTold : (Tryz.prog.info? 27).map (·.size) = some 3 := by kernel_rfl
theorem told_load {W : World} {g : Nat} {v : Value} {e p : Int} (h : Row W g 27 (tdC v e p)) : (loadVar 27 ⟨g, 0, none⟩).run Tryz.prog W = .ok (tdV v e p) W :=
 run_loadVar_mid _ _ 0 _ (tdC v e p) _ h.whole Tryz.underlying27 rfl infoTold
theorem told_facts {W : World} {g : Nat} {v : Value} {e p : Int} (h : Row W g 27 (tdC v e p)) :
  W.cell? ⟨g, 0, none⟩ = some v ∧ W.cell? ⟨g, 1, none⟩ = some (.int .i64 e) ∧ W.cell? ⟨g, 2, none⟩ = some (.int .i64 p) ∧ W.frozen? ⟨g, 0, none⟩ = false ∧ W.frozen? ⟨g, 1, none⟩ = false ∧ W.frozen? ⟨g, 2, none⟩ = false :=
 ⟨h.cell 0, h.cell 1, h.cell 2, h.frozen 0, h.frozen 1, h.frozen 2⟩
theorem told_set {W : World} {g : Nat} {v0 : Value} {e0 p0 : Int} (h : Row W g 27 (tdC v0 e0 p0)) (v : Value) (e p : Int) :
  Row (((W.setCell ⟨g, 0, none⟩ v).setCell ⟨g, 1, none⟩ (.int .i64 e)).setCell ⟨g, 2, none⟩ (.int .i64 p)) g 27 (tdC v e p) :=
 ((h.set 0 v).set 1 (.int .i64 e)).set 2 (.int .i64 p)
theorem told_below {B : Nat} {a W : World} {g : Nat} (h : Below B a W) (hg : B ≤ g) (v : Value) (e p : Int) :
  Below B a (((W.setCell ⟨g, 0, none⟩ v).setCell ⟨g, 1, none⟩ (.int .i64 e)).setCell ⟨g, 2, none⟩ (.int .i64 p)) :=
 ((h.setCell hg _).setCell hg _).setCell hg _
theorem size_set3 (W : World) (g : Nat) (a b c : Value) : (((W.setCell ⟨g, 0, none⟩ a).setCell ⟨g, 1, none⟩ b).setCell ⟨g, 2, none⟩ c).heap.size = W.heap.size := by simp
theorem told_other (W : World) (g : Nat) (a b c : Value) (i : Nat) (h : i ≠ g) : (((W.setCell ⟨g, 0, none⟩ a).setCell ⟨g, 1, none⟩ b).setCell ⟨g, 2, none⟩ c).heap[i]? = W.heap[i]? := by
 rw [Below.heap_setCell _ _ _ i h, Below.heap_setCell _ _ _ i h, Below.heap_setCell _ _ _ i h]
theorem Evs.keep {w w' : World} {base : Nat} {v : Value} {l : List Ev} (h : Evs w base v l) {kb : Nat} {t : TypeId} {cs : List Value} (hr : Row w kb t cs) (ht : t ≠ 34) (hb : ∀ i, i ≠ kb → w'.heap[i]? = w.heap[i]?) : Evs w' base v l := by
 obtain ⟨hl, h1 | ⟨g, cap, cur, hv, hg, hh, hn, hc, hs, hk⟩⟩ := h
 ·exact ⟨hl, .inl h1⟩
 ·refine ⟨hl, .inr ⟨g, cap, cur, hv, hg, ?_, hn, hc, hs, hk⟩⟩
  have hne : g ≠ kb := by
   rintro rfl
   unfold Row at hr
   rw [hr] at hh
   injection hh with hh
   injection hh with _ h2 _
   exact ht h2
  rw [hb g hne]; exact hh
theorem Evs.told {w : World} {base : Nat} {v : Value} {l : List Ev} (h : Evs w base v l) {kb : Nat} {cs : List Value} (hr : Row w kb 27 cs) (a b c : Value) :
  Evs (((w.setCell ⟨kb, 0, none⟩ a).setCell ⟨kb, 1, none⟩ b).setCell ⟨kb, 2, none⟩ c) base v l := h.keep hr (by decide) (fun i hi => told_other w kb a b c i hi)
theorem Evs.form {w : World} {base : Nat} {v : Value} {l : List Ev} (h : Evs w base v l) : ∃ oa c, v = .slice oa l.length c := by
 rcases h.shape with ⟨rfl, rfl⟩ | ⟨g, c, rfl, _⟩
 ·exact ⟨none, 0, rfl⟩
 ·exact ⟨_, c, rfl⟩
theorem bytesE_snoc (l : List Int) (k i : Nat) (h : k < l.length) : bytesE (l.take (k + 1)) i = bytesE (l.take k) i ++ [evByte (i + k) l[k]] := by
 induction l generalizing k i with
 |nil => simp at h
 |cons x r ih =>
  cases k with
  |zero => simp [bytesE]
  |succ k =>
   rw [List.take_succ_cons, List.take_succ_cons, bytesE, bytesE, ih k (i + 1) (by simpa using h), List.cons_append, List.getElem_cons_succ, show i + 1 + k = i + (k + 1) by omega]
theorem bytesE_len (l : List Int) (i : Nat) : (bytesE l i).length = l.length := by
 induction l generalizing i with
 |nil => rfl
 |cons x r ih => rw [bytesE, List.length_cons, List.length_cons, ih]
set_option maxRecDepth 100000 in
set_option maxHeartbeats 1600000 in
theorem refLeaf_any (b : ByteArray) (p : Nat) (n : Int) {base : Nat} {v : Value} {l : List Ev} {w : World} (h : Evs w base v l) (hb : base ≤ w.heap.size) (hl : l.length ≤ 50000000) (hs : b.size ≤ 1000000) (hp : p ≤ b.size) (hp1 : 1 ≤ p) (hn : 0 ≤ n) (hn1 : n ≤ 2305843009213693951) :
  Calls Tryz.prog 31 #[.string b, v, .int .i64 (p : Int), .int .i64 n] w fun r w' => ∃ v', r = .returned (tdV v' (leafP (bl b) p n).e ((leafP (bl b) p n).at_ : Int)) ∧ Evs w' base v' (l ++ (leafP (bl b) p n).l) ∧ Below w.heap.size w w' := by
 have HZ := Lib.hid (Row.new w 27 (tdC (.slice none 0 0) 0 0))
 have hB0 : Below w.heap.size w (w.alloc (.cells (tdC (.slice none 0 0) 0 0).toArray 27)) := (Below.refl _ _).alloc (Nat.le_refl _) _
 have HB0 := Lib.hid hB0
 have HE0 := Lib.hid (h.below hB0)
 clear hB0
 by_cases h0 : n = 0
 ·subst h0
  have HL : Hid (leafP (bl b) p 0 = ⟨[evEnd (p - 1)], 0, p⟩) := Lib.hid (by unfold leafP; rw [if_pos rfl])
  rw [HL.out]
  have HA := Lib.hid (refAnd_any HE0.out (Nat.le_trans hb (by simp)) (by omega) (evEnd (p - 1)))
  have hpc : ((p - 1 : Nat) : Int) = (p : Int) - 1 := by omega
  have HQ : Hid (evEnd (p - 1) = ⟨4, (p : Int) - 1, 0, 0, false, 0, 0⟩) := Lib.hid (by unfold evEnd; rw [hpc])
  unfold evV evEnd at HA
  rw [hpc] at HA
  clear hn hn1 h HL hpc
  go_enter Tryz.func31, Tryz.ntmps31
  go_wp2_with fail
  refine (HA.out).mono ?_
  rintro r w1 ⟨v1, rfl, he1, hb1⟩
  have HZ1 := Lib.hid (HZ.out.below hb1 HZ.out.lt)
  have HB1 := Lib.hid (HB0.out.trans (hb1.mono HB0.out.size))
  have HE1 := Lib.hid he1
  obtain ⟨oa, c1, rfl⟩ := he1.form
  generalize (l ++ [(⟨4, (p : Int) - 1, 0, 0, false, 0, 0⟩ : Ev)]).length = ln at *
  obtain ⟨k0, k1, k2, f0, f1, f2⟩ := told_facts HZ1.out
  have hlt := HZ1.out.lt
  have HRf := Lib.hid (told_set HZ1.out (.slice oa ln c1) 0 (p : Int))
  have HBf := Lib.hid (told_below HB1.out (Nat.le_refl _) (.slice oa ln c1) 0 (p : Int))
  clear hb1 he1 HZ HB0 HE0 HA
  go_wp2
  exact bodyPost_ret (results_cell Tryz.results31 _ (ad := ⟨w.heap.size, 0, none⟩) rfl (told_load HRf.out)) rfl ⟨_, rfl, by rw [HQ.out]; exact HE1.out.told HZ1.out _ _ _, HBf.out⟩
 ·have hnp : ¬ n = 0 := h0
  have hn2 : (n == 0) = false := by simpa using h0
  have HDR := Lib.hid (show ((bl b).drop p).length = b.size - p by rw [List.length_drop, bl_length])
  have HSN := Lib.hid (fun (k : Nat) (h : k < b.size - p) => (bytesE_snoc ((bl b).drop p) k p (by rw [List.length_drop, bl_length]; exact h)).trans (by rw [List.getElem_drop, bl_get]))
  have HBL := Lib.hid (fun (k : Nat) => Nat.le_trans (Nat.le_of_eq (bytesE_len (((bl b).drop p).take k) p)) (Nat.le_trans (List.length_take_le' k _) (Nat.le_of_eq HDR.out)))
  have HBT := Lib.hid (get_bt b)
  have HL1 : Hid (((b.size - p : Nat) : Int) < n → leafP (bl b) p n = ⟨bytesE (((bl b).drop p).take (b.size - p)) p, 2, b.size⟩) := Lib.hid (by
   intro hh
   unfold leafP
   rw [if_neg h0, HDR.out, if_pos hh, List.take_of_length_le (by rw [HDR.out]; omega), bl_length])
  have HL2 : Hid (¬ ((b.size - p : Nat) : Int) < n → leafP (bl b) p n = ⟨bytesE (((bl b).drop p).take n.toNat) p ++ [⟨4, (p : Int) + n - 1, 0, 0, false, 0, 0⟩], 0, p + n.toNat⟩) := Lib.hid (by
   intro hh
   unfold leafP evEnd
   rw [if_neg h0, HDR.out, if_neg hh, show ((p + n.toNat - 1 : Nat) : Int) = (p : Int) + n - 1 by omega])
  obtain ⟨oa0, c0, rfl⟩ := h.form
  clear h0 h
  go_enter Tryz.func31, Tryz.ntmps31
  go_wp2_with fail
  go_loopw [1, 9] (fun lv kv wr => ∃ k : Nat, kv = .int .i64 (k : Int) ∧ (k : Int) ≤ n ∧ k ≤ b.size - p ∧ Hid (Evs wr base lv (l ++ bytesE (((bl b).drop p).take k) p)) ∧ Hid (Row wr w.heap.size 27 (tdC (.slice none 0 0) 0 0)) ∧ Hid (Below w.heap.size w wr)) (fun _ kv _ => (b.size - intOf kv).toNat)
  case atStart => exact ⟨0, rfl, by omega, by omega, Lib.hid (by rw [List.take_zero, bytesE, List.append_nil]; exact HE0.out), HZ, HB0⟩
  case round =>
   clear HZ HB0 HE0
   obtain ⟨k, rfl, hkn, hkp, HE, HZ, HB⟩ := hrel
   have hbl := HBL.out k
   obtain ⟨oa, c1, hv⟩ := HE.out.form
   subst hv
   by_cases hk : (k : Int) = n
   ·subst hk
    have HA := Lib.hid (refAnd_any HE.out (Nat.le_trans hb HB.out.size) (by rw [List.length_append]; omega) ⟨4, (p : Int) + (k : Int) - 1, 0, 0, false, 0, 0⟩)
    unfold evV at HA
    have HL := Lib.hid (HL2.out (by omega))
    rw [Int.toNat_natCast] at HL
    have hnk : ¬ (k : Int) < (k : Int) := by omega
    clear HL1 HL2 HSN HBL HBT HDR hnp hn2 hkn
    generalize (l ++ bytesE (((bl b).drop p).take k) p).length = ln0 at *
    go_wp2_with fail
    refine (HA.out).mono ?_
    rintro r w1 ⟨v1, rfl, he1, hb1⟩
    have HZ1 := Lib.hid (HZ.out.below hb1 HZ.out.lt)
    have HB1 := Lib.hid (HB.out.trans (hb1.mono HB.out.size))
    have HE1 := Lib.hid he1
    obtain ⟨oa2, c2, rfl⟩ := he1.form
    obtain ⟨ln, hln⟩ : ∃ ln, (l ++ bytesE (((bl b).drop p).take k) p ++ [(⟨4, (p : Int) + (k : Int) - 1, 0, 0, false, 0, 0⟩ : Ev)]).length = ln := ⟨_, rfl⟩
    rw [hln] at HE1 ⊢
    obtain ⟨k0, k1, k2, f0, f1, f2⟩ := told_facts HZ1.out
    have hlt := HZ1.out.lt
    have HRf := Lib.hid (told_set HZ1.out (.slice oa2 ln c2) 0 ((p : Int) + (k : Int)))
    have HBf := Lib.hid (told_below HB1.out (Nat.le_refl _) (.slice oa2 ln c2) 0 ((p : Int) + (k : Int)))
    clear hb1 he1 HZ HB HE HA hln
    go_wp2
    exact bodyPost_ret (results_cell Tryz.results31 _ (ad := ⟨w.heap.size, 0, none⟩) rfl (told_load HRf.out)) rfl ⟨.slice oa2 ln c2, by rw [HL.out]; simp [tdV], by rw [HL.out, ← List.append_assoc]; exact HE1.out.told HZ1.out _ _ _, HBf.out⟩
   ·have hkn2 : (k : Int) < n := by omega
    by_cases hz : k = b.size - p
    ·have HL := Lib.hid (HL1.out (by omega))
     have hge : (b.size : Int) ≤ (p : Int) + (k : Int) := by omega
     rw [← hz] at HL
     obtain ⟨ln, hln⟩ : ∃ ln, (l ++ bytesE (((bl b).drop p).take k) p).length = ln := ⟨_, rfl⟩
     rw [hln] at HE ⊢
     obtain ⟨k0, k1, k2, f0, f1, f2⟩ := told_facts HZ.out
     have HRf := Lib.hid (told_set HZ.out (.slice oa ln c1) 2 (b.size : Int))
     have HBf := Lib.hid (told_below HB.out (Nat.le_refl _) (.slice oa ln c1) 2 (b.size : Int))
     clear HL1 HL2 HSN HBL HBT HDR hnp hn2 hkn hln hbl hz
     go_wp2
     exact bodyPost_ret (results_cell Tryz.results31 _ (ad := ⟨w.heap.size, 0, none⟩) rfl (told_load HRf.out)) rfl ⟨_, by rw [HL.out], by rw [HL.out]; exact HE.out.told HZ.out _ _ _, HBf.out⟩
    ·have hlt3 : (p : Int) + (k : Int) < (b.size : Int) := by omega
     have hbt := HBT.out (p + k) (by omega)
     have HSN1 := Lib.hid (HSN.out k (by omega))
     obtain ⟨x, hx⟩ : ∃ x, bt b (p + k) = x := ⟨_, rfl⟩
     rw [hx] at hbt HSN1
     unfold evByte at HSN1
     rw [show ((p + k : Nat) : Int) = (p : Int) + (k : Int) by omega] at HSN1
     have HA := Lib.hid (refAnd_any HE.out (Nat.le_trans hb HB.out.size) (by rw [List.length_append]; omega) ⟨3, (p : Int) + (k : Int), 0, 0, false, 0, x⟩)
     unfold evV at HA
     clear HL1 HL2 HSN HBL HBT HDR hx hkn hz hbl
     generalize (l ++ bytesE (((bl b).drop p).take k) p).length = ln0 at *
     go_wp2_with fail
     refine (HA.out).mono ?_
     rintro r w1 ⟨v1, rfl, he1, hb1⟩
     have HZ1 := Lib.hid (HZ.out.below hb1 HZ.out.lt)
     have HB1 := Lib.hid (HB.out.trans (hb1.mono HB.out.size))
     have HE1 : Hid (Evs w1 base v1 (l ++ bytesE (((bl b).drop p).take (k + 1)) p)) := Lib.hid (by rw [HSN1.out, ← List.append_assoc]; exact he1)
     clear hb1 he1 HZ HB HE HA HSN1 hbt
     go_wp2
     go_roundw
     case rel => exact ⟨k + 1, by simp, by omega, by omega, HE1, HZ1, HB1⟩
     case measure => simp [intOf] <;> omega
end Go.Proofs.YtiiimhamfibdbaaGreat
/- What the reference's element of layer 9 gives. -/
namespace Go.Proofs.YtiiimhamfibdbaaGreat
open Go.RowKit Go.PlainAid
set_option linter.unusedVariables false
theorem start_ok {b : List Int} (hb : IsB b) {i : Nat} {e : Int} (he : e = -1 ∨ (i : Int) ≤ e) {c t : Int} {f : Bool} {n : Int} {p : Nat} (hs : startL [] (b.drop i) i e = ((c, t, f, n), p, 0)) :
  i + 1 ≤ p ∧ p < b.length ∧ 0 ≤ n ∧ n ≤ 2305843009213693951 := by
 have hE : ∃ st, EndAt st i e := by
  rcases he with h | h
  ·exact ⟨[], .inl ⟨rfl, h⟩⟩
  ·exact ⟨[e - i], .inr ⟨e - i, [], rfl, by omega, by omega⟩⟩
 obtain ⟨st, hE⟩ := hE
 obtain ⟨k, hp, hk, _, g, hg, _⟩ := (head_run 0 (b.drop i) st [] i e [] hE).2 (by rw [hs])
 rw [hs] at hp hg
 rw [List.nil_append] at hg
 have hB := (hb.drop i).take (k + 1)
 obtain ⟨_, h2, h3, _⟩ := hdGet_one _ hB (by rw [hg])
 have hbd := hdGet_bd _ hB
 rw [hg] at h2 h3 hbd
 simp only at hp h2 h3 hbd
 rw [List.length_take] at h3
 rw [List.length_drop] at hk
 exact ⟨by omega, by omega, hbd.2.2.2.2.1, hbd.2.2.2.2.2⟩
theorem leaf_len (b : List Int) (p : Nat) (n : Int) (hp : p ≤ b.length) (hn : 0 ≤ n) : p ≤ (leafP b p n).at_ ∧ (leafP b p n).at_ ≤ b.length ∧ (leafP b p n).l.length ≤ (leafP b p n).at_ - p + 1 := by
 unfold leafP
 by_cases h0 : n = 0
 ·rw [if_pos h0]; simp; omega
 ·rw [if_neg h0, List.length_drop]
  by_cases h1 : ((b.length - p : Nat) : Int) < n
  ·rw [if_pos h1]
   refine ⟨hp, Nat.le_refl _, ?_⟩
   rw [bytesE_len, List.length_drop]
   show b.length - p ≤ b.length - p + 1
   omega
  ·rw [if_neg h1]
   refine ⟨by show p ≤ p + n.toNat; omega, by show p + n.toNat ≤ _; omega, ?_⟩
   show (bytesE _ p ++ _).length ≤ p + n.toNat - p + 1
   rw [List.length_append, bytesE_len, List.length_take, List.length_drop]
   simp; omega
def LenOk (i : Nat) (n : Nat) (t : Told) : Prop := i ≤ t.at_ ∧ t.at_ ≤ n ∧ t.l.length ≤ t.at_ - i
theorem loop_len {b : List Int} (el : Nat → Told) (i : Nat) (E : Int) (H : ∀ j : Nat, j ≤ b.length → (j : Int) < E → LenOk j b.length (el j)) : ∀ (g : Nat) (t : Told) (x : Nat), i ≤ t.at_ → t.at_ ≤ b.length → t.l.length + x ≤ t.at_ - i → i ≤ (loopP el g t E).at_ ∧ (loopP el g t E).at_ ≤ b.length ∧ (loopP el g t E).l.length + x ≤ (loopP el g t E).at_ - i := by
 intro g
 induction g with
 |zero => intro t x h1 h2 h3; exact ⟨h1, h2, h3⟩
 |succ g ih =>
  intro t x h1 h2 h3
  rw [loopP]
  by_cases h : (t.at_ : Int) < E
  ·rw [if_pos h]
   obtain ⟨q1, q2, q3⟩ := H t.at_ h2 h
   by_cases he : (el t.at_).e ≠ 0
   ·rw [if_pos he]
    refine ⟨by show i ≤ (el t.at_).at_; omega, q2, ?_⟩
    show (t.l ++ (el t.at_).l).length + x ≤ (el t.at_).at_ - i
    rw [List.length_append]; omega
   ·rw [if_neg he]
    refine ih _ x (by show i ≤ (el t.at_).at_; omega) q2 ?_
    show (t.l ++ (el t.at_).l).length + x ≤ (el t.at_).at_ - i
    rw [List.length_append]; omega
  ·rw [if_neg h]; exact ⟨h1, h2, h3⟩
theorem elem_len (b : List Int) (hb : IsB b) : ∀ (d i : Nat) (e : Int), i ≤ b.length → (e = -1 ∨ (i : Int) ≤ e) → LenOk i b.length (elemP b d i e) := by
 intro d
 induction d with
 |zero =>
  intro i e hi he
  obtain ⟨c, t, f, n, p, er, hs⟩ : ∃ c t f n p er, startL [] (b.drop i) i e = ((c, t, f, n), p, er) := ⟨_, _, _, _, _, _, rfl⟩
  have hpl := startL_place [] (b.drop i) i e
  rw [hs, List.length_drop] at hpl
  simp only at hpl
  by_cases h0 : er = 0
  ·subst h0
   obtain ⟨p1, p2, n0, n1⟩ := start_ok hb he hs
   by_cases hf : 0 ≤ e ∧ e - ((p + 1 : Nat) : Int) < n
   ·rw [elemP_fit 0 hs hf]; exact ⟨by show i ≤ p; omega, by show p ≤ _; omega, by simp⟩
   ·cases f with
    |false =>
     rw [elemP_leaf 0 hs hf]
     obtain ⟨l1, l2, l3⟩ := leaf_len b (p + 1) n (by omega) n0
     refine ⟨by show i ≤ (leafP b (p + 1) n).at_; omega, l2, ?_⟩
     show (leafP b (p + 1) n).l.length + 1 ≤ (leafP b (p + 1) n).at_ - i
     omega
    |true => rw [elemP_deep hs hf]; exact ⟨by show i ≤ p; omega, by show p ≤ _; omega, by simp⟩
  ·rw [elemP_err 0 hs h0]; exact ⟨hpl.1, by show p ≤ _; omega, by simp⟩
 |succ d ih =>
  intro i e hi he
  obtain ⟨c, t, f, n, p, er, hs⟩ : ∃ c t f n p er, startL [] (b.drop i) i e = ((c, t, f, n), p, er) := ⟨_, _, _, _, _, _, rfl⟩
  have hpl := startL_place [] (b.drop i) i e
  rw [hs, List.length_drop] at hpl
  simp only at hpl
  by_cases h0 : er = 0
  ·subst h0
   obtain ⟨p1, p2, n0, n1⟩ := start_ok hb he hs
   by_cases hf : 0 ≤ e ∧ e - ((p + 1 : Nat) : Int) < n
   ·rw [elemP_fit _ hs hf]; exact ⟨by show i ≤ p; omega, by show p ≤ _; omega, by simp⟩
   ·cases f with
    |false =>
     rw [elemP_leaf _ hs hf]
     obtain ⟨l1, l2, l3⟩ := leaf_len b (p + 1) n (by omega) n0
     refine ⟨by show i ≤ (leafP b (p + 1) n).at_; omega, l2, ?_⟩
     show (leafP b (p + 1) n).l.length + 1 ≤ (leafP b (p + 1) n).at_ - i
     omega
    |true =>
     rw [elemP_open d hs hf]
     obtain ⟨q1, q2, q3⟩ := loop_len (b := b) (fun i => elemP b d i (((p + 1 : Nat) : Int) + n)) i (((p + 1 : Nat) : Int) + n) (fun j hj hj2 => ih j _ hj (.inr (by omega))) (b.length + 1) ⟨[evEnter p c t true n], 0, p + 1⟩ 1 (by show i ≤ p + 1; omega) (by show p + 1 ≤ _; omega) (by show 1 + 1 ≤ p + 1 - i; omega)
     generalize loopP (fun i => elemP b d i (((p + 1 : Nat) : Int) + n)) (b.length + 1) ⟨[evEnter p c t true n], 0, p + 1⟩ (((p + 1 : Nat) : Int) + n) = T at *
     by_cases hT : T.e ≠ 0
     ·rw [if_pos hT]; exact ⟨q1, q2, by omega⟩
     ·rw [if_neg hT]
      refine ⟨q1, q2, ?_⟩
      show (T.l ++ _).length ≤ T.at_ - i
      rw [List.length_append]; simpa using q3
  ·rw [elemP_err _ hs h0]; exact ⟨hpl.1, by show p ≤ _; omega, by simp⟩
theorem Evs.shaped {w : World} {base : Nat} {v : Value} {l : List Ev} (h : Evs w base v l) : ∃ oa m c, v = .slice oa m c := by
 obtain ⟨oa, c, h⟩ := h.form
 exact ⟨oa, _, c, h⟩
theorem Row.told3 {W : World} {kb g : Nat} {t : TypeId} {l : List Value} (h : Row W kb t l) (hne : kb ≠ g) (a b c : Value) : Row (((W.setCell ⟨g, 0, none⟩ a).setCell ⟨g, 1, none⟩ b).setCell ⟨g, 2, none⟩ c) kb t l :=
 ((h.far hne a).far hne b).far hne c
def ElemC (b : ByteArray) (d : Nat) : Prop := ∀ (i : Nat) (e op most : Int) (base : Nat) (v : Value) (l : List Ev) (w : World), Evs w base v l → base ≤ w.heap.size → i ≤ b.size → l.length + (b.size - i) ≤ 40000000 → (e = -1 ∨ (i : Int) ≤ e) → e ≤ 3000000000000000000 → 0 ≤ op → most = op + d → most ≤ 64 →
 Calls Tryz.prog 15 #[.string b, v, .int .i64 (i : Int), .int .i64 e, .int .i64 op, .int .i64 most] w fun r w' => ∃ v', r = .returned (tdV v' (elemP (bl b) d i e).e ((elemP (bl b) d i e).at_ : Int)) ∧ Evs w' base v' (l ++ (elemP (bl b) d i e).l) ∧ Below w.heap.size w w'
set_option maxRecDepth 100000 in
set_option maxHeartbeats 4000000 in
theorem refElem_err (b : ByteArray) (hs : b.size ≤ 1000000) {i : Nat} {e op most : Int} {base : Nat} {v : Value} {l : List Ev} {w : World} (h : Evs w base v l) (hb : base ≤ w.heap.size) (hi : i ≤ b.size) (hl : l.length + (b.size - i) ≤ 40000000) (he1 : e ≤ 3000000000000000000) (d : Nat) {c t : Int} {f : Bool} {n : Int} {p : Nat} {er : Int} (hst : startL [] ((bl b).drop i) i e = ((c, t, f, n), p, er)) (h0 : er ≠ 0) :
  Calls Tryz.prog 15 #[.string b, v, .int .i64 (i : Int), .int .i64 e, .int .i64 op, .int .i64 most] w fun r w' => ∃ v', r = .returned (tdV v' (elemP (bl b) d i e).e ((elemP (bl b) d i e).at_ : Int)) ∧ Evs w' base v' (l ++ (elemP (bl b) d i e).l) ∧ Below w.heap.size w w' := by
 have HS := Lib.hid (refStart_any b i e hs hi)
 rw [hst] at HS
 simp only [stV, hdV] at HS
 have HZ := Lib.hid (Row.new w 27 (tdC (.slice none 0 0) 0 0))
 have HB0 : Hid (Below w.heap.size w (w.alloc (.cells (tdC (.slice none 0 0) 0 0).toArray 27))) := Lib.hid ((Below.refl _ _).alloc (Nat.le_refl _) _)
 have HE0 := Lib.hid (h.below HB0.out)
 obtain ⟨oa, cc, rfl⟩ := h.form
 obtain ⟨ln, hll⟩ : ∃ ln, l.length = ln := ⟨_, rfl⟩
 rw [hll] at hl HE0 ⊢
 have HLL := Lib.hid hll
 clear hll h
 have HEL := Lib.hid (elemP_err d hst h0)
 rw [HEL.out]
 have hq : (er != 0) = true := by simpa using h0
 clear hst h0 HEL
 go_enter Tryz.func15, Tryz.ntmps15
 go_wp2_with fail
 refine (HS.out _).mono ?_
 rintro r w1 ⟨rfl, hb1⟩
 have HZ1 := Lib.hid (HZ.out.below hb1 HZ.out.lt)
 have HB1 := Lib.hid (HB0.out.trans (hb1.mono HB0.out.size))
 have HE1 := Lib.hid (HE0.out.below hb1)
 obtain ⟨k0, k1, k2, f0, f1, f2⟩ := told_facts HZ1.out
 have hlt := HZ1.out.lt
 clear hb1 HZ HB0 HE0 HS
 have HRf := Lib.hid ((told_set HZ1.out (.slice oa ln cc) er (p : Int)).alloc (.cells (hdC c t f n).toArray 32))
 have HBf := Lib.hid ((told_below HB1.out (Nat.le_refl _) (.slice oa ln cc) er (p : Int)).alloc (by rw [size_set3]; exact HB1.out.size) (.cells (hdC c t f n).toArray 32))
 have HEf := Lib.hid ((HE1.out.told HZ1.out (.slice oa ln cc) (.int .i64 (er)) (.int .i64 (p : Int))).below ((Below.refl _ _).alloc (Nat.le_refl _) (.cells (hdC c t f n).toArray 32)))
 clear HE1 HB1
 go_wp2
 exact bodyPost_ret (results_cell Tryz.results15 _ (ad := ⟨w.heap.size, 0, none⟩) rfl (told_load HRf.out)) rfl ⟨_, rfl, by first | exact HEf.out | (rw [List.append_nil]; exact HEf.out), HBf.out⟩
set_option maxRecDepth 100000 in
set_option maxHeartbeats 4000000 in
theorem refElem_fit (b : ByteArray) (hs : b.size ≤ 1000000) {i : Nat} {e op most : Int} {base : Nat} {v : Value} {l : List Ev} {w : World} (h : Evs w base v l) (hb : base ≤ w.heap.size) (hi : i ≤ b.size) (hl : l.length + (b.size - i) ≤ 40000000) (he1 : e ≤ 3000000000000000000) (d : Nat) {c t : Int} {f : Bool} {n : Int} {p : Nat} (hst : startL [] ((bl b).drop i) i e = ((c, t, f, n), p, 0)) (p1 : i + 1 ≤ p) (p2 : p < b.size) (n0 : 0 ≤ n) (n1 : n ≤ 2305843009213693951) (hf : 0 ≤ e ∧ e - ((p + 1 : Nat) : Int) < n) :
  Calls Tryz.prog 15 #[.string b, v, .int .i64 (i : Int), .int .i64 e, .int .i64 op, .int .i64 most] w fun r w' => ∃ v', r = .returned (tdV v' (elemP (bl b) d i e).e ((elemP (bl b) d i e).at_ : Int)) ∧ Evs w' base v' (l ++ (elemP (bl b) d i e).l) ∧ Below w.heap.size w w' := by
 have HS := Lib.hid (refStart_any b i e hs hi)
 rw [hst] at HS
 simp only [stV, hdV] at HS
 have HZ := Lib.hid (Row.new w 27 (tdC (.slice none 0 0) 0 0))
 have HB0 : Hid (Below w.heap.size w (w.alloc (.cells (tdC (.slice none 0 0) 0 0).toArray 27))) := Lib.hid ((Below.refl _ _).alloc (Nat.le_refl _) _)
 have HE0 := Lib.hid (h.below HB0.out)
 obtain ⟨oa, cc, rfl⟩ := h.form
 obtain ⟨ln, hll⟩ : ∃ ln, l.length = ln := ⟨_, rfl⟩
 rw [hll] at hl HE0 ⊢
 have HLL := Lib.hid hll
 clear hll h
 have hq : ((0 : Int) != 0) = false := rfl
 have HEL := Lib.hid (elemP_fit d hst hf)
 rw [HEL.out]
 have hf1 : 0 ≤ e := hf.1
 have hf2 : e - ((p : Int) + 1) < n := by have := hf.2; omega
 clear hst HEL hf
 go_enter Tryz.func15, Tryz.ntmps15
 go_wp2_with fail
 refine (HS.out _).mono ?_
 rintro r w1 ⟨rfl, hb1⟩
 have HZ1 := Lib.hid (HZ.out.below hb1 HZ.out.lt)
 have HB1 := Lib.hid (HB0.out.trans (hb1.mono HB0.out.size))
 have HE1 := Lib.hid (HE0.out.below hb1)
 obtain ⟨k0, k1, k2, f0, f1, f2⟩ := told_facts HZ1.out
 have hlt := HZ1.out.lt
 clear hb1 HZ HB0 HE0 HS
 have HRf := Lib.hid ((told_set HZ1.out (.slice oa ln cc) 5 (p : Int)).alloc (.cells (hdC c t f n).toArray 32))
 have HBf := Lib.hid ((told_below HB1.out (Nat.le_refl _) (.slice oa ln cc) 5 (p : Int)).alloc (by rw [size_set3]; exact HB1.out.size) (.cells (hdC c t f n).toArray 32))
 have HEf := Lib.hid ((HE1.out.told HZ1.out (.slice oa ln cc) (.int .i64 (5)) (.int .i64 (p : Int))).below ((Below.refl _ _).alloc (Nat.le_refl _) (.cells (hdC c t f n).toArray 32)))
 clear HE1 HB1
 go_wp2
 exact bodyPost_ret (results_cell Tryz.results15 _ (ad := ⟨w.heap.size, 0, none⟩) rfl (told_load HRf.out)) rfl ⟨_, rfl, by first | exact HEf.out | (rw [List.append_nil]; exact HEf.out), HBf.out⟩
set_option maxRecDepth 100000 in
set_option maxHeartbeats 4000000 in
theorem refElem_leaf (b : ByteArray) (hs : b.size ≤ 1000000) {i : Nat} {e op most : Int} {base : Nat} {v : Value} {l : List Ev} {w : World} (h : Evs w base v l) (hb : base ≤ w.heap.size) (hi : i ≤ b.size) (hl : l.length + (b.size - i) ≤ 40000000) (he1 : e ≤ 3000000000000000000) (d : Nat) {c t : Int} {n : Int} {p : Nat} (hst : startL [] ((bl b).drop i) i e = ((c, t, false, n), p, 0)) (p1 : i + 1 ≤ p) (p2 : p < b.size) (n0 : 0 ≤ n) (n1 : n ≤ 2305843009213693951) (hf : ¬ (0 ≤ e ∧ e - ((p + 1 : Nat) : Int) < n)) :
    Calls Tryz.prog 15 #[.string b, v, .int .i64 (i : Int), .int .i64 e, .int .i64 op, .int .i64 most] w fun r w' => ∃ v', r = .returned (tdV v' (elemP (bl b) d i e).e ((elemP (bl b) d i e).at_ : Int)) ∧ Evs w' base v' (l ++ (elemP (bl b) d i e).l) ∧ Below w.heap.size w w' := by
  have HS := Lib.hid (refStart_any b i e hs hi)
  rw [hst] at HS
  simp only [stV, hdV] at HS
  have HZ := Lib.hid (Row.new w 27 (tdC (.slice none 0 0) 0 0))
  have HB0 : Hid (Below w.heap.size w (w.alloc (.cells (tdC (.slice none 0 0) 0 0).toArray 27))) := Lib.hid ((Below.refl _ _).alloc (Nat.le_refl _) _)
  have HE0 := Lib.hid (h.below HB0.out)
  obtain ⟨oa, cc, rfl⟩ := h.form
  obtain ⟨ln, hll⟩ : ∃ ln, l.length = ln := ⟨_, rfl⟩
  rw [hll] at hl HE0 ⊢
  have HLL := Lib.hid hll
  clear hll h
  have hq : ((0 : Int) != 0) = false := rfl
  have HEL := Lib.hid (elemP_leaf d hst hf)
  have hfw : e < 0 ∨ (0 ≤ e ∧ n ≤ e - ((p : Int) + 1)) := by omega
  rw [HEL.out]
  clear hst HEL hf
  rcases hfw with g1 | ⟨g1, g2⟩
  all_goals
    go_enter Tryz.func15, Tryz.ntmps15
    go_wp2_with fail
    refine (HS.out _).mono ?_
    rintro r w1 ⟨rfl, hb1⟩
    have HZ1 := Lib.hid (HZ.out.below hb1 HZ.out.lt)
    have HB1 := Lib.hid (HB0.out.trans (hb1.mono HB0.out.size))
    have HE1 := Lib.hid (HE0.out.below hb1)
    obtain ⟨k0, k1, k2, f0, f1, f2⟩ := told_facts HZ1.out
    have hlt := HZ1.out.lt
    clear hb1 HZ HB0 HE0 HS
    go_wp2_with fail
    have HKX : Hid (Row (w1.alloc (.cells #[.int .i64 c, .int .i64 t, .bool false, .int .i64 n] 32)) w1.heap.size 32 (hdC c t false n)) := Lib.hid (Row.new w1 32 (hdC c t false n))
    have HZX := Lib.hid (HZ1.out.alloc (.cells #[.int .i64 c, .int .i64 t, .bool false, .int .i64 n] 32))
    have HBX := Lib.hid (HB1.out.alloc HB1.out.size (.cells #[.int .i64 c, .int .i64 t, .bool false, .int .i64 n] 32))
    have HEX := Lib.hid (HE1.out.below ((Below.refl _ _).alloc (Nat.le_refl _) (.cells #[.int .i64 c, .int .i64 t, .bool false, .int .i64 n] 32)))
    clear HZ1 HB1 HE1 k0 k1 k2 f0 f1 f2
    generalize w1.alloc (.cells #[.int .i64 c, .int .i64 t, .bool false, .int .i64 n] 32) = X at *
    generalize w1.heap.size = kb at *
    have hne : kb ≠ w.heap.size := by omega
    obtain ⟨x0, x1, x2, x3, _, _, _, _⟩ := head_facts HKX.out
    have hXd : Below X.heap.size X X.drew := (Below.refl _ _).drew
    have HA := Lib.hid (refAnd_any (HEX.out.below hXd) (Nat.le_trans hb (Nat.le_trans HBX.out.size hXd.size)) (by have := HLL.out; omega) ⟨2, (p : Int), c, t, false, n, 0⟩)
    have HKd := Lib.hid (HKX.out.below hXd HKX.out.lt)
    have HZd := Lib.hid (HZX.out.below hXd HZX.out.lt)
    have HBd := Lib.hid (HBX.out.trans (hXd.mono HBX.out.size))
    unfold evV at HA
    have hpc : ((p + 1 : Nat) : Int) = (p : Int) + 1 := by omega
    have HLF := Lib.hid (fun (v5 : Value) (w5 : World) (he5 : Evs w5 base v5 (l ++ [(⟨2, (p : Int), c, t, false, n, 0⟩ : Ev)])) (hbw : base ≤ w5.heap.size) => refLeaf_any b (p + 1) n he5 hbw (by rw [List.length_append, HLL.out]; simp; omega) hs (by omega) (by omega) n0 n1)
    rw [hpc] at HLF
    clear hXd HKX HZX HBX HEX hpc
    go_region_held3 (fun w' => w'.cell? ⟨kb, 0, none⟩ = some (.int .i64 c) ∧ w'.cell? ⟨kb, 1, none⟩ = some (.int .i64 t) ∧ w'.cell? ⟨kb, 2, none⟩ = some (.bool false) ∧ w'.cell? ⟨kb, 3, none⟩ = some (.int .i64 n)) (first | exact ⟨z0, z1, z2, z3⟩ | exact ⟨y0, y1, y2, y3⟩ | exact ⟨x0, x1, x2, x3⟩ | exact ⟨(HK6.out.told3 hne _ _ _).cell 0, (HK6.out.told3 hne _ _ _).cell 1, (HK6.out.told3 hne _ _ _).cell 2, (HK6.out.told3 hne _ _ _).cell 3⟩) (first
      | (go_at_call 32; with_reducible refine (HA.out).mono ?_; rintro r w5 ⟨v5, rfl, he5, hb5⟩
         have HK5 := Lib.hid (HKd.out.below hb5 HKd.out.lt)
         have HZ5 := Lib.hid (HZd.out.below hb5 HZd.out.lt)
         have HB5 := Lib.hid (HBd.out.trans (hb5.mono HBd.out.size))
         have y0 : w5.cell? ⟨kb, 0, none⟩ = some (.int .i64 c) := HK5.out.cell 0
         have y1 : w5.cell? ⟨kb, 1, none⟩ = some (.int .i64 t) := HK5.out.cell 1
         have y2 : w5.cell? ⟨kb, 2, none⟩ = some (.bool false) := HK5.out.cell 2
         have y3 : w5.cell? ⟨kb, 3, none⟩ = some (.int .i64 n) := HK5.out.cell 3
         have HL := Lib.hid (HLF.out v5 w5 he5 (Nat.le_trans hb HB5.out.size))
         clear he5 hb5 HA HKd HZd HBd)
      | (go_at_call 31; with_reducible refine (HL.out).mono ?_; rintro r w6 ⟨v6, rfl, he6, hb6⟩
         have HK6 := Lib.hid (HK5.out.below hb6 HK5.out.lt)
         have HZ6 := Lib.hid (HZ5.out.below hb6 HZ5.out.lt)
         have HB6 := Lib.hid (HB5.out.trans (hb6.mono HB5.out.size))
         have HE6 := Lib.hid he6
         have z0 : w6.cell? ⟨kb, 0, none⟩ = some (.int .i64 c) := HK6.out.cell 0
         have z1 : w6.cell? ⟨kb, 1, none⟩ = some (.int .i64 t) := HK6.out.cell 1
         have z2 : w6.cell? ⟨kb, 2, none⟩ = some (.bool false) := HK6.out.cell 2
         have z3 : w6.cell? ⟨kb, 3, none⟩ = some (.int .i64 n) := HK6.out.cell 3
         have k0 : w6.cell? ⟨w.heap.size, 0, none⟩ = some (.slice none 0 0) := HZ6.out.cell 0
         have k1 : w6.cell? ⟨w.heap.size, 1, none⟩ = some (.int .i64 0) := HZ6.out.cell 1
         have k2 : w6.cell? ⟨w.heap.size, 2, none⟩ = some (.int .i64 0) := HZ6.out.cell 2
         have f0 := HZ6.out.frozen 0
         have f1 := HZ6.out.frozen 1
         have f2 := HZ6.out.frozen 2
         obtain ⟨oa6, m6, c6, rfl⟩ := he6.shaped
         simp only [tdV]
         clear he6 hb6 HL HK5 HZ5 HB5))
    all_goals
      have HRf := Lib.hid (told_set HZ6.out (.slice oa6 m6 c6) (leafP (bl b) (p + 1) n).e ((leafP (bl b) (p + 1) n).at_ : Int))
      have HBf := Lib.hid (told_below HB6.out (Nat.le_refl _) (.slice oa6 m6 c6) (leafP (bl b) (p + 1) n).e ((leafP (bl b) (p + 1) n).at_ : Int))
      have HEf := Lib.hid (HE6.out.told HZ6.out (.slice oa6 m6 c6) (.int .i64 (leafP (bl b) (p + 1) n).e) (.int .i64 ((leafP (bl b) (p + 1) n).at_ : Int)))
      clear HLF HK6 HZ6 HB6 HE6 x0 x1 x2 x3 y0 y1 y2 y3 z0 z1 z2 z3 k0 k1 k2 f0 f1 f2
      go_wp2
      exact bodyPost_ret (results_cell Tryz.results15 _ (ad := ⟨w.heap.size, 0, none⟩) rfl (told_load HRf.out)) rfl ⟨_, rfl, by unfold evLeaf; rw [List.append_cons]; exact HEf.out, HBf.out⟩
set_option maxRecDepth 100000 in
set_option maxHeartbeats 4000000 in
theorem refElem_deep (b : ByteArray) (hs : b.size ≤ 1000000) {i : Nat} {e op most : Int} {base : Nat} {v : Value} {l : List Ev} {w : World} (h : Evs w base v l) (hb : base ≤ w.heap.size) (hi : i ≤ b.size) (hl : l.length + (b.size - i) ≤ 40000000) (he1 : e ≤ 3000000000000000000) (HM : Hid (most = op)) {c t : Int} {n : Int} {p : Nat} (hst : startL [] ((bl b).drop i) i e = ((c, t, true, n), p, 0)) (p1 : i + 1 ≤ p) (p2 : p < b.size) (n0 : 0 ≤ n) (n1 : n ≤ 2305843009213693951) (hf : ¬ (0 ≤ e ∧ e - ((p + 1 : Nat) : Int) < n)) :
  Calls Tryz.prog 15 #[.string b, v, .int .i64 (i : Int), .int .i64 e, .int .i64 op, .int .i64 most] w fun r w' => ∃ v', r = .returned (tdV v' (elemP (bl b) 0 i e).e ((elemP (bl b) 0 i e).at_ : Int)) ∧ Evs w' base v' (l ++ (elemP (bl b) 0 i e).l) ∧ Below w.heap.size w w' := by
 have HS := Lib.hid (refStart_any b i e hs hi)
 rw [hst] at HS
 simp only [stV, hdV] at HS
 have HZ := Lib.hid (Row.new w 27 (tdC (.slice none 0 0) 0 0))
 have HB0 : Hid (Below w.heap.size w (w.alloc (.cells (tdC (.slice none 0 0) 0 0).toArray 27))) := Lib.hid ((Below.refl _ _).alloc (Nat.le_refl _) _)
 have HE0 := Lib.hid (h.below HB0.out)
 obtain ⟨oa, cc, rfl⟩ := h.form
 obtain ⟨ln, hll⟩ : ∃ ln, l.length = ln := ⟨_, rfl⟩
 rw [hll] at hl HE0 ⊢
 have HLL := Lib.hid hll
 clear hll h
 have hq : ((0 : Int) != 0) = false := rfl
 have hfw : e < 0 ∨ (0 ≤ e ∧ n ≤ e - ((p : Int) + 1)) := by omega
 have HEL := Lib.hid (elemP_deep hst hf)
 rw [HEL.out]
 have hom : (op == most) = true := by have := HM.out; simp; omega
 clear hst HEL hf
 rcases hfw with g1 | ⟨g1, g2⟩
 all_goals
  go_enter Tryz.func15, Tryz.ntmps15
  go_wp2_with fail
  refine (HS.out _).mono ?_
  rintro r w1 ⟨rfl, hb1⟩
  have HZ1 := Lib.hid (HZ.out.below hb1 HZ.out.lt)
  have HB1 := Lib.hid (HB0.out.trans (hb1.mono HB0.out.size))
  have HE1 := Lib.hid (HE0.out.below hb1)
  obtain ⟨k0, k1, k2, f0, f1, f2⟩ := told_facts HZ1.out
  have hlt := HZ1.out.lt
  clear hb1 HZ HB0 HE0 HS
  have HRf := Lib.hid ((told_set HZ1.out (.slice oa ln cc) 10 (p : Int)).alloc (.cells (hdC c t true n).toArray 32))
  have HBf := Lib.hid ((told_below HB1.out (Nat.le_refl _) (.slice oa ln cc) 10 (p : Int)).alloc (by rw [size_set3]; exact HB1.out.size) (.cells (hdC c t true n).toArray 32))
  have HEf := Lib.hid ((HE1.out.told HZ1.out (.slice oa ln cc) (.int .i64 10) (.int .i64 (p : Int))).below ((Below.refl _ _).alloc (Nat.le_refl _) (.cells (hdC c t true n).toArray 32)))
  clear HE1 HB1
  go_wp2
  exact bodyPost_ret (results_cell Tryz.results15 _ (ad := ⟨w.heap.size, 0, none⟩) rfl (told_load HRf.out)) rfl ⟨_, rfl, by first | exact HEf.out | (rw [List.append_nil]; exact HEf.out), HBf.out⟩
end Go.Proofs.YtiiimhamfibdbaaGreat
/- What the reference's element gives where elements within it are looked at. -/
namespace Go.Proofs.YtiiimhamfibdbaaGreat
open Go.RowKit Go.PlainAid
set_option linter.unusedVariables false
theorem elem_prog (b : List Int) (hb : IsB b) (d j : Nat) (e : Int) (hj : j ≤ b.length) (he : e = -1 ∨ (j : Int) ≤ e) (h0 : (elemP b d j e).e = 0) : j < (elemP b d j e).at_ := by
 have hE : ∃ st, EndAt st j e := by
  rcases he with h | h
  ·exact ⟨[], .inl ⟨rfl, h⟩⟩
  ·exact ⟨[e - j], .inr ⟨e - j, [], rfl, by omega, by omega⟩⟩
 obtain ⟨st, hE⟩ := hE
 obtain ⟨k, k1, k2, _⟩ := (elem_run b hb d st j e [] hE hj).2 h0
 omega
set_option maxRecDepth 100000 in
set_option maxHeartbeats 4000000 in
theorem refElem_open (b : ByteArray) (hs : b.size ≤ 1000000) {i : Nat} {e op most : Int} {base : Nat} {v : Value} {l : List Ev} {w : World} (h : Evs w base v l) (hb : base ≤ w.heap.size) (hi : i ≤ b.size) (hl : l.length + (b.size - i) ≤ 40000000) (he1 : e ≤ 3000000000000000000) (d : Nat) (IH : ElemC b d) (HM : Hid (most = op + ((d + 1 : Nat) : Int))) (ho : 0 ≤ op) (hm1 : most ≤ 64) {c t : Int} {n : Int} {p : Nat} (hst : startL [] ((bl b).drop i) i e = ((c, t, true, n), p, 0)) (p1 : i + 1 ≤ p) (p2 : p < b.size) (n0 : 0 ≤ n) (n1 : n ≤ 2305843009213693951) (hf : ¬ (0 ≤ e ∧ e - ((p + 1 : Nat) : Int) < n)) :
    Calls Tryz.prog 15 #[.string b, v, .int .i64 (i : Int), .int .i64 e, .int .i64 op, .int .i64 most] w fun r w' => ∃ v', r = .returned (tdV v' (elemP (bl b) (d + 1) i e).e ((elemP (bl b) (d + 1) i e).at_ : Int)) ∧ Evs w' base v' (l ++ (elemP (bl b) (d + 1) i e).l) ∧ Below w.heap.size w w' := by
  have HS := Lib.hid (refStart_any b i e hs hi)
  rw [hst] at HS
  simp only [stV, hdV] at HS
  have HZ := Lib.hid (Row.new w 27 (tdC (.slice none 0 0) 0 0))
  have HB0 : Hid (Below w.heap.size w (w.alloc (.cells (tdC (.slice none 0 0) 0 0).toArray 27))) := Lib.hid ((Below.refl _ _).alloc (Nat.le_refl _) _)
  have HE0 := Lib.hid (h.below HB0.out)
  obtain ⟨oa, cc, rfl⟩ := h.form
  obtain ⟨ln, hll⟩ : ∃ ln, l.length = ln := ⟨_, rfl⟩
  rw [hll] at hl HE0 ⊢
  have HLL := Lib.hid hll
  clear hll h
  have hq : ((0 : Int) != 0) = false := rfl
  have hfw : e < 0 ∨ (0 ≤ e ∧ n ≤ e - ((p : Int) + 1)) := by omega
  have HEL := Lib.hid (elemP_open d hst hf)
  rw [HEL.out]
  have hop : op ≤ 63 := by have := HM.out; omega
  have hom : (op == most) = false := by have := HM.out; simp; omega
  have HI := Lib.hid IH
  have HLE := Lib.hid (fun (j : Nat) (hj : j ≤ (bl b).length) (h2 : (j : Int) < ((p + 1 : Nat) : Int) + n) => elem_len (bl b) (bl_isB b) d j (((p + 1 : Nat) : Int) + n) hj (.inr (by omega)))
  obtain ⟨T, hT⟩ : ∃ T, loopP (fun i => elemP (bl b) d i (((p + 1 : Nat) : Int) + n)) ((bl b).length + 1) ⟨[evEnter p c t true n], 0, p + 1⟩ (((p + 1 : Nat) : Int) + n) = T := ⟨_, rfl⟩
  rw [hT]
  obtain ⟨R, hR⟩ : ∃ R, (if T.e ≠ 0 then T else ⟨T.l ++ [evExit (T.at_ - 1)], 0, T.at_⟩ : Told) = R := ⟨_, rfl⟩
  rw [hR]
  have HRR := Lib.hid hR
  clear hR
  have hpc : ((p + 1 : Nat) : Int) = (p : Int) + 1 := by omega
  rw [hpc, bl_length] at hT
  rw [hpc, bl_length] at HLE
  have HT := Lib.hid hT
  clear hpc
  clear hst HEL hf hT IH
  rcases hfw with g1 | ⟨g1, g2⟩
  all_goals
    go_enter Tryz.func15, Tryz.ntmps15
    go_wp2_with fail
    refine (HS.out _).mono ?_
    rintro r w1 ⟨rfl, hb1⟩
    have HZ1 := Lib.hid (HZ.out.below hb1 HZ.out.lt)
    have HB1 := Lib.hid (HB0.out.trans (hb1.mono HB0.out.size))
    have HE1 := Lib.hid (HE0.out.below hb1)
    obtain ⟨k0, k1, k2, f0, f1, f2⟩ := told_facts HZ1.out
    have hlt := HZ1.out.lt
    clear hb1 HZ HB0 HE0 HS
    go_wp2_with fail
    have HKX : Hid (Row (w1.alloc (.cells #[.int .i64 c, .int .i64 t, .bool true, .int .i64 n] 32)) w1.heap.size 32 (hdC c t true n)) := Lib.hid (Row.new w1 32 (hdC c t true n))
    have HZX := Lib.hid (HZ1.out.alloc (.cells #[.int .i64 c, .int .i64 t, .bool true, .int .i64 n] 32))
    have HBX := Lib.hid (HB1.out.alloc HB1.out.size (.cells #[.int .i64 c, .int .i64 t, .bool true, .int .i64 n] 32))
    have HEX := Lib.hid (HE1.out.below ((Below.refl _ _).alloc (Nat.le_refl _) (.cells #[.int .i64 c, .int .i64 t, .bool true, .int .i64 n] 32)))
    have hXs : (w1.alloc (.cells #[.int .i64 c, .int .i64 t, .bool true, .int .i64 n] 32)).heap.size = w1.heap.size + 1 := by simp
    clear HZ1 HB1 HE1 k0 k1 k2 f0 f1 f2
    generalize w1.alloc (.cells #[.int .i64 c, .int .i64 t, .bool true, .int .i64 n] 32) = X at *
    generalize w1.heap.size = kb at *
    have hne : kb ≠ w.heap.size := by omega
    have HA := Lib.hid (refAnd_any HEX.out (Nat.le_trans hb HBX.out.size) (by have := HLL.out; omega) ⟨1, (p : Int), c, t, true, n, 0⟩)
    unfold evV at HA
    refine (HA.out).mono ?_
    rintro r w5 ⟨v5, rfl, he5, hb5⟩
    have HKY := Lib.hid ((HKX.out.below hb5 HKX.out.lt).alloc (.cells (tdC v5 0 ((p : Int) + 1)).toArray 27))
    have HZY := Lib.hid ((HZX.out.below hb5 HZX.out.lt).alloc (.cells (tdC v5 0 ((p : Int) + 1)).toArray 27))
    have HTY := Lib.hid (Row.new w5 27 (tdC v5 0 ((p : Int) + 1)))
    have hb5' : Below w5.heap.size w5 (w5.alloc (.cells (tdC v5 0 ((p : Int) + 1)).toArray 27)) := (Below.refl _ _).alloc (Nat.le_refl _) _
    have HEY := Lib.hid (he5.below hb5')
    have HBY := Lib.hid ((HBX.out.trans (hb5.mono HBX.out.size)).trans (hb5'.mono (Nat.le_trans HBX.out.size hb5.size)))
    have hkt : kb < w5.heap.size := Nat.lt_of_lt_of_le (by omega) hb5.size
    obtain ⟨o5, m5, c5, rfl⟩ := he5.shaped
    clear hb5' hb5 he5 HA HKX HZX HBX HEX hXs
    obtain ⟨kt, hktt⟩ : ∃ kt, w5.heap.size = kt := ⟨_, rfl⟩
    rw [hktt] at HTY hkt
    go_wp2_with fail
    clear hktt
    have hne2 : kt ≠ w.heap.size := by omega
    have hne3 : kb ≠ kt := by omega
    go_loopg [] (b.size + 1) (fun g wr => ∃ (a : Nat) (ls : List Ev) (oa1 : Option Addr) (m1 c1 : Nat), a ≤ b.size ∧ b.size + 1 - a ≤ g ∧ i + 1 ≤ a ∧ ls.length + 1 ≤ a - i ∧ Hid (loopP (fun i => elemP (bl b) d i ((p : Int) + 1 + n)) g ⟨ls, 0, a⟩ ((p : Int) + 1 + n) = T) ∧ Hid (Evs wr base (.slice oa1 m1 c1) (l ++ ls)) ∧ Hid (Row wr kt 27 (tdC (.slice oa1 m1 c1) 0 (a : Int))) ∧ Hid (Row wr kb 32 (hdC c t true n)) ∧ Hid (Row wr w.heap.size 27 (tdC (.slice none 0 0) 0 0)) ∧ Hid (Below w.heap.size w wr))
    case atStart => exact ⟨p + 1, [evEnter p c t true n], o5, m5, c5, by omega, by omega, by omega, by simp; omega, HT, HEY, HTY, HKY, HZY, HBY⟩
    case round =>
      clear HT HEY HTY HKY HZY HBY
      obtain ⟨a, ls, oa1, m1, c1, ha, hg, hia, hll, HT, HE, HTd, HK, HZ, HB⟩ := hrel
      obtain ⟨t0, t1, t2, g0, g1', g2⟩ := told_facts HTd.out
      obtain ⟨h0, h1, h2, h3, _, _, _, _⟩ := head_facts HK.out
      by_cases hlt2 : (a : Int) < (p : Int) + 1 + n
      · obtain ⟨gk', rfl⟩ : ∃ gk', gk = gk' + 1 := ⟨gk - 1, by omega⟩
        have hok := HLE.out a ha hlt2
        have hpr := elem_prog (bl b) (bl_isB b) d a ((p : Int) + 1 + n) (by rw [bl_length]; exact ha) (.inr (by omega))
        have HC := Lib.hid (HI.out a ((p : Int) + 1 + n) (op + 1) most base (.slice oa1 m1 c1) (l ++ ls) wr HE.out (Nat.le_trans hb HB.out.size) ha (by rw [List.length_append, HLL.out]; omega) (.inr (by omega)) (by omega) (by omega) (by have := HM.out; omega) hm1)
        have hT := HT.out
        rw [loopP, if_pos hlt2] at hT
        obtain ⟨l2, e2, a2, hel⟩ : ∃ l2 e2 a2, elemP (bl b) d a ((p : Int) + 1 + n) = ⟨l2, e2, a2⟩ := ⟨_, _, _, rfl⟩
        rw [hel] at hT hok hpr HC
        obtain ⟨q1, q2, q3⟩ := hok
        simp only at hT hpr HC q1 q2 q3
        have HT2 := Lib.hid hT
        clear hT HT hel
        go_wp2_with fail
        refine (HC.out).mono ?_
        rintro r w6 ⟨v6, rfl, he6, hb6⟩
        have HT6 := Lib.hid (HTd.out.below hb6 HTd.out.lt)
        have HK6 := Lib.hid (HK.out.below hb6 HK.out.lt)
        have HZ6 := Lib.hid (HZ.out.below hb6 HZ.out.lt)
        have HB6 := Lib.hid (HB.out.trans (hb6.mono HB.out.size))
        obtain ⟨oa6, m6, c6, rfl⟩ := he6.shaped
        rw [List.append_assoc] at he6
        have HE6 := Lib.hid he6
        clear hb6 he6 HC HTd HK HZ HB HE t0 t1 t2 g0 g1' g2 h0 h1 h2 h3
        simp only [tdV]
        obtain ⟨t0, t1, t2, g0, g1', g2⟩ := told_facts HT6.out
        have HT7 := Lib.hid (told_set HT6.out (.slice oa6 m6 c6) e2 (a2 : Int))
        have HK7 := Lib.hid (HK6.out.told3 hne3 (.slice oa6 m6 c6) (.int .i64 e2) (.int .i64 (a2 : Int)))
        have HZ7 := Lib.hid (HZ6.out.told3 hne2.symm (.slice oa6 m6 c6) (.int .i64 e2) (.int .i64 (a2 : Int)))
        have HB7 := Lib.hid (told_below HB6.out (show w.heap.size ≤ kt by omega) (.slice oa6 m6 c6) e2 (a2 : Int))
        have HE7 := Lib.hid (HE6.out.told HT6.out (.slice oa6 m6 c6) (.int .i64 e2) (.int .i64 (a2 : Int)))
        clear HE6 HB6 HK6
        by_cases he2 : e2 = 0
        · have hq2 : (e2 != 0) = false := by simpa using he2
          have HT3 : Hid (loopP (fun i => elemP (bl b) d i ((p : Int) + 1 + n)) gk' ⟨ls ++ l2, 0, a2⟩ ((p : Int) + 1 + n) = T) := Lib.hid (by rw [← HT2.out, if_neg (by simpa using he2)])
          have hpr2 := hpr he2
          subst he2
          clear HT2 hpr
          go_wp2
          go_roundg gk'
          case measure => omega
          case rel => exact ⟨a2, ls ++ l2, oa6, m6, c6, q2, by omega, by omega, by rw [List.length_append]; omega, HT3, HE7, HT7, HK7, HZ7, HB7⟩
        · have hq2 : (e2 != 0) = true := by simpa using he2
          have hTT : T = ⟨ls ++ l2, e2, a2⟩ := by rw [← HT2.out, if_pos he2]
          subst hTT
          have hTe : R = ⟨ls ++ l2, e2, a2⟩ := by rw [← HRR.out]; exact if_pos he2
          subst hTe
          clear HT2 hpr HRR
          obtain ⟨z0, z1, z2, j0, j1, j2⟩ := told_facts HZ6.out
          have HRf := Lib.hid (told_set HZ7.out (.slice oa6 m6 c6) e2 (a2 : Int))
          have HBf := Lib.hid (told_below HB7.out (Nat.le_refl _) (.slice oa6 m6 c6) e2 (a2 : Int))
          have HEf := Lib.hid (HE7.out.told HZ7.out (.slice oa6 m6 c6) (.int .i64 e2) (.int .i64 (a2 : Int)))
          clear HT7 HK7 HZ7 HB7 HE7 HI HLE HM HLL
          have hlt7 := HZ6.out.lt
          have hlt8 := HT6.out.lt
          go_wp2
          exact bodyPost_ret (results_cell Tryz.results15 _ (ad := ⟨w.heap.size, 0, none⟩) rfl (told_load HRf.out)) rfl ⟨_, rfl, HEf.out, HBf.out⟩
      · have hTT : T = ⟨ls, 0, a⟩ := by
          obtain ⟨gk', rfl⟩ : ∃ gk', gk = gk' + 1 := ⟨gk - 1, by omega⟩
          rw [← HT.out, loopP, if_neg hlt2]
        subst hTT
        have hTe : R = ⟨ls ++ [⟨5, (a : Int) - 1, 0, 0, false, 0, 0⟩], 0, a⟩ := by
          rw [← HRR.out, if_neg (by simp)]
          unfold evExit
          rw [show ((a - 1 : Nat) : Int) = (a : Int) - 1 by omega]
        subst hTe
        clear HT HLE HI HM HRR
        go_wp2_with fail
        have hwr : IntKind.i64.wrap ((a : Int) - 1) = (a : Int) - 1 := IntWalk.i64_in _ (by omega)
        have hXd : Below wr.heap.size wr wr.drew := (Below.refl _ _).drew
        have HA := Lib.hid (refAnd_any (HE.out.below hXd) (Nat.le_trans hb (Nat.le_trans HB.out.size hXd.size)) (by rw [List.length_append, HLL.out]; omega) ⟨5, (a : Int) - 1, 0, 0, false, 0, 0⟩)
        have HTdd := Lib.hid (HTd.out.below hXd HTd.out.lt)
        have HZd := Lib.hid (HZ.out.below hXd HZ.out.lt)
        have HBd := Lib.hid (HB.out.trans (hXd.mono HB.out.size))
        unfold evV at HA
        clear hXd HTd HZ HB HE HK h0 h1 h2 h3 g0 g1' g2
        go_region_held3 (fun w' => w'.cell? ⟨kt, 0, none⟩ = some (.slice oa1 m1 c1) ∧ w'.cell? ⟨kt, 2, none⟩ = some (.int .i64 (a : Int))) (first | exact ⟨y0, y2⟩ | exact ⟨t0, t2⟩ | exact ⟨(HT6.out.told3 hne2 _ _ _).cell 0, (HT6.out.told3 hne2 _ _ _).cell 2⟩) (first
          | (go_at_call 32; with_reducible refine (HA.out).mono ?_; rintro r w6 ⟨v6, rfl, he6, hb6⟩
             have HT6 := Lib.hid (HTdd.out.below hb6 HTdd.out.lt)
             have HZ6 := Lib.hid (HZd.out.below hb6 HZd.out.lt)
             have HB6 := Lib.hid (HBd.out.trans (hb6.mono HBd.out.size))
             have y0 : w6.cell? ⟨kt, 0, none⟩ = some (.slice oa1 m1 c1) := HT6.out.cell 0
             have y2 : w6.cell? ⟨kt, 2, none⟩ = some (.int .i64 (a : Int)) := HT6.out.cell 2
             have k0 : w6.cell? ⟨w.heap.size, 0, none⟩ = some (.slice none 0 0) := HZ6.out.cell 0
             have k1 : w6.cell? ⟨w.heap.size, 1, none⟩ = some (.int .i64 0) := HZ6.out.cell 1
             have k2 : w6.cell? ⟨w.heap.size, 2, none⟩ = some (.int .i64 0) := HZ6.out.cell 2
             have f0 := HZ6.out.frozen 0
             have f1 := HZ6.out.frozen 1
             have f2 := HZ6.out.frozen 2
             obtain ⟨oa6, m6, c6, rfl⟩ := he6.shaped
             have HE6 := Lib.hid he6
             clear he6 hb6 HA HTdd HZd HBd))
        all_goals
          have HRf := Lib.hid (told_set HZ6.out (.slice oa6 m6 c6) 0 (a : Int))
          have HBf := Lib.hid (told_below HB6.out (Nat.le_refl _) (.slice oa6 m6 c6) 0 (a : Int))
          have HEf := Lib.hid (HE6.out.told HZ6.out (.slice oa6 m6 c6) (.int .i64 0) (.int .i64 (a : Int)))
          clear HT6 HZ6 HB6 HE6 t0 t1 t2 y0 y2 k0 k1 k2 f0 f1 f2
          go_wp2
          exact bodyPost_ret (results_cell Tryz.results15 _ (ad := ⟨w.heap.size, 0, none⟩) rfl (told_load HRf.out)) rfl ⟨_, rfl, by rw [← List.append_assoc]; exact HEf.out, HBf.out⟩
theorem refElem_any (b : ByteArray) (hs : b.size ≤ 1000000) : ∀ d, ElemC b d := by
 intro d
 induction d with
 |zero =>
  intro i e op most base v l w h hb hi hl he he1 ho hm hm1
  obtain ⟨c, t, f, n, p, er, hst⟩ : ∃ c t f n p er, startL [] ((bl b).drop i) i e = ((c, t, f, n), p, er) := ⟨_, _, _, _, _, _, rfl⟩
  by_cases h0 : er = 0
  ·subst h0
   obtain ⟨p1, p2, n0, n1⟩ := start_ok (bl_isB b) he hst
   rw [bl_length] at p2
   by_cases hf : 0 ≤ e ∧ e - ((p + 1 : Nat) : Int) < n
   ·exact refElem_fit b hs h hb hi hl he1 0 hst p1 p2 n0 n1 hf
   ·cases f with
    |false => exact refElem_leaf b hs h hb hi hl he1 0 hst p1 p2 n0 n1 hf
    |true => exact refElem_deep b hs h hb hi hl he1 (Lib.hid (by omega)) hst p1 p2 n0 n1 hf
  ·exact refElem_err b hs h hb hi hl he1 0 hst h0
 |succ d ih =>
  intro i e op most base v l w h hb hi hl he he1 ho hm hm1
  obtain ⟨c, t, f, n, p, er, hst⟩ : ∃ c t f n p er, startL [] ((bl b).drop i) i e = ((c, t, f, n), p, er) := ⟨_, _, _, _, _, _, rfl⟩
  by_cases h0 : er = 0
  ·subst h0
   obtain ⟨p1, p2, n0, n1⟩ := start_ok (bl_isB b) he hst
   rw [bl_length] at p2
   by_cases hf : 0 ≤ e ∧ e - ((p + 1 : Nat) : Int) < n
   ·exact refElem_fit b hs h hb hi hl he1 (d + 1) hst p1 p2 n0 n1 hf
   ·cases f with
    |false => exact refElem_leaf b hs h hb hi hl he1 (d + 1) hst p1 p2 n0 n1 hf
    |true => exact refElem_open b hs h hb hi hl he1 d ih (Lib.hid hm) ho hm1 hst p1 p2 n0 n1 hf
  ·exact refElem_err b hs h hb hi hl he1 (d + 1) hst h0
end Go.Proofs.YtiiimhamfibdbaaGreat
/- What the reference's Whole of layer 9 gives. -/
namespace Go.Proofs.YtiiimhamfibdbaaGreat
open Go.RowKit Go.PlainAid
set_option linter.unusedVariables false
def evMost (depth : Int) : Nat := (max 0 (min depth 64)).toNat
theorem evMost_le (d : Int) : evMost d ≤ 64 := by unfold evMost; omega
def evW (b : ByteArray) (depth : Int) : List Ev × Int × Nat := evWhole (evMost depth) (bl b)
set_option maxRecDepth 100000 in
set_option maxHeartbeats 4000000 in
theorem refEvWhole_any (b : ByteArray) (depth : Int) (hs : b.size ≤ 1000000) (hd : -9223372036854775808 ≤ depth ∧ depth ≤ 9223372036854775807) (w : World) :
  Calls Tryz.prog 8 #[.string b, .int .i64 depth] w fun r w' => ∃ v', r = .returned (tdV v' (evW b depth).2.1 ((evW b depth).2.2 : Int)) ∧ Evs w' w.heap.size v' (evW b depth).1 ∧ Below w.heap.size w w' := by
 have HW := Lib.hid (whole_is (bl b) (bl_isB b) (evMost depth))
 obtain ⟨m, hm⟩ : ∃ m, evMost depth = m := ⟨_, rfl⟩
 have hm64 : m ≤ 64 := hm ▸ evMost_le depth
 have HC := Lib.hid (fun (w' : World) (hw : w.heap.size ≤ w'.heap.size) => refElem_any b hs m 0 (-1) 0 (m : Int) w.heap.size (.slice none 0 0) [] w' (Evs.nil _ _) hw (Nat.zero_le _) (by simp; omega) (.inl rfl) (by decide) (by decide) (by omega) (by omega))
 unfold evW
 rw [hm] at HW ⊢
 rw [bl_length] at HW
 obtain ⟨l, e, a, hel⟩ : ∃ l e a, elemP (bl b) m 0 (-1) = ⟨l, e, a⟩ := ⟨_, _, _, rfl⟩
 rw [hel] at HW HC
 have HZ := Lib.hid (Row.new w 27 (tdC (.slice none 0 0) 0 0))
 have HB0 : Hid (Below w.heap.size w (w.alloc (.cells (tdC (.slice none 0 0) 0 0).toArray 27))) := Lib.hid ((Below.refl _ _).alloc (Nat.le_refl _) _)
 clear hel
 obtain ⟨d0, d1⟩ := hd
 have hdw : (depth < 0 ∧ (0 : Int) = m) ∨ (0 ≤ depth ∧ 64 < depth ∧ (64 : Int) = m) ∨ (0 ≤ depth ∧ depth ≤ 64 ∧ depth = (m : Int)) := by unfold evMost at hm; omega
 rw [HW.out]
 obtain ⟨R, hR⟩ : ∃ R, (if e = 0 ∧ a < b.size then 6 else e : Int) = R := ⟨_, rfl⟩
 have hR2 : (if (⟨l, e, a⟩ : Told).e = 0 ∧ (⟨l, e, a⟩ : Told).at_ < b.size then 6 else (⟨l, e, a⟩ : Told).e : Int) = R := hR
 rw [hR2]
 have HR := Lib.hid hR
 clear HW hm hR hR2
 rcases hdw with ⟨g1, gm⟩ | ⟨g1, g2, gm⟩ | ⟨g1, g2, gm⟩
 all_goals
  rw [← gm] at HC
  clear gm
  go_enter Tryz.func8, Tryz.ntmps8
  go_wp2_with fail
  refine (HC.out _ (by simp)).mono ?_
  rintro r w1 ⟨v1, rfl, he1, hb1⟩
  have HZ1 := Lib.hid (HZ.out.below hb1 HZ.out.lt)
  have HB1 := Lib.hid (HB0.out.trans (hb1.mono HB0.out.size))
  have HE1 := Lib.hid (show Evs w1 w.heap.size v1 l from he1)
  obtain ⟨o1, m1, c1, rfl⟩ := he1.shaped
  obtain ⟨k0, k1, k2, f0, f1, f2⟩ := told_facts HZ1.out
  have hlt := HZ1.out.lt
  clear he1 hb1 HZ HB0 HC
  simp only [tdV]
  by_cases h6 : e = 0 ∧ a < b.size
  ·have hRe : R = 6 := by rw [← HR.out, if_pos h6]
   subst hRe
   obtain ⟨he, ha⟩ := h6
   subst he
   have ha2 : (a : Int) < (b.size : Int) := by omega
   clear HR ha
   have HRf := Lib.hid ((told_set HZ1.out (.slice o1 m1 c1) 6 (a : Int)).alloc (.cells (tdC (.slice o1 m1 c1) 6 (a : Int)).toArray 27))
   have HBf := Lib.hid ((told_below HB1.out (Nat.le_refl _) (.slice o1 m1 c1) 6 (a : Int)).alloc (by rw [size_set3]; exact HB1.out.size) (.cells (tdC (.slice o1 m1 c1) 6 (a : Int)).toArray 27))
   have HEf := Lib.hid ((HE1.out.told HZ1.out (.slice o1 m1 c1) (.int .i64 6) (.int .i64 (a : Int))).below ((Below.refl _ _).alloc (Nat.le_refl _) (.cells (tdC (.slice o1 m1 c1) 6 (a : Int)).toArray 27)))
   clear HE1 HB1
   go_wp2
   exact bodyPost_ret (results_cell Tryz.results8 _ (ad := ⟨w.heap.size, 0, none⟩) rfl (told_load HRf.out)) rfl ⟨_, rfl, HEf.out, HBf.out⟩
  ·have hRe : R = e := by rw [← HR.out, if_neg h6]
   subst hRe
   have hw6 : ¬ R = 0 ∨ (R = 0 ∧ ¬ (a : Int) < (b.size : Int)) := by omega
   clear HR h6
   rcases hw6 with q | ⟨q, q2⟩
   ·have hq : (R == 0) = false := by simpa using q
    clear q
    have HRf := Lib.hid ((told_set HZ1.out (.slice o1 m1 c1) R (a : Int)).alloc (.cells (tdC (.slice o1 m1 c1) R (a : Int)).toArray 27))
    have HBf := Lib.hid ((told_below HB1.out (Nat.le_refl _) (.slice o1 m1 c1) R (a : Int)).alloc (by rw [size_set3]; exact HB1.out.size) (.cells (tdC (.slice o1 m1 c1) R (a : Int)).toArray 27))
    have HEf := Lib.hid ((HE1.out.told HZ1.out (.slice o1 m1 c1) (.int .i64 R) (.int .i64 (a : Int))).below ((Below.refl _ _).alloc (Nat.le_refl _) (.cells (tdC (.slice o1 m1 c1) R (a : Int)).toArray 27)))
    clear HE1 HB1
    go_wp2
    exact bodyPost_ret (results_cell Tryz.results8 _ (ad := ⟨w.heap.size, 0, none⟩) rfl (told_load HRf.out)) rfl ⟨_, rfl, HEf.out, HBf.out⟩
   ·subst q
    have HRf := Lib.hid ((told_set HZ1.out (.slice o1 m1 c1) 0 (a : Int)).alloc (.cells (tdC (.slice o1 m1 c1) 0 (a : Int)).toArray 27))
    have HBf := Lib.hid ((told_below HB1.out (Nat.le_refl _) (.slice o1 m1 c1) 0 (a : Int)).alloc (by rw [size_set3]; exact HB1.out.size) (.cells (tdC (.slice o1 m1 c1) 0 (a : Int)).toArray 27))
    have HEf := Lib.hid ((HE1.out.told HZ1.out (.slice o1 m1 c1) (.int .i64 0) (.int .i64 (a : Int))).below ((Below.refl _ _).alloc (Nat.le_refl _) (.cells (tdC (.slice o1 m1 c1) 0 (a : Int)).toArray 27)))
    clear HE1 HB1
    go_wp2
    exact bodyPost_ret (results_cell Tryz.results8 _ (ad := ⟨w.heap.size, 0, none⟩) rfl (told_load HRf.out)) rfl ⟨_, rfl, HEf.out, HBf.out⟩
end Go.Proofs.YtiiimhamfibdbaaGreat
/- What the reference's Same of layer 9 gives of one and the same events. -/
namespace Go.Proofs.YtiiimhamfibdbaaGreat
open Go.RowKit Go.PlainAid
set_option linter.unusedVariables false
theorem evCs_at (l : List Ev) (i : Nat) (h : i < l.length) (k : Nat) (hk : k < 7) : (evCs l)[i * 7 + k]? = (evC l[i])[k]? := by
 induction l generalizing i with
 |nil => simp at h
 |cons e r ih =>
  show (evC e ++ evCs r)[i * 7 + k]? = _
  cases i with
  |zero => rw [List.getElem?_append_left (by simp [evC]; omega)]; simp
  |succ i =>
   rw [List.getElem?_append_right (by simp [evC]; omega), show (i + 1) * 7 + k - (evC e).length = i * 7 + k by simp [evC]; omega, ih i (by simpa using h)]
   rfl
theorem Evs.cellAt {w : World} {base g c : Nat} {l : List Ev} {n : Nat} (h : Evs w base (.slice (some ⟨g, 0, none⟩) n c) l) (i : Nat) (hi : i < l.length) (k : Nat) (hk : k < 7) : w.cell? ⟨g, i * 7 + k, none⟩ = (evC l[i])[k]? := by
 rw [← evCs_at l i hi k hk]
 have hlt : i * 7 + k < (evCs l).length := by rw [evCs_length]; omega
 have hc := World.ownsRow.cells h (g := g) rfl (i * 7 + k) _ (List.getElem?_eq_getElem hlt)
 rw [show (⟨g, 0, none⟩ : Addr).add (i * 7 + k) = ⟨g, i * 7 + k, none⟩ by unfold Addr.add; split <;> simp_all] at hc
 rw [hc, List.getElem?_eq_getElem hlt]
theorem Evs.evAt {w : World} {base g c : Nat} {l : List Ev} {m : Nat} (h : Evs w base (.slice (some ⟨g, 0, none⟩) m c) l) (i : Nat) (hi : i < l.length) {k p c' t : Int} {f : Bool} {n b : Int} (he : l[i] = ⟨k, p, c', t, f, n, b⟩) :
  w.cell? ⟨g, i * 7, none⟩ = some (.int .i64 k) ∧ w.cell? ⟨g, i * 7 + 1, none⟩ = some (.int .i64 p) ∧ w.cell? ⟨g, i * 7 + 2, none⟩ = some (.int .i64 c') ∧ w.cell? ⟨g, i * 7 + 3, none⟩ = some (.int .i64 t) ∧ w.cell? ⟨g, i * 7 + 4, none⟩ = some (.bool f) ∧ w.cell? ⟨g, i * 7 + 5, none⟩ = some (.int .i64 n) ∧ w.cell? ⟨g, i * 7 + 6, none⟩ = some (.int .u8 b) := by
 have hc := h.cellAt i hi
 rw [he] at hc
 exact ⟨hc 0 (by decide), hc 1 (by decide), hc 2 (by decide), hc 3 (by decide), hc 4 (by decide), hc 5 (by decide), hc 6 (by decide)⟩
end Go.Proofs.YtiiimhamfibdbaaGreat
/- What the laws of layer 9 (and later ones) need of a machine's calls, whatever its memory is: MA says that block k holds a machine in state m, that writes the blocks F alone. -/
namespace Go.Proofs.YtiiimhamfibdbaaGreat
open Go.RowKit Go.PlainAid
set_option linter.unusedVariables false
abbrev EvPred := World → Nat → (Nat → Prop) → Nat → EM → Prop
structure EvSpec (MA : EvPred) : Prop where
 lt : ∀ {w k F d m}, MA w k F d m → ∀ i, F i → i < w.heap.size
 aside : ∀ {w w' k F F' d m}, MA w k F d m → Chg F' w w' → (∀ i, F i → ¬ F' i) → MA w' k F d m
 new : ∀ (depth : Int) (w : World), -9223372036854775808 ≤ depth ∧ depth ≤ 9223372036854775807 →
  Calls Tryz.prog 19 #[.int .i64 depth] w fun e w' => ∃ k F, e = .returned (.pointer (some ⟨k, 0, none⟩)) ∧ (∀ i, F i → w.heap.size ≤ i) ∧ MA w' k F (evMost depth) EM.new ∧ Below w.heap.size w w'
 push : ∀ {w k F d m} (b : Int), MA w k F d m → 0 ≤ b → b ≤ 255 → m.at_ ≤ 1000000 →
  Calls Tryz.prog 21 #[.pointer (some ⟨k, 0, none⟩), .int .u8 b] w fun e w' => ∃ v F', e = .returned (.tuple #[v, .int .i64 (m.step d b).1]) ∧ Evs w' w.heap.size v (m.step d b).2.1 ∧ (∀ i, F' i → F i ∨ w.heap.size ≤ i) ∧ (∀ i, v.ownBlock = some i → ¬ F' i) ∧ MA w' k F' d (m.step d b).2.2 ∧ Chg F w w'
 done : ∀ {w k F d m}, MA w k F d m →
  Calls Tryz.prog 23 #[.pointer (some ⟨k, 0, none⟩)] w fun e w' => e = .returned (.bool m.done) ∧ ∃ n, w' = w.drewN n
theorem refEvWhole_is (b : ByteArray) (depth : Int) (hs : b.size ≤ 1000000) (hd : -9223372036854775808 ≤ depth ∧ depth ≤ 9223372036854775807) {l : List Ev} {e : Int} {a : Nat} (hw : evW b depth = (l, e, a)) (w : World) :
  Calls Tryz.prog 8 #[.string b, .int .i64 depth] w fun r w' => ∃ oa n c, r = .returned (.agg #[.slice oa n c, .int .i64 e, .int .i64 (a : Int)]) ∧ Evs w' w.heap.size (.slice oa n c) l ∧ n = l.length ∧ Below w.heap.size w w' := by
 have h := refEvWhole_any b depth hs hd w
 rw [hw] at h
 refine h.mono ?_
 rintro r w' ⟨v, h1, h2, h3⟩
 obtain ⟨oa, c, rfl⟩ := h2.form
 exact ⟨oa, _, c, h1, h2, rfl, h3⟩
end Go.Proofs.YtiiimhamfibdbaaGreat
/- A machine's run, piece by piece, in plain words. They hold of numbers alone. -/
namespace Go.Proofs.YtiiimhamfibdbaaGreat
set_option linter.unusedVariables false
def EM.all (d : Nat) : EM → List Int → List Ev → Option (EM × List Ev)
 |m, [], acc => some (m, acc)
 |m, x :: r, acc => if (m.step d x).1 ≠ 0 then none else EM.all d (m.step d x).2.2 r (acc ++ (m.step d x).2.1)
theorem EM.all_append (d : Nat) (l r : List Int) : ∀ (m : EM) (acc : List Ev), EM.all d m (l ++ r) acc = (EM.all d m l acc).bind fun q => EM.all d q.1 r q.2 := by
 induction l with
 |nil => intro m acc; rfl
 |cons x l ih =>
  intro m acc
  rw [List.cons_append, EM.all, EM.all]
  by_cases h : (m.step d x).1 ≠ 0
  ·rw [if_pos h, if_pos h]; rfl
  ·rw [if_neg h, if_neg h, ih]
theorem EM.run_some (d : Nat) (l : List Int) : ∀ (m : EM) (acc : List Ev) {q : EM × List Ev}, EM.all d m l acc = some q → ∀ r, EM.run d m (l ++ r) acc = EM.run d q.1 r q.2 := by
 induction l with
 |nil => intro m acc q h r; cases h; rfl
 |cons x l ih =>
  intro m acc q h r
  rw [EM.all] at h
  by_cases h1 : (m.step d x).1 ≠ 0
  ·rw [if_pos h1] at h; cases h
  ·rw [if_neg h1] at h
   rw [List.cons_append, EM.run, if_neg h1]
   exact ih _ _ h r
theorem EM.run_done (d : Nat) {l : List Int} {m : EM} {acc : List Ev} {q : EM × List Ev} (h : EM.all d m l acc = some q) : EM.run d m l acc = (q.2, if q.1.done = true then 0 else 2, q.1.at_) := by
 have := EM.run_some d l m acc h []
 rw [List.append_nil] at this
 rw [this]; rfl
theorem EM.run_none (d : Nat) (l : List Int) : ∀ (m : EM) (acc : List Ev), EM.all d m l acc = none → ∀ r, EM.run d m (l ++ r) acc = EM.run d m l acc := by
 induction l with
 |nil => intro m acc h; cases h
 |cons x l ih =>
  intro m acc h r
  rw [EM.all] at h
  rw [List.cons_append, EM.run, EM.run]
  by_cases h1 : (m.step d x).1 ≠ 0
  ·rw [if_pos h1, if_pos h1]
  ·rw [if_neg h1] at h
   rw [if_neg h1, if_neg h1]
   exact ih _ _ h r
theorem EM.step_ok {d : Nat} {m : EM} {x : Int} (h : (m.step d x).1 = 0) : (m.step d x).2.2.at_ = m.at_ + 1 ∧ (m.step d x).2.2.over = 0 ∧ m.over = 0 ∧ m.done = false := by
 revert h
 unfold EM.step headM
 by_cases h0 : m.over ≠ 0
 ·rw [if_pos h0]; intro h; exact absurd h h0
 ·rw [if_neg h0]
  have hov : m.over = 0 := by simpa using h0
  by_cases h1 : m.done = true
  ·rw [if_pos h1]; simp
  ·rw [if_neg h1]
   have hdn : m.done = false := by simpa using h1
   by_cases h2 : 0 < m.leaf
   ·rw [if_pos h2]
    by_cases h3 : m.leaf = 1
    ·rw [if_pos h3]; intro _; exact ⟨rfl, rfl, hov, hdn⟩
    ·rw [if_neg h3]; intro _; exact ⟨rfl, hov, hov, hdn⟩
   ·rw [if_neg h2]
    by_cases h4 : m.st.head? = some 0
    ·rw [if_pos h4]; simp
    ·rw [if_neg h4]
     by_cases h5 : (hdGet (m.hd ++ [x])).2.2.2.2.2 = 2
     ·rw [if_pos h5]; intro _; exact ⟨rfl, hov, hov, hdn⟩
     ·rw [if_neg h5]
      by_cases h6 : (hdGet (m.hd ++ [x])).2.2.2.2.2 ≠ 0
      ·rw [if_pos h6]; intro h; exact absurd h h6
      ·rw [if_neg h6]
       by_cases h7 : headE d (pays m.st 1) (hdGet (m.hd ++ [x])).2.2.1 (hdGet (m.hd ++ [x])).2.2.2.1 ≠ 0
       ·rw [if_pos h7]; intro h; exact absurd h h7
       ·rw [if_neg h7]
        intro _
        refine ⟨?_, ?_, hov, hdn⟩
        ·show (if _ then _ else _ : EM).at_ = _
         split
         ·rfl
         ·split <;> rfl
        ·show (if _ then _ else _ : EM).over = _
         split
         ·rfl
         ·split <;> rfl
theorem headE_vals (d : Nat) (st : List Int) (f : Bool) (n : Int) : headE d st f n = 0 ∨ headE d st f n = 5 ∨ headE d st f n = 10 := by
 unfold headE
 split <;> (repeat' split) <;> simp
theorem EM.step_two {d : Nat} {m : EM} {x : Int} (h : m.over ≠ 2) : (m.step d x).1 ≠ 2 := by
 unfold EM.step
 by_cases h0 : m.over ≠ 0
 ·rw [if_pos h0]; exact h
 ·rw [if_neg h0]
  by_cases h1 : m.done = true
  ·rw [if_pos h1]; simp
  ·rw [if_neg h1]
   by_cases h2 : 0 < m.leaf
   ·rw [if_pos h2]; split <;> simp
   ·rw [if_neg h2]
    by_cases h4 : m.st.head? = some 0
    ·rw [if_pos h4]; simp
    ·rw [if_neg h4]
     by_cases h5 : (hdGet (m.hd ++ [x])).2.2.2.2.2 = 2
     ·rw [if_pos h5]; simp
     ·rw [if_neg h5]
      by_cases h6 : (hdGet (m.hd ++ [x])).2.2.2.2.2 ≠ 0
      ·rw [if_pos h6]; exact h5
      ·rw [if_neg h6]
       by_cases h7 : headE d (pays m.st 1) (hdGet (m.hd ++ [x])).2.2.1 (hdGet (m.hd ++ [x])).2.2.2.1 ≠ 0
       ·rw [if_pos h7]
        show headE d (pays m.st 1) (hdGet (m.hd ++ [x])).2.2.1 (hdGet (m.hd ++ [x])).2.2.2.1 ≠ 2
        have := headE_vals d (pays m.st 1) (hdGet (m.hd ++ [x])).2.2.1 (hdGet (m.hd ++ [x])).2.2.2.1
        omega
       ·rw [if_neg h7]; simp
theorem EM.all_at (d : Nat) (l : List Int) : ∀ (m : EM) (acc : List Ev) {q : EM × List Ev}, EM.all d m l acc = some q → m.over = 0 → q.1.at_ = m.at_ + l.length ∧ q.1.over = 0 := by
 induction l with
 |nil => intro m acc q h h0; cases h; exact ⟨rfl, h0⟩
 |cons x l ih =>
  intro m acc q h h0
  rw [EM.all] at h
  by_cases h1 : (m.step d x).1 ≠ 0
  ·rw [if_pos h1] at h; cases h
  ·rw [if_neg h1] at h
   obtain ⟨s1, s2, _, _⟩ := EM.step_ok (d := d) (m := m) (x := x) (by simpa using h1)
   obtain ⟨q1, q2⟩ := ih _ _ h s2
   exact ⟨by rw [q1, s1, List.length_cons]; omega, q2⟩
theorem EM.all_none (d : Nat) (l : List Int) : ∀ (m : EM) (acc : List Ev), EM.all d m l acc = none → m.over = 0 → (EM.run d m l acc).2.1 ≠ 0 ∧ (EM.run d m l acc).2.1 ≠ 2 ∧ m.at_ ≤ (EM.run d m l acc).2.2 ∧ (EM.run d m l acc).2.2 < m.at_ + l.length := by
 induction l with
 |nil => intro m acc h; cases h
 |cons x l ih =>
  intro m acc h h0
  rw [EM.all] at h
  rw [EM.run]
  by_cases h1 : (m.step d x).1 ≠ 0
  ·rw [if_pos h1]
   exact ⟨h1, EM.step_two (by omega), Nat.le_refl _, by simp⟩
  ·rw [if_neg h1] at h ⊢
   obtain ⟨s1, s2, _, _⟩ := EM.step_ok (d := d) (m := m) (x := x) (by simpa using h1)
   obtain ⟨q1, q2, q3, q4⟩ := ih _ _ h s2
   rw [s1] at q3 q4
   exact ⟨q1, q2, by omega, by rw [List.length_cons]; omega⟩
theorem whole_ok {d : Nat} {l : List Int} {L : List Ev} {a : Nat} (h : evWhole d l = (L, 0, a)) :
  a = l.length ∧ (∀ x r, evWhole d (l ++ x :: r) = (L, 6, l.length)) ∧ ∀ n, n < l.length → ∃ L', evWhole d (l.take n) = (L', 2, n) := by
 unfold evWhole at h ⊢
 have h0 : EM.new.over = 0 := rfl
 cases hq : EM.all d EM.new l [] with
 |none =>
  have := (EM.all_none d l EM.new [] hq h0).1
  rw [h] at this
  exact absurd rfl this
 |some q =>
  obtain ⟨q1, q2⟩ := EM.all_at d l EM.new [] hq h0
  have q1 : q.1.at_ = l.length := by rw [q1]; show 0 + l.length = l.length; omega
  have hr := EM.run_done d hq
  rw [h] at hr
  have hdone : q.1.done = true := by
   by_cases hd : q.1.done = true
   ·exact hd
   ·rw [if_neg hd] at hr
    simp at hr
  rw [if_pos hdone] at hr
  simp only [Prod.mk.injEq] at hr
  refine ⟨by rw [hr.2.2, q1], ?_, ?_⟩
  ·intro x r
   rw [EM.run_some d l EM.new [] hq (x :: r), EM.run]
   have hst : EM.step d q.1 x = (6, [], { q.1 with over := 6 }) := by
    unfold EM.step
    rw [if_neg (by simpa using q2), if_pos hdone]
   rw [hst, if_pos (show (6 : Int) ≠ 0 by decide), hr.1, q1]
  ·intro n hn
   have hsp : l.take n ++ l.drop n = l := List.take_append_drop n l
   have hal := EM.all_append d (l.take n) (l.drop n) EM.new []
   rw [hsp, hq] at hal
   cases hq2 : EM.all d EM.new (l.take n) [] with
   |none => rw [hq2] at hal; cases hal
   |some q' =>
    rw [hq2] at hal
    obtain ⟨p1, p2⟩ := EM.all_at d _ EM.new [] hq2 h0
    have hnd : q'.1.done = false := by
     obtain ⟨x, r, hx⟩ : ∃ x r, l.drop n = x :: r := by
      cases hd : l.drop n with
      |nil => have := congrArg List.length hd; rw [List.length_drop] at this; simp at this; omega
      |cons x r => exact ⟨x, r, rfl⟩
     have hal : some q = EM.all d q'.1 (l.drop n) q'.2 := hal
     rw [hx, EM.all] at hal
     by_cases hs : (q'.1.step d x).1 ≠ 0
     ·rw [if_pos hs] at hal; cases hal
     ·exact (EM.step_ok (d := d) (m := q'.1) (x := x) (by simpa using hs)).2.2.2
    refine ⟨q'.2, ?_⟩
    rw [EM.run_done d hq2, if_neg (by simp [hnd]), p1]
    show (_, _, 0 + (l.take n).length) = _
    rw [List.length_take]
    congr 2
    omega
end Go.Proofs.YtiiimhamfibdbaaGreat
/- Layer 9: what the laws need beside the contracts. -/
namespace Go.Proofs.YtiiimhamfibdbaaGreat
open Go.RowKit Go.PlainAid
set_option linter.unusedVariables false
theorem draws_below' {a : World} (w : World) (n : Nat) (h : a.heap.size ≤ w.heap.size) : Below a.heap.size w (w.drewN n) := ⟨rfl, rfl, rfl, Nat.le_refl _, fun _ _ => rfl⟩
theorem evW_len (b : ByteArray) (d : Int) : (evW b d).1.length ≤ b.size := by
 unfold evW
 rw [whole_is (bl b) (bl_isB b) (evMost d)]
 have h := elem_len (bl b) (bl_isB b) (evMost d) 0 (-1) (Nat.zero_le _) (.inl rfl)
 obtain ⟨_, h2, h3⟩ := h
 rw [bl_length] at h2
 show (elemP (bl b) (evMost d) 0 (-1)).l.length ≤ b.size
 omega
theorem evW_ok {b : ByteArray} {dep : Int} {L : List Ev} {a : Nat} (h : evW b dep = (L, 0, a)) :
  a = b.size ∧ (∀ m : ByteArray, m.size ≠ 0 → evW (b ++ m) dep = (L, 6, b.size)) ∧ ∀ n : Nat, n < b.size → ∃ L', evW (b.extract 0 n) dep = (L', 2, n) := by
 unfold evW at h ⊢
 obtain ⟨h1, h2, h3⟩ := whole_ok h
 rw [bl_length] at h1 h2 h3
 refine ⟨h1, ?_, ?_⟩
 ·intro m hm
  rw [bl_append]
  obtain ⟨x, r, hx⟩ : ∃ x r, bl m = x :: r := by
   cases hd : bl m with
   |nil => have := congrArg List.length hd; rw [bl_length] at this; exact absurd this hm
   |cons x r => exact ⟨x, r, rfl⟩
  rw [hx]; exact h2 x r
 ·intro n hn
  obtain ⟨L', hL⟩ := h3 n hn
  refine ⟨L', ?_⟩
  rw [bl_extract _ _ _ (by omega), List.drop_zero, Nat.sub_zero]; exact hL
theorem text_list {m : ByteArray} (h : m.size ≠ 0) : ¬ m.toList = [] := by
 intro he
 rw [ByteArray.toList_eq] at he
 exact h (by show m.data.size = 0; rw [← Array.length_toList, he]; rfl)
end Go.Proofs.YtiiimhamfibdbaaGreat
/- Layer 9: a machine as a law sees it, and a list of events that grows. -/
namespace Go.Proofs.YtiiimhamfibdbaaGreat
open Go.RowKit Go.PlainAid
set_option linter.unusedVariables false
structure MOn (MA : EvPred) (a w : World) (k : Nat) (F : Nat → Prop) (d : Nat) (m : EM) : Prop where
 at_ : MA w k F d m
 own : ∀ i, F i → a.heap.size ≤ i
 bel : Below a.heap.size a w
section
variable {MA : EvPred} {a w : World} {k : Nat} {F : Nat → Prop} {d : Nat} {m : EM}
theorem MOn.step (H : EvSpec MA) (h : MOn MA a w k F d m) {w' : World} (hb : Below w.heap.size w w') : MOn MA a w' k F d m :=
 ⟨H.aside (F' := fun _ => False) h.at_ ⟨hb.os, hb.tape, hb.output, hb.size, fun i hi _ => hb.block i hi⟩ (fun _ _ h => h), h.own, h.bel.trans (hb.mono h.bel.size)⟩
theorem EvSpec.new_on (H : EvSpec MA) (depth : Int) (hd : -9223372036854775808 ≤ depth ∧ depth ≤ 9223372036854775807) (hB : Below a.heap.size a w) :
  Calls Tryz.prog 19 #[.int .i64 depth] w fun e w' => ∃ k F, e = .returned (.pointer (some ⟨k, 0, none⟩)) ∧ MOn MA a w' k F (evMost depth) EM.new ∧ Below w.heap.size w w' := by
 refine (H.new depth w hd).mono ?_
 rintro e w' ⟨k, F, h1, h2, h3, h4⟩
 exact ⟨k, F, h1, ⟨h3, fun i hi => Nat.le_trans hB.size (h2 i hi), hB.trans (h4.mono hB.size)⟩, h4⟩
theorem EvSpec.push_on (H : EvSpec MA) (h : MOn MA a w k F d m) (b : Int) (h0 : 0 ≤ b) (h1 : b ≤ 255) (hat : m.at_ ≤ 1000000) {er : Int} {l : List Ev} {m' : EM} (hs : m.step d b = (er, l, m')) :
  Calls Tryz.prog 21 #[.pointer (some ⟨k, 0, none⟩), .int .u8 b] w fun e w' => ∃ oa n c F', e = .returned (.tuple #[.slice oa n c, .int .i64 er]) ∧ Evs w' w.heap.size (.slice oa n c) l ∧ n = l.length ∧ MOn MA a w' k F' d m' ∧ (∀ i, F' i → F i ∨ w.heap.size ≤ i) ∧ Chg F w w' := by
 have hp := H.push b h.at_ h0 h1 hat
 rw [hs] at hp
 refine hp.mono ?_
 rintro e w' ⟨v, F', e1, e2, e3, e4, e5, e6⟩
 obtain ⟨oa, c, rfl⟩ := e2.form
 exact ⟨oa, _, c, F', e1, e2, rfl, ⟨e5, fun i hi => by rcases e3 i hi with g | g; exact h.own i g; exact Nat.le_trans h.bel.size g, e6.to_below h.bel h.own⟩, e3, e6⟩
theorem EvSpec.done_on (H : EvSpec MA) (h : MOn MA a w k F d m) :
  Calls Tryz.prog 23 #[.pointer (some ⟨k, 0, none⟩)] w fun e w' => e = .returned (.bool m.done) ∧ MOn MA a w' k F d m ∧ ∃ n, w' = w.drewN n := by
 refine (H.done h.at_).mono ?_
 rintro e w' ⟨h1, n, rfl⟩
 exact ⟨h1, h.step H (draws_below' w n (Nat.le_refl _)), n, rfl⟩
theorem Evs.chg {v : Value} {l : List Ev} {base : Nat} (h : Evs w base v l) {w' : World} (hc : Chg F w w') (hF : ∀ i, v.ownBlock = some i → ¬ F i) : Evs w' base v l := by
 obtain ⟨hl, h1 | ⟨g, cap, cur, hv, hg, hh, hn, hcm, hs, hk⟩⟩ := h
 ·exact ⟨hl, .inl h1⟩
 ·refine ⟨hl, .inr ⟨g, cap, cur, hv, hg, ?_, hn, hcm, hs, hk⟩⟩
  have hlt : g < w.heap.size := by
   rcases Nat.lt_or_ge g w.heap.size with h1 | h1
   ·exact h1
   ·rw [Array.getElem?_eq_none h1] at hh; cases hh
  rw [hc.block g hlt (hF g (by rw [hv]; rfl))]; exact hh
end
theorem EM.step_err {d : Nat} {m : EM} {x : Int} (h : (m.step d x).1 ≠ 0) : (m.step d x).2.1 = [] ∧ (m.step d x).2.2.over = (m.step d x).1 ∧ (m.step d x).2.2.at_ = m.at_ := by
 revert h
 unfold EM.step
 by_cases h0 : m.over ≠ 0
 ·rw [if_pos h0]; intro _; exact ⟨rfl, rfl, rfl⟩
 ·rw [if_neg h0]
  by_cases h1 : m.done = true
  ·rw [if_pos h1]; intro _; exact ⟨rfl, rfl, rfl⟩
  ·rw [if_neg h1]
   by_cases h2 : 0 < m.leaf
   ·rw [if_pos h2]; split <;> simp
   ·rw [if_neg h2]
    by_cases h4 : m.st.head? = some 0
    ·rw [if_pos h4]; intro _; exact ⟨rfl, rfl, rfl⟩
    ·rw [if_neg h4]
     by_cases h5 : (hdGet (m.hd ++ [x])).2.2.2.2.2 = 2
     ·rw [if_pos h5]; simp
     ·rw [if_neg h5]
      by_cases h6 : (hdGet (m.hd ++ [x])).2.2.2.2.2 ≠ 0
      ·rw [if_pos h6]; intro _; exact ⟨rfl, rfl, rfl⟩
      ·rw [if_neg h6]
       by_cases h7 : headE d (pays m.st 1) (hdGet (m.hd ++ [x])).2.2.1 (hdGet (m.hd ++ [x])).2.2.2.1 ≠ 0
       ·rw [if_pos h7]; intro _; exact ⟨rfl, rfl, rfl⟩
       ·rw [if_neg h7]; simp
theorem EM.step_over {d : Nat} {m : EM} {x : Int} (h : m.over ≠ 0) : m.step d x = (m.over, [], m) := by unfold EM.step; rw [if_pos h]
theorem bl_take_succ (b : ByteArray) (i : Nat) (h : i < b.size) : (bl b).take (i + 1) = (bl b).take i ++ [bt b i] := by
 have hl : i < (bl b).length := by rw [bl_length]; exact h
 rw [List.take_add_one, List.getElem?_eq_getElem hl, Option.toList_some, bl_get]
def allTo (b : ByteArray) (dep : Int) (i : Nat) : Option (EM × List Ev) := EM.all (evMost dep) EM.new ((bl b).take i) []
theorem allTo_zero (b : ByteArray) (dep : Int) : allTo b dep 0 = some (EM.new, []) := rfl
theorem allTo_succ {b : ByteArray} {dep : Int} {i : Nat} (h : i < b.size) {m : EM} {acc : List Ev} (ha : allTo b dep i = some (m, acc)) {m' : EM} {l : List Ev} (hs : m.step (evMost dep) (bt b i) = (0, l, m')) : allTo b dep (i + 1) = some (m', acc ++ l) := by
 unfold allTo at ha ⊢
 rw [bl_take_succ b i h, EM.all_append, ha]
 show EM.all (evMost dep) m [bt b i] acc = _
 rw [EM.all, hs]
 rfl
theorem allTo_err {b : ByteArray} {dep : Int} {i : Nat} (h : i < b.size) {m : EM} {acc : List Ev} (ha : allTo b dep i = some (m, acc)) {m' : EM} {l : List Ev} {er : Int} (hs : m.step (evMost dep) (bt b i) = (er, l, m')) (he : er ≠ 0) : evW b dep = (acc, er, i) := by
 unfold allTo at ha
 unfold evW evWhole
 have hat := EM.all_at _ _ EM.new [] ha rfl
 have hr := EM.run_some _ _ EM.new [] ha ((bl b).drop i)
 rw [List.take_append_drop] at hr
 rw [hr, bl_drop b i h, EM.run, hs, if_pos he, hat.1]
 show (_, _, 0 + ((bl b).take i).length) = _
 rw [List.length_take, bl_length]
 congr 2
 omega
theorem allTo_end {b : ByteArray} {dep : Int} {m : EM} {acc : List Ev} (ha : allTo b dep b.size = some (m, acc)) : evW b dep = (acc, if m.done = true then 0 else 2, b.size) := by
 unfold allTo at ha
 rw [List.take_of_length_le (by rw [bl_length]; exact Nat.le_refl _)] at ha
 unfold evW evWhole
 rw [EM.run_done _ ha, (EM.all_at _ _ EM.new [] ha rfl).1]
 show (_, _, 0 + (bl b).length) = _
 rw [bl_length, Nat.zero_add]
theorem allTo_at {b : ByteArray} {dep : Int} {i : Nat} (h : i ≤ b.size) {m : EM} {acc : List Ev} (ha : allTo b dep i = some (m, acc)) : m.at_ = i ∧ m.over = 0 := by
 unfold allTo at ha
 have := EM.all_at _ _ EM.new [] ha rfl
 refine ⟨?_, this.2⟩
 rw [this.1]
 show 0 + ((bl b).take i).length = i
 rw [List.length_take, bl_length]; omega
/-! ### How much a byte can bring about -/
theorem popS_len (st : List Int) : (popS st).length ≤ st.length := by
 induction st with
 |nil => simp [popS]
 |cons x r ih =>
  rw [popS]
  by_cases h : x = 0
  ·rw [if_pos h, List.length_cons]; omega
  ·rw [if_neg h]; exact Nat.le_refl _
theorem headE_room {d : Nat} {st : List Int} {n : Int} (h : headE d st true n = 0) : st.length < d := by
 unfold headE at h
 split at h
 ·by_cases hd : d ≤ 0
  ·rw [if_pos ⟨rfl, hd⟩] at h; simp at h
  ·show 0 < d; omega
 ·rename_i y r
  by_cases hy : y < n
  ·rw [if_pos hy] at h; simp at h
  ·rw [if_neg hy] at h
   by_cases hd : d ≤ (y :: r).length
   ·rw [if_pos ⟨rfl, hd⟩] at h; simp at h
   ·omega
theorem headL_open (st : List Int) (p : Nat) (c t n : Int) : headL st p c t true n = evEnter p c t true n :: popE (n :: pays st n) p := if_pos rfl
theorem headM_open (st : List Int) (p : Nat) (n : Int) : headM st p true n = EM.fin (n :: pays st n) (p + 1) := if_pos rfl
theorem headL_none (st : List Int) (p : Nat) (c t : Int) : headL st p c t false 0 = evLeaf p c t false 0 :: evEnd p :: popE st p := (if_neg (by simp)).trans (if_pos rfl)
theorem headM_none (st : List Int) (p : Nat) : headM st p false 0 = EM.fin st (p + 1) := (if_neg (by simp)).trans (if_pos rfl)
theorem headL_leaf {st : List Int} {p : Nat} {c t n : Int} (h : ¬ n = 0) : headL st p c t false n = [evLeaf p c t false n] := (if_neg (by simp)).trans (if_neg h)
theorem headM_leaf {st : List Int} {p : Nat} {n : Int} (h : ¬ n = 0) : headM st p false n = ⟨pays st n, [], n, p + 1, false, 0⟩ := (if_neg (by simp)).trans (if_neg h)
section
variable {MA : EvPred} {a w : World} {k : Nat} {F : Nat → Prop} {d : Nat} {m : EM}
theorem MOn.beside (H : EvSpec MA) (h : MOn MA a w k F d m) {w' : World} {G : Nat → Prop} (hc : Chg G w w') (hG : ∀ i, F i → ¬ G i) (hB : ∀ i, G i → a.heap.size ≤ i) : MOn MA a w' k F d m :=
 ⟨H.aside h.at_ hc hG, h.own, hc.to_below h.bel hB⟩
end
end Go.Proofs.YtiiimhamfibdbaaGreat
