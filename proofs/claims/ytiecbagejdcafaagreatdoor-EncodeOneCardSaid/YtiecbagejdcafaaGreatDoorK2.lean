/- What a parts object of the landed code holds: the bytes that a builder of its own has, and whether something is wrong; and the builder's calls within it. Of any of at most 10^12 bytes. -/
import Derived.Test.YtiecbagejdcafaaGreatDoorB0
import Derived.Test.YtiecbagejdcafaaGreatDoorK1
import Derived.Test.YtiecbagejdcafaaGreatDoorH1
import Derived.Test.YtiecbagejdcafaaGreatDoorOidPut
import Derived.Test.YtiecbagejdcafaaGreatDoorW4
import Derived.Test.YtiecbagejdcafaaGreatDoorRefEnc4
import Derived.Lib.UnsafeStr
import Derived.Lib.AppendStr
import Derived.Lib.Builder
import Derived.Laws.Externs
import Derived.BigCall
import Derived.Handy
import Derived.Shelf.RegionOpenPlain
import Derived.Deep.RegionWith
import Derived.Deep.LoopGhost
import Derived.Deep.CutRange
namespace Go.Proofs.YtiecbagejdcafaaGreatDoor
open Go.RowKit Go.PlainAid
set_option linter.unusedVariables false
def PAt (w : World) (B b : Nat) (s : ByteArray) (x : Bool) : Prop :=
 B ≤ b ∧ ∃ p v, (p = .pointer none ∨ p = .pointer (some ⟨b, 0, none⟩)) ∧ Row w b 87 [p, v, .bool x] ∧ Bs w B v (bl s) ∧ v.ownBlock ≠ some b ∧ (s.size = 0 → x = false → v = .slice none 0 0)
theorem PAt.keep {w w' : World} {B b : Nat} {s : ByteArray} {x : Bool} (h : PAt w B b s x) (hb : Below w.heap.size w w') : PAt w' B b s x := by
 obtain ⟨h1, p, v, h2, h3, h4, h5, h6⟩ := h
 exact ⟨h1, p, v, h2, h3.below hb h3.lt, h4.below hb, h5, h6⟩
theorem PAt.lt {w : World} {B b : Nat} {s : ByteArray} {x : Bool} (h : PAt w B b s x) : b < w.heap.size := by
 obtain ⟨h1, p, v, h2, h3, h4, h5, h6⟩ := h
 exact h3.lt
theorem PAt.new (w : World) {B : Nat} (hB : B ≤ w.heap.size) : PAt (w.alloc (.cells #[.pointer none, .slice none 0 0, .bool false] 87)) B w.heap.size ⟨#[]⟩ false :=
 ⟨hB, _, _, .inl rfl, Row.new w _ [.pointer none, .slice none 0 0, .bool false], Bs.nil _ _, (by intro h; cases h), fun _ _ => rfl⟩
theorem Bs.far {w : World} {base : Nat} {v : Value} {l : List Int} (h : Bs w base v l) {b : Nat} (hb : v.ownBlock ≠ some b) (i : Nat) (u : Value) : Bs (w.setCell ⟨b, i, none⟩ u) base v l := by
 obtain ⟨hl, h1 | ⟨g, cap, cur, hv, hg, hh, hn, hc, hs, ht⟩⟩ := h
 ·exact ⟨hl, .inl h1⟩
 ·refine ⟨hl, .inr ⟨g, cap, cur, hv, hg, ?_, hn, hc, hs, ht⟩⟩
  rw [Below.heap_setCell w ⟨b, i, none⟩ u g (by rintro rfl; exact hb (by rw [hv]; rfl))]; exact hh
theorem Bs.apart {w : World} {base : Nat} {v : Value} {l : List Int} (h : Bs w base v l) {b : Nat} {x : List Value} (hR : Row w b 87 x) : v.ownBlock ≠ some b := by
 intro hb
 obtain ⟨hl, ⟨h1, _⟩ | ⟨g, cap, cur, hv, hg, hh, hn, hc, hs, ht⟩⟩ := h
 ·rw [h1] at hb; cases hb
 ·rw [hv] at hb
  have hgb : g = b := by simpa [Value.ownBlock] using hb
  subst hgb
  have h' : w.heap[g]? = some (.cells x.toArray 87 (0, 0)) := hR
  rw [h'] at hh
  injection hh with hh
  injection hh with _ ht _
  revert ht
  decide
theorem parts_size : (Tryz.prog.info? 85).map (·.size) = some 2 := by kernel_rfl
theorem parts_lies : liesAt Tryz.prog Tryz.prog.depth 87 (3 / Tryz.prog.cellsOf 87) 0 85 1 = true := by kernel_rfl
theorem row_shape {w : World} {b : Nat} {t : TypeId} {l : List Value} (h : Row w b t l) : w.shape? b = some (t, l.length) := by
 unfold World.shape?
 have h' : w.heap[b]? = some (.cells l.toArray t (0, 0)) := h
 rw [h']; simp
set_option maxRecDepth 100000 in
set_option maxHeartbeats 4000000 in
theorem copyCheck_used (b : Nat) (w : World) (h0 : w.cell? ⟨b, 0, none⟩ = some (.pointer (some ⟨b, 0, none⟩))) :
  Calls Tryz.prog 100 #[.pointer (some ⟨b, 0, none⟩)] w fun e w' => e = .returned (.tuple #[]) ∧ w' = w := by
 obtain ⟨j, hj, _⟩ := Option.map_eq_some_iff.1 parts_size
 go_enter Tryz.func100, Tryz.ntmps100
 go_wp2
 rw [Lib.run_neq_ptr_same w _ Tryz.underlying82 hj]
 go_wp2
 go_end0
 exact ⟨rfl, rfl⟩
set_option maxRecDepth 100000 in
set_option maxHeartbeats 4000000 in
theorem copyCheck_fresh (b : Nat) (w : World) (v : Value) (x : Bool) (h : Row w b 87 [.pointer none, v, .bool x]) :
  Calls Tryz.prog 100 #[.pointer (some ⟨b, 0, none⟩)] w fun e w' => e = .returned (.tuple #[]) ∧ w' = w.setCell ⟨b, 0, none⟩ (.pointer (some ⟨b, 0, none⟩)) := by
 obtain ⟨j, hj, hjs⟩ := Option.map_eq_some_iff.1 parts_size
 have h0 : w.cell? ⟨b, 0, none⟩ = some (.pointer none) := h.cell 0
 have hfz := h.frozen 0
 have hsh := row_shape h
 go_enter Tryz.func100, Tryz.ntmps100
 go_wp2
 rw [Lib.run_to_unsafe w ⟨b, 0, none⟩ Tryz.underlying82 Tryz.underlying165 hj (by rw [hjs]; decide) hsh (Nat.zero_lt_succ 2)]
 simp only [Result.andThen]
 rw [Oper.upon_value]
 go_wp2
 rw [run_callFunc_extern Tryz.func135 (by kernel_rfl) (by kernel_rfl) (by kernel_rfl) (e := Extern.AbiNoEscape.same) (by kernel_rfl)]
 rw [Lib.run_noEscape]
 simp only [Result.andThen]
 rw [Oper.upon_value]
 go_wp2
 rw [Lib.run_from_unsafe w ⟨b, 0, none⟩ Tryz.underlying165 Tryz.underlying82 hj hsh parts_lies]
 simp only [Result.andThen]
 rw [Oper.upon_value]
 go_wp2
 go_end0
 exact ⟨rfl, rfl⟩
theorem bl_cells (s : ByteArray) : Lib.strCells s = u8s (bl s) := by
 unfold Lib.strCells u8s bl
 rw [List.map_map]; rfl
theorem copyCheck_any (B b : Nat) (p v : Value) (x : Bool) (l : List Int) (w : World) (hBb : B ≤ b) (hp : p = .pointer none ∨ p = .pointer (some ⟨b, 0, none⟩)) (hR : Row w b 87 [p, v, .bool x]) (hv : Bs w B v l) :
  Calls Tryz.prog 100 #[.pointer (some ⟨b, 0, none⟩)] w fun e w' => e = .returned (.tuple #[]) ∧ Row w' b 87 [.pointer (some ⟨b, 0, none⟩), v, .bool x] ∧ Bs w' B v l ∧ Below B w w' := by
 rcases hp with rfl | rfl
 ·refine (copyCheck_fresh b w v x hR).mono ?_
  rintro e w' ⟨rfl, rfl⟩
  exact ⟨rfl, hR.set 0 _, hv.far (hv.apart hR) 0 _, (Below.refl B w).setCell (p := ⟨b, 0, none⟩) hBb _⟩
 ·refine (copyCheck_used b w (hR.cell 0)).mono ?_
  rintro e w' ⟨rfl, rfl⟩
  exact ⟨rfl, hR, hv, Below.refl B _⟩
set_option maxRecDepth 100000 in
set_option maxHeartbeats 4000000 in
theorem bldWrite_any (B b : Nat) (t s : ByteArray) (x : Bool) (w : World) (h : PAt w B b t x) (hl : t.size + s.size ≤ 1000000) (hB : B ≤ w.heap.size) :
  Calls Tryz.prog 73 #[.pointer (some ⟨b, 0, none⟩), .string s] w fun e w' => e = .returned (.tuple #[.int .i64 s.size, .nilIface]) ∧ PAt w' B b (t ++ s) x ∧ Below B w w' := by
 obtain ⟨hBb, p, v, hp, hR, hv, hne, hz⟩ := h
 have HC := Lib.hid (copyCheck_any B b p v x (bl t) w hBb hp hR hv)
 clear hp hR hv hne
 obtain ⟨i0, hi, hz0, hz1, hz2⟩ := info_parts infoU8
 go_enter Tryz.func73, Tryz.ntmps73
 go_wp2_with fail
 refine HC.out.mono ?_
 rintro e w1 ⟨rfl, hR, hv, hb1⟩
 have HR := Lib.hid hR
 have HV := Lib.hid hv
 have HB1 := Lib.hid hb1
 have c1 : w1.cell? ⟨b, 1, none⟩ = some v := hR.cell 1
 have hlt := hR.lt
 have hw1 := hb1.size
 have hown : w1.ownsRow B 5 1 v (bl t).length (u8s (bl t)) := hv
 clear HC hR hv hb1
 go_wp2_with (at_builtin; refine Lib.wpList_append_own_string _ rfl _ _ 83 9 rfl B 5 i0 Tryz.underlying83 Tryz.underlying9 hi hz0 hz1 hz2 _ _ _ rfl hown s rfl ?c3 ?c4 ?c5 ?_)
 case c3 => rw [bl_length]; unfold maxLen; omega
 case c4 => rw [bl_length]; omega
 case c5 => omega
 intro v' w2 hown' hgrow hnil
 have hV2 : Bs w2 B v' (bl (t ++ s)) := by
  unfold Bs
  rw [bl_append, List.length_append, bl_length s, u8s_append, ← bl_cells s]
  exact hown'
 have hR2 : Row w2 b 87 [.pointer (some ⟨b, 0, none⟩), v, .bool x] := HR.out.grown hgrow (fun e => HV.out.apart HR.out e.symm)
 have HB2 := Lib.hid (HV.out.grown HB1.out (by omega) hgrow)
 have d1 : w2.cell? ⟨b, 1, none⟩ = some v := hR2.cell 1
 have f1 : w2.frozen? ⟨b, 1, none⟩ = false := hR2.frozen 1
 have HP : Hid (PAt (w2.setCell ⟨b, 1, none⟩ v') B b (t ++ s) x) := Lib.hid (by
  refine ⟨hBb, _, v', .inr rfl, hR2.set 1 v', hV2.far (hV2.apart hR2) 1 _, hV2.apart hR2, fun h0 hx0 => ?_⟩
  rw [ByteArray.size_append] at h0
  have h1 : t.size = 0 := by omega
  have h2 : s.size = 0 := by omega
  exact hnil.2 ⟨hz h1 hx0, by first | exact h2 | simpa using h2⟩)
 obtain ⟨ao, n', cap, rfl⟩ : ∃ ao n' cap, v' = .slice ao n' cap := by
  rcases hown'.2 with ⟨hv, _⟩ | ⟨g, cap, cur, hv, _⟩
  ·exact ⟨_, _, _, hv⟩
  ·exact ⟨_, _, _, hv⟩
 clear hR2 hV2 hown hown' hgrow hnil HR HV hz
 go_wp2
 go_returns
 exact ⟨rfl, HP.out, HB2.out.setCell (p := ⟨b, 1, none⟩) hBb _⟩
set_option maxRecDepth 100000 in
set_option maxHeartbeats 4000000 in
theorem partsAdd_any (B b : Nat) (t s : ByteArray) (x ok : Bool) (w : World) (h : PAt w B b t x) (hl : t.size + s.size ≤ 1000000) (hB : B ≤ w.heap.size) :
  Calls Tryz.prog 48 #[.pointer (some ⟨b, 0, none⟩), .string s, .bool ok] w fun e w' => e = .returned (.tuple #[]) ∧ PAt w' B b (t ++ s) (x || !ok) ∧ Below B w w' := by
 have HC := Lib.hid (bldWrite_any B b t s x w h hl hB)
 clear h
 go_enter Tryz.func48, Tryz.ntmps48
 go_wp2_with fail
 refine HC.out.mono ?_
 rintro e w1 ⟨rfl, ⟨hBb, p, v, hp, hR, hv, hne, hz⟩, hb⟩
 have HR := Lib.hid (And.intro hR hv)
 have HP := Lib.hid hp
 have HZ := Lib.hid hz
 have HB := Lib.hid hb
 have c2 : w1.cell? ⟨b, 2, none⟩ = some (.bool x) := hR.cell 2
 have f2 : w1.frozen? ⟨b, 2, none⟩ = false := hR.frozen 2
 clear HC hp hR hv hne hz hb
 have HN : ∀ y, Hid ((y = false → x = false) → PAt (w1.setCell ⟨b, 2, none⟩ (.bool y)) B b (t ++ s) y ∧ Below B w (w1.setCell ⟨b, 2, none⟩ (.bool y))) := fun y => Lib.hid (fun hy =>
  ⟨⟨hBb, p, v, HP.out, HR.out.1.set 2 _, HR.out.2.far (HR.out.2.apart HR.out.1) 2 _, HR.out.2.apart HR.out.1, fun h0 h1 => HZ.out h0 (hy h1)⟩, HB.out.setCell (p := ⟨b, 2, none⟩) hBb _⟩)
 clear HR HP HZ HB
 cases x with
 |true =>
  go_wp2
  go_end0
  exact ⟨rfl, (HN true).out (fun h => by cases h)⟩
 |false =>
  cases ok with
  |true =>
   go_wp2
   go_end0
   exact ⟨rfl, (HN false).out (fun h => by trivial)⟩
  |false =>
   go_wp2
   go_end0
   exact ⟨rfl, (HN true).out (fun h => by cases h)⟩
set_option maxRecDepth 100000 in
set_option maxHeartbeats 4000000 in
theorem bldString_any (B b : Nat) (s : ByteArray) (w : World) (h : PAt w B b s false) :
  Calls Tryz.prog 75 #[.pointer (some ⟨b, 0, none⟩)] w fun e w' => e = .returned (.string s) ∧ Below B w w' := by
 obtain ⟨hBb, p, v, hp, hR, hv, hne, hz⟩ := h
 by_cases h0 : s.size = 0
 ·have hv0 := hz h0 rfl
  subst hv0
  have hs : s = ⟨#[]⟩ := ByteArray.ext (Array.eq_empty_of_size_eq_zero h0)
  subst hs
  have c1 : w.drew.cell? ⟨b, 1, none⟩ = some (.slice none 0 0) := hR.cell 1
  have hUS : ∀ W q, (Builtin.unsafeString_ #[146, 3] 9 #[.pointer q, .int .i64 0]).run Tryz.prog W = .ok (.string .empty) W := fun W q => Lib.run_unsafeString_none W _ _ _ q
  have hSD : (Builtin.unsafeSliceData_ #[83] 146 #[.slice none 0 0]).run Tryz.prog w.drew = .ok (.pointer none) w.drew := rfl
  clear hR hv hne hz hp
  go_enter Tryz.func75, Tryz.ntmps75
  go_wp2
  go_region
  all_goals (go_wp2; go_returns; exact ⟨rfl, Below.drew (Below.refl B w)⟩)
 ·obtain ⟨hl, ⟨_, hn⟩ | ⟨g, cap, cur, rfl, hbg, hg, hnc, hcm, hcs, htake⟩⟩ := hv
  ·rw [bl_length] at hn; exact absurd hn h0
  rw [bl_length] at *
  have c1 : w.drew.cell? ⟨b, 1, none⟩ = some (.slice (some ⟨g, 0, none⟩) s.size cap) := hR.cell 1
  have hSD : (Builtin.unsafeSliceData_ #[83] 146 #[.slice (some ⟨g, 0, none⟩) s.size cap]).run Tryz.prog w.drew = .ok (.pointer (some ⟨g, 0, none⟩)) w.drew :=
   Lib.run_unsafeSliceData_row _ _ _ _ _ _ (by omega)
  have hL : s.data.toList.length = s.size := rfl
  have hUS : (Builtin.unsafeString_ #[146, 3] 9 #[.pointer (some ⟨g, 0, none⟩), .int .i64 s.size]).run Tryz.prog w.drew = .ok (.string s) (w.drew.freeze ⟨g, 0, none⟩ s.size) := by
   have := Lib.run_unsafeString_row (P := Tryz.prog) w.drew 146 3 9 5 Tryz.underlying146 (by kernel_rfl) g cur.size (by have hg' : w.drew.heap[g]? = some (.cells cur 5 (0, 0)) := hg; simp [World.shape?, hg']) s.data.toList (by intro e; rw [e] at hL; exact h0 hL.symm) (by omega) (by unfold maxLen at hcm; omega) ?_
   ·rw [hL] at this; exact this
   ·intro j y hy
    have hj : j < s.size := by rw [← hL]; exact (List.getElem?_eq_some_iff.1 hy).1
    have hc : w.drew.heap[g]? = some (.cells cur 5 (0, 0)) := hg
    have hq : (cur.toList.take (s.size * 1))[j]? = (u8s (bl s))[j]? := by rw [htake]
    rw [Nat.mul_one, List.getElem?_take_of_lt hj] at hq
    rw [addr0]
    unfold World.cell?
    rw [hc]
    simp only [u8s, bl, List.getElem?_map, hy] at hq
    simpa using hq
  clear hR hne hz hp hg hcs htake hl
  go_enter Tryz.func75, Tryz.ntmps75
  go_wp2
  go_region
  all_goals (go_wp2; go_returns; exact ⟨rfl, Lib.below_freeze (Below.drew (Below.refl B w)) (p := ⟨g, 0, none⟩) hbg _⟩)
end Go.Proofs.YtiecbagejdcafaaGreatDoor
/- Package encode's small calls in the landed code: elements, identifiers, times, an algorithm, a part added and a sequence closed. -/
namespace Go.Proofs.YtiecbagejdcafaaGreatDoor
open Go.RowKit Go.PlainAid
set_option linter.unusedVariables false
def elS (c t : Int) (k : Bool) (b : ByteArray) : ByteArray := if idOk c t = true then hpS c t k (b.size : Int) ++ b else ⟨#[]⟩
theorem elS_le (c t : Int) (k : Bool) (b : ByteArray) : (elS c t k b).size ≤ b.size + 14 := by
 unfold elS
 split
 ·have := hpS_small c t k (b.size : Int); rw [ByteArray.size_append]; omega
 ·exact Nat.zero_le _
theorem elS_lf {t : Int} (h0 : 0 ≤ t) (h1 : t ≤ 268435455) (s : ByteArray) (hs : s.size ≤ 1000000000) : elS 0 t false s = encS (lf t (bl s)) := by
 unfold elS
 rw [if_pos (idOk_leaf h0 h1), encS_lf, hpS_of (idOk_leaf h0 h1) hs]
theorem elS_node {c t : Int} (h : idOk c t = true) (k : Fo) (hs : (encS k).size ≤ 1000000000) : elS c t true (encS k) = encS (.node c t k .nil) := by
 unfold elS
 rw [if_pos h, encS_node, hpS_of h hs]
set_option maxRecDepth 100000 in
set_option maxHeartbeats 4000000 in
theorem encElement_any (c t : Int) (k : Bool) (n0 : Int) (b : ByteArray) (hc : InI c) (ht : InI t) (hb : b.size ≤ 100000) (w : World) :
  Calls Tryz.prog 19 #[.agg #[.int .i64 c, .int .i64 t, .bool k, .int .i64 n0], .string b] w fun e w' => e = .returned (.string (elS c t k b)) ∧ Below w.heap.size w w' := by
 have HP := Lib.hid (headPut_all c t k (b.size : Int) (by omega))
 have hb9 : (b.size : Int) ≤ 100000 := by omega
 cases hok : idOk c t with
 |true =>
  have hh : hdOk c t (b.size : Int) = true := by rw [hdOk_iff]; exact ⟨hok, by rw [lenOk_iff]; omega⟩
  have hE : hpE c t (b.size : Int) = 0 := by unfold hpE; rw [if_pos hh]
  have hS : elS c t k b = hpS c t k (b.size : Int) ++ b := by unfold elS; rw [if_pos hok]
  have hl := hpS_small c t k (b.size : Int)
  rw [hE] at HP
  rw [hS]
  generalize hpS c t k (b.size : Int) = P at *
  have hov : ¬ 9223372036854775807 < P.size + b.size := by omega
  clear hh hE hS hok hc ht
  have HB := Lib.hid ((Below.refl w.heap.size w).alloc (Nat.le_refl _) (.cells #[.int .i64 c, .int .i64 t, .bool k, .int .i64 (b.size : Int)] 36))
  go_enter Tryz.func19, Tryz.ntmps19
  go_wp2_with fail
  refine (HP.out _).mono ?_
  rintro e w1 ⟨rfl, hb1⟩
  have HB1 := Lib.hid (HB.out.trans (hb1.mono HB.out.size))
  clear hb1 HB HP
  go_wp2
  go_returns
  exact ⟨rfl, HB1.out⟩
 |false =>
  have hh : hdOk c t (b.size : Int) = false := by
   rw [Bool.eq_false_iff]; intro h; rw [hdOk_iff, hok] at h; cases h.1
  have hE : hpE c t (b.size : Int) = 1 := by unfold hpE; rw [if_neg (by rw [hh]; decide)]
  have hS : elS c t k b = ⟨#[]⟩ := by unfold elS; rw [if_neg (by rw [hok]; decide)]
  rw [hE] at HP
  rw [hS]
  generalize hpS c t k (b.size : Int) = P at *
  clear hh hE hS hok hc ht
  have HB := Lib.hid ((Below.refl w.heap.size w).alloc (Nat.le_refl _) (.cells #[.int .i64 c, .int .i64 t, .bool k, .int .i64 (b.size : Int)] 36))
  go_enter Tryz.func19, Tryz.ntmps19
  go_wp2_with fail
  refine (HP.out _).mono ?_
  rintro e w1 ⟨rfl, hb1⟩
  have HB1 := Lib.hid (HB.out.trans (hb1.mono HB.out.size))
  clear hb1 HB HP
  go_wp2
  go_returns
  exact ⟨rfl, HB1.out⟩
theorem encPrim_any (t : Int) (b : ByteArray) (ht : InI t) (hb : b.size ≤ 100000) (w : World) :
  Calls Tryz.prog 27 #[.int .i64 t, .string b] w fun e w' => e = .returned (.string (elS 0 t false b)) ∧ Below w.heap.size w w' := by
 have HE := Lib.hid (encElement_any 0 t false 0 b (by unfold InI; omega) ht hb)
 generalize elS 0 t false b = R at *
 clear ht
 go_enter Tryz.func27, Tryz.ntmps27
 go_wp2_with fail
 refine (HE.out _).mono ?_
 rintro e w1 ⟨rfl, hb1⟩
 clear HE
 go_wp2
 go_returns
 exact ⟨rfl, hb1⟩
theorem encCons_any (t : Int) (b : ByteArray) (ht : InI t) (hb : b.size ≤ 100000) (w : World) :
  Calls Tryz.prog 26 #[.int .i64 t, .string b] w fun e w' => e = .returned (.string (elS 0 t true b)) ∧ Below w.heap.size w w' := by
 have HE := Lib.hid (encElement_any 0 t true 0 b (by unfold InI; omega) ht hb)
 generalize elS 0 t true b = R at *
 clear ht
 go_enter Tryz.func26, Tryz.ntmps26
 go_wp2_with fail
 refine (HE.out _).mono ?_
 rintro e w1 ⟨rfl, hb1⟩
 clear HE
 go_wp2
 go_returns
 exact ⟨rfl, hb1⟩
theorem encPrim_lf (t : Int) (b : ByteArray) (ht : 0 ≤ t ∧ t ≤ 268435455) (hb : b.size ≤ 100000) (w : World) :
  Calls Tryz.prog 27 #[.int .i64 t, .string b] w fun e w' => e = .returned (.string (encS (lf t (bl b)))) ∧ Below w.heap.size w w' := by
 rw [← elS_lf ht.1 ht.2 b (by omega)]
 exact encPrim_any t b (by unfold InI; omega) hb w
def seqS (x : Bool) (s : ByteArray) : ByteArray := if x = true then ⟨#[]⟩ else elS 0 16 true s
theorem seqS_le (x : Bool) (s : ByteArray) : (seqS x s).size ≤ s.size + 14 := by
 unfold seqS
 split
 ·exact Nat.zero_le _
 ·exact elS_le _ _ _ _
theorem seqS_ok (k : Fo) (hs : (encS k).size ≤ 1000000000) : seqS false (encS k) = encS (sq k) := by
 unfold seqS sq
 rw [if_neg (by decide), elS_node (by decide) k hs]
theorem encSeq_any (B b : Nat) (s : ByteArray) (x : Bool) (w : World) (h : PAt w B b s x) (hs : s.size ≤ 100000) (hB : B ≤ w.heap.size) :
  Calls Tryz.prog 50 #[.pointer (some ⟨b, 0, none⟩)] w fun e w' => e = .returned (.tuple #[.string (seqS x s), .bool (!x)]) ∧ Below B w w' := by
 cases x with
 |true =>
  obtain ⟨hBb, p, v, hp, hR, hv, hne, hz⟩ := h
  have c2 : w.cell? ⟨b, 2, none⟩ = some (.bool true) := hR.cell 2
  clear hp hR hv hne hz
  have hS : seqS true s = ⟨#[]⟩ := rfl
  rw [hS]
  go_enter Tryz.func50, Tryz.ntmps50
  go_wp2
  go_returns
  exact ⟨rfl, Below.refl _ _⟩
 |false =>
  have HT := Lib.hid (bldString_any B b s w h)
  obtain ⟨hBb, p, v, hp, hR, hv, hne, hz⟩ := h
  have c2 : w.cell? ⟨b, 2, none⟩ = some (.bool false) := hR.cell 2
  clear hp hR hv hne hz
  have hS : seqS false s = elS 0 16 true s := rfl
  rw [hS]
  have HE := Lib.hid (encCons_any 16 s (by unfold InI; omega) hs)
  generalize elS 0 16 true s = R at *
  clear hS
  go_enter Tryz.func50, Tryz.ntmps50
  go_wp2_with fail
  refine HT.out.mono ?_
  rintro e w1 ⟨rfl, hb1⟩
  have HB1 := Lib.hid hb1
  clear hb1 HT
  go_wp2_with fail
  refine (HE.out _).mono ?_
  rintro e w2 ⟨rfl, hb2⟩
  have HB2 := Lib.hid (HB1.out.trans (hb2.mono (Nat.le_trans hB HB1.out.size)))
  clear hb2 HB1 HE
  go_wp2
  go_returns
  exact ⟨rfl, HB2.out⟩
def idS (l : List Int) : ByteArray := encS (lf 6 (bl (opS l)))
theorem idS_le (l : List Int) (hl : l.length ≤ 20) (hi : ∀ y ∈ l, inK .u64 y) : (idS l).size ≤ 214 := by
 have := opS_size l hl hi
 unfold idS
 rw [← elS_lf (by decide) (by decide) _ (by omega)]
 have := elS_le 0 6 false (opS l)
 omega
theorem idS_ok {l : List Int} (h : arcsOk l = true) : idS l = encS (lf 6 (oL l)) := by unfold idS; rw [opS_bl h]
theorem encId_any (o : Option Addr) (c : Nat) (l : List Int) (hl : l.length ≤ 20) (hin : ∀ x ∈ l, inK .u64 x) (hcap : l.length ≤ c ∧ c ≤ maxLen) (w : World) (hc : Came w o (ivs .u64 l)) :
  Calls Tryz.prog 49 #[.slice o l.length c] w fun e w' => e = .returned (.tuple #[.string (idS l), .bool (arcsOk l)]) ∧ Below w.heap.size w w' := by
 have HP := Lib.hid (oidPut_any o c l (by omega) hcap.1 hcap.2 hin w hc)
 have HL := Lib.hid (encPrim_lf 6 (opS l) (by decide) (by have := opS_size l hl hin; omega))
 have HI : Hid (idS l = encS (lf 6 (bl (opS l)))) := Lib.hid rfl
 rw [← HI.out] at HL
 generalize idS l = R at *
 clear HI
 generalize opS l = s at *
 generalize arcsOk l = ok at *
 clear hc hin hcap
 go_enter Tryz.func49, Tryz.ntmps49
 go_wp2_with fail
 refine HP.out.mono ?_
 rintro e w1 ⟨rfl, hb⟩
 have HB := Lib.hid hb
 clear hb HP
 go_wp2_with fail
 refine (HL.out _).mono ?_
 rintro e w2 ⟨rfl, hb2⟩
 have hB := HB.out.trans (hb2.mono HB.out.size)
 clear hb2 HB HL
 go_wp2
 go_returns
 exact ⟨rfl, hB⟩
def momS (d : ByteArray) : ByteArray := elS 0 (wPutT d) false (wPutC d)
theorem wPutC_le (d : ByteArray) : (wPutC d).size ≤ 15 := by
 unfold wPutC
 split
 ·rename_i h; rw [(w_put h).2.2]; split <;> omega
 ·exact Nat.zero_le _
theorem wPutT_bd (d : ByteArray) : 0 ≤ wPutT d ∧ wPutT d ≤ 24 := by
 unfold wPutT
 split
 ·have := wTag_bd d; omega
 ·omega
theorem momS_le (d : ByteArray) : (momS d).size ≤ 29 := by
 have := wPutC_le d
 have := elS_le 0 (wPutT d) false (wPutC d)
 unfold momS
 omega
theorem momS_ok {d : ByteArray} (h : wOk d = true) : momS d = encS (dateF d) := by
 have h1 := wPutT_bd d
 have h2 := wPutC_le d
 unfold momS
 rw [elS_lf h1.1 (by omega) _ (by omega)]
 unfold dateF wPutT wPutC
 rw [if_pos h, if_pos h]
theorem encMom_any (d : ByteArray) (hd : d.size ≤ 1000) (w : World) (hT : Tab w) :
  Calls Tryz.prog 54 #[.string d] w fun e w' => e = .returned (.tuple #[.string (momS d), .bool (wOk d)]) ∧ Below w.heap.size w w' := by
 have HP := Lib.hid (whenPut_any d (by omega) w hT)
 have h1 := wPutT_bd d
 have HL := Lib.hid (encPrim_any (wPutT d) (wPutC d) (by unfold InI; omega) (by have := wPutC_le d; omega))
 have HI : Hid (momS d = elS 0 (wPutT d) false (wPutC d)) := Lib.hid rfl
 rw [← HI.out] at HL
 generalize momS d = R at *
 clear HI h1 hT
 generalize wPutT d = T at *
 generalize wPutC d = C at *
 generalize wOk d = ok at *
 go_enter Tryz.func54, Tryz.ntmps54
 go_wp2_with fail
 refine HP.out.mono ?_
 rintro e w1 ⟨rfl, hb⟩
 have HB := Lib.hid hb
 clear hb HP
 go_wp2_with fail
 refine (HL.out _).mono ?_
 rintro e w2 ⟨rfl, hb2⟩
 have hB := HB.out.trans (hb2.mono HB.out.size)
 clear hb2 HB HL
 go_wp2
 go_returns
 exact ⟨rfl, hB⟩
end Go.Proofs.YtiecbagejdcafaaGreatDoor
/- Package encode in the landed code: an algorithm, extensions. Within the sizes that layer 19's statements name. -/
namespace Go.Proofs.YtiecbagejdcafaaGreatDoor
open Go.RowKit Go.PlainAid
set_option linter.unusedVariables false
theorem PAt.as {w : World} {B b : Nat} {s s' : ByteArray} {x x' : Bool} (h : PAt w B b s x) (e : s = s' ∧ x = x') : PAt w B b s' x' := by
 obtain ⟨rfl, rfl⟩ := e; exact h
theorem e_app (s : ByteArray) : (⟨#[]⟩ : ByteArray) ++ s = s := e_str s
theorem app_e (s : ByteArray) : s ++ (⟨#[]⟩ : ByteArray) = s := str_e s
def algS (l : List Int) : ByteArray := if arcsOk l = true then encS (algF l) else ⟨#[]⟩
theorem lf_size {t : Int} (h0 : 0 ≤ t) (h1 : t ≤ 268435455) (s : ByteArray) (hs : s.size ≤ 1000000) : (encS (lf t (bl s))).size ≤ s.size + 14 := by
 rw [← elS_lf h0 h1 s (by omega)]; exact elS_le _ _ _ _
theorem lf_size0 {t : Int} (h0 : 0 ≤ t) (h1 : t ≤ 268435455) : (encS (lf t [])).size ≤ 14 := lf_size h0 h1 ⟨#[]⟩ (by decide +kernel)
theorem alg_end (l : List Int) (hl : l.length ≤ 20) (hi : ∀ y ∈ l, inK .u64 y) : seqS (!arcsOk l) (idS l ++ encS (lf 5 [])) = algS l := by
 have h5 := lf_size0 (t := 5) (by decide) (by decide)
 have h6 := idS_le l hl hi
 unfold algS
 cases h : arcsOk l with
 |false => show seqS true _ = _; unfold seqS; rw [if_pos rfl, if_neg (by decide)]
 |true =>
  rw [idS_ok h] at h6
  show seqS false _ = _
  rw [idS_ok h, ← encS_leaf, if_pos rfl]
  exact seqS_ok _ (by rw [encS_leaf, ByteArray.size_append]; omega)
theorem algS_le (l : List Int) (hl : l.length ≤ 20) (hi : ∀ y ∈ l, inK .u64 y) : (algS l).size ≤ 242 := by
 have h5 := lf_size0 (t := 5) (by decide) (by decide)
 have h6 := idS_le l hl hi
 rw [← alg_end l hl hi]
 have := seqS_le (!arcsOk l) (idS l ++ encS (lf 5 []))
 rw [ByteArray.size_append] at this
 omega
set_option maxRecDepth 100000 in
set_option maxHeartbeats 8000000 in
theorem encAlg_any (o : Option Addr) (c : Nat) (l : List Int) (hl : l.length ≤ 20) (hin : ∀ x ∈ l, inK .u64 x) (hcap : l.length ≤ c ∧ c ≤ maxLen) (w : World) (hc : Came w o (ivs .u64 l)) :
  Calls Tryz.prog 24 #[.slice o l.length c] w fun e w' => e = .returned (.tuple #[.string (algS l), .bool (arcsOk l)]) ∧ Below w.heap.size w w' := by
 have HI := Lib.hid (fun W (hb : Below w.heap.size w W) => encId_any o c l hl hin hcap W (hc.below hb))
 have HE := Lib.hid (alg_end l hl hin)
 have HL := Lib.hid (encPrim_lf 5 ⟨#[]⟩ (by decide) (by decide +kernel))
 have hb0 : bl ⟨#[]⟩ = [] := rfl
 rw [hb0] at HL
 have h5 := lf_size0 (t := 5) (by decide) (by decide)
 have h6 := idS_le l hl hin
 clear hc hin hcap hb0
 generalize algS l = R at *
 generalize encS (lf 5 []) = S5 at *
 generalize idS l = S6 at *
 generalize arcsOk l = ok at *
 have HP1 : Hid (PAt (w.alloc (.cells #[.pointer none, .slice none 0 0, .bool false] 87)) w.heap.size w.heap.size ⟨#[]⟩ false) := Lib.hid (PAt.new w (Nat.le_refl _))
 have HB1 : Hid (Below w.heap.size w (w.alloc (.cells #[.pointer none, .slice none 0 0, .bool false] 87))) := Lib.hid ((Below.refl _ _).alloc (Nat.le_refl _) _)
 go_enter Tryz.func24, Tryz.ntmps24
 go_upto_region 2 with (fail)
 generalize w.alloc (.cells #[.pointer none, .slice none 0 0, .bool false] 87) = w1 at *
 go_wp2_with fail
 refine (HI.out _ HB1.out).mono ?_
 rintro e w2 ⟨rfl, hb⟩
 have HB2 := Lib.hid (HB1.out.trans (hb.mono HB1.out.size))
 have HP2 := Lib.hid (HP1.out.keep hb)
 clear hb HB1 HP1
 go_wp2_with fail
 refine (partsAdd_any w.heap.size w.heap.size _ _ _ _ w2 HP2.out (by show (⟨#[]⟩ : ByteArray).size + _ ≤ _; show 0 + _ ≤ _; omega) (Nat.le_of_lt HP2.out.lt)).mono ?_
 rintro e w3 ⟨rfl, hP, hb⟩
 have HB3 := Lib.hid (HB2.out.trans (hb.mono (by omega)))
 have HP3 := Lib.hid hP
 clear hP hb HB2 HP2
 go_wp2_with fail
 refine (HL.out _).mono ?_
 rintro e w4 ⟨rfl, hb⟩
 have HB4 := Lib.hid (HB3.out.trans (hb.mono HB3.out.size))
 have HP4 := Lib.hid (HP3.out.keep hb)
 clear hb HB3 HP3
 go_wp2_with fail
 refine (partsAdd_any w.heap.size w.heap.size _ _ _ _ w4 HP4.out (by rw [ByteArray.size_append]; show 0 + _ + _ ≤ _; omega) (Nat.le_of_lt HP4.out.lt)).mono ?_
 rintro e w5 ⟨rfl, hP, hb⟩
 have HB5 := Lib.hid (HB4.out.trans (hb.mono (by omega)))
 have HP5 := Lib.hid hP
 clear hP hb HB4 HP4
 have HQ := Lib.hid (encSeq_any w.heap.size w.heap.size (S6 ++ S5) (!ok) w5 (HP5.out.as (⟨by first | with_reducible rfl | simp only [e_app], by first | rfl | simp⟩)) (by rw [ByteArray.size_append]; omega) (Nat.le_of_lt HP5.out.lt))
 rw [HE.out, Bool.not_not] at HQ
 clear HE HI HL
 go_wp2_with fail
 refine HQ.out.mono ?_
 rintro e w6 ⟨rfl, hb⟩
 have HB6 := Lib.hid (HB5.out.trans (hb.mono (by omega)))
 clear hb HQ
 go_wp2
 go_returns
 exact ⟨rfl, HB6.out⟩
def extS (x : ExtV) : ByteArray := if extOk x = true then encS (extF x) else ⟨#[]⟩
theorem ext_end (x : ExtV) (hs : x.Small) (m : ByteArray) (hm : m = encS (if x.crit = true then lf 1 [255] else .nil)) (hm2 : m.size ≤ 100) : seqS (!arcsOk x.oid) (idS x.oid ++ m ++ encS (lf 4 (bl x.val))) = extS x := by
 have h4 := lf_size (t := 4) (by decide) (by decide) x.val (by have := hs.val; omega)
 have h6 := idS_le x.oid hs.oid hs.oin
 have h7 := hs.val
 unfold extS extOk
 cases h : arcsOk x.oid with
 |false => show seqS true _ = _; unfold seqS; rw [if_pos rfl, if_neg (by decide)]
 |true =>
  rw [idS_ok h] at h6
  show seqS false _ = _
  have hj : encS (lf 6 (oL x.oid)) ++ m ++ encS (lf 4 (bl x.val)) = encS (.leaf 0 6 (oL x.oid) ((if x.crit = true then lf 1 [255] else .nil).app (lf 4 (bl x.val)))) := by
   rw [hm, encS_leaf, encS_app, ByteArray.append_assoc]
  rw [idS_ok h, if_pos rfl, hj]
  exact seqS_ok _ (by rw [← hj, ByteArray.size_append, ByteArray.size_append]; omega)
theorem extS_le (x : ExtV) (hs : x.Small) : (extS x).size ≤ 457 := by
 unfold extS
 split
 ·rename_i h; rw [encS_size]; exact extF_len hs h
 ·exact Nat.zero_le _
set_option maxRecDepth 100000 in
set_option maxHeartbeats 8000000 in
theorem encExt_any (x : ExtV) (oo : Option Addr) (co : Nat) (hs : x.Small) (hcap : x.oid.length ≤ co ∧ co ≤ maxLen) (w : World) (hc : Came w oo (ivs .u64 x.oid)) :
  Calls Tryz.prog 40 #[.agg #[.slice oo x.oid.length co, .bool x.crit, .string x.val]] w fun e w' => e = .returned (.tuple #[.string (extS x), .bool (extOk x)]) ∧ Below w.heap.size w w' := by
 have HI := Lib.hid (fun W (hb : Below w.heap.size w W) => encId_any oo co x.oid hs.oid hs.oin hcap W (hc.below hb))
 have HE := Lib.hid (ext_end x hs)
 have HL := Lib.hid (encPrim_lf 4 x.val (by decide) (by have := hs.val; omega))
 have HL1 := Lib.hid (encPrim_lf 1 ⟨#[255]⟩ (by decide) (by decide +kernel))
 have hb0 : bl ⟨#[255]⟩ = [255] := rfl
 rw [hb0] at HL1
 have h1 : (encS (lf 1 [255])).size ≤ 15 := by rw [encS_size]; exact (lf_len (t := 1) (C := [255]) (by decide) (by decide) (by decide)).2
 have h4 := lf_size (t := 4) (by decide) (by decide) x.val (by have := hs.val; omega)
 have h6 := idS_le x.oid hs.oid hs.oin
 have h7 := hs.val
 have HOK : Hid (extOk x = arcsOk x.oid) := Lib.hid rfl
 rw [HOK.out]
 obtain ⟨oid, crit, val⟩ := x
 dsimp only at *
 clear hc hs hcap hb0 HOK
 generalize extS ⟨oid, crit, val⟩ = R at *
 generalize encS (lf 4 (bl val)) = S4 at *
 generalize idS oid = S6 at *
 generalize arcsOk oid = ok at *
 generalize oid.length = n at *
 have HR1 : Hid (Row ((w.alloc (.cells #[.slice oo n co, .bool crit, .string val] 53)).alloc (.cells #[.pointer none, .slice none 0 0, .bool false] 87)) w.heap.size 53 [.slice oo n co, .bool crit, .string val]) := Lib.hid ((Row.new w _ [.slice oo n co, .bool crit, .string val]).alloc _)
 have HP1 : Hid (PAt ((w.alloc (.cells #[.slice oo n co, .bool crit, .string val] 53)).alloc (.cells #[.pointer none, .slice none 0 0, .bool false] 87)) (w.heap.size + 1) (w.heap.size + 1) ⟨#[]⟩ false) := Lib.hid (by have := PAt.new (w.alloc (.cells #[.slice oo n co, .bool crit, .string val] 53)) (Nat.le_refl _); simpa using this)
 have HB1 : Hid (Below w.heap.size w ((w.alloc (.cells #[.slice oo n co, .bool crit, .string val] 53)).alloc (.cells #[.pointer none, .slice none 0 0, .bool false] 87))) := Lib.hid (((Below.refl _ _).alloc (Nat.le_refl _) _).alloc (by simp) _)
 have HE1 : Hid (crit = true → seqS (!ok) (S6 ++ encS (lf 1 [255]) ++ S4) = R) := Lib.hid (fun h => by rw [h] at HE; exact HE.out _ (by rw [if_pos rfl]) (by omega))
 have HE0 : Hid (crit = false → seqS (!ok) (S6 ++ S4) = R) := Lib.hid (fun h => by rw [h] at HE; have := HE.out ⟨#[]⟩ rfl (Nat.zero_le _); rw [app_e] at this; exact this)
 generalize encS (lf 1 [255]) = S1 at *
 clear HE
 go_enter Tryz.func40, Tryz.ntmps40
 go_upto_region 2 with (fail)
 generalize (w.alloc (.cells #[.slice oo n co, .bool crit, .string val] 53)).alloc (.cells #[.pointer none, .slice none 0 0, .bool false] 87) = w1 at *
 have z0 : w1.cell? ⟨w.heap.size, 0, none⟩ = some (.slice oo n co) := HR1.out.cell 0
 go_wp2_with fail
 refine (HI.out _ HB1.out).mono ?_
 rintro e w2 ⟨rfl, hb⟩
 have HB2 := Lib.hid (HB1.out.trans (hb.mono HB1.out.size))
 have HP2 := Lib.hid (HP1.out.keep hb)
 have HR2 := Lib.hid (HR1.out.below hb HR1.out.lt)
 clear hb HB1 HP1 HR1
 clear z0 HI
 go_wp2_with fail
 refine (partsAdd_any (w.heap.size + 1) (w.heap.size + 1) _ _ _ _ w2 HP2.out (by show 0 + _ ≤ _; omega) (Nat.le_of_lt HP2.out.lt)).mono ?_
 rintro e w3 ⟨rfl, hP, hb⟩
 have HB3 := Lib.hid (HB2.out.trans (hb.mono (by omega)))
 have HP3 := Lib.hid hP
 have HR3 := Lib.hid (HR2.out.below hb (by omega))
 clear hP hb HB2 HP2 HR2
 have z1 : w3.cell? ⟨w.heap.size, 1, none⟩ = some (.bool crit) := HR3.out.cell 1
 cases crit with
 |false =>
  have HF := Lib.hid (HE0.out rfl)
  clear HE0 HE1
  clear HL1
  have z2 : w3.cell? ⟨w.heap.size, 2, none⟩ = some (.string val) := HR3.out.cell 2
  go_wp2_with fail
  refine (HL.out _).mono ?_
  rintro e w4 ⟨rfl, hb⟩
  have HB4 := Lib.hid (HB3.out.trans (hb.mono HB3.out.size))
  have HP4 := Lib.hid (HP3.out.keep hb)
  have HR4 := Lib.hid (HR3.out.below hb HR3.out.lt)
  clear hb HB3 HP3 HR3
  go_wp2_with fail
  refine (partsAdd_any (w.heap.size + 1) (w.heap.size + 1) _ _ _ _ w4 HP4.out (by simp only [ByteArray.size_append]; show 0 + _ + _  ≤ _; omega) (Nat.le_of_lt HP4.out.lt)).mono ?_
  rintro e w5 ⟨rfl, hP, hb⟩
  have HB5 := Lib.hid (HB4.out.trans (hb.mono (by omega)))
  have HP5 := Lib.hid hP
  have HR5 := Lib.hid (HR4.out.below hb (by omega))
  clear hP hb HB4 HP4 HR4
  have HQ := Lib.hid (encSeq_any (w.heap.size + 1) (w.heap.size + 1) (S6 ++ S4) (!ok) w5 (HP5.out.as (⟨by first | with_reducible rfl | simp only [e_app], by first | rfl | simp⟩)) (by simp only [ByteArray.size_append]; omega) (Nat.le_of_lt HP5.out.lt))
  rw [HF.out, Bool.not_not] at HQ
  clear HF HL
  go_wp2_with fail
  refine HQ.out.mono ?_
  rintro e w6 ⟨rfl, hb⟩
  have HB6 := Lib.hid (HB5.out.trans (hb.mono (by omega)))
  clear hb HQ
  go_wp2
  go_returns
  exact ⟨rfl, HB6.out⟩
 |true =>
  have HF := Lib.hid (HE1.out rfl)
  clear HE0 HE1
  go_wp2_with fail
  refine (HL1.out _).mono ?_
  rintro e w4 ⟨rfl, hb⟩
  have HB4 := Lib.hid (HB3.out.trans (hb.mono HB3.out.size))
  have HP4 := Lib.hid (HP3.out.keep hb)
  have HR4 := Lib.hid (HR3.out.below hb HR3.out.lt)
  clear hb HB3 HP3 HR3
  go_wp2_with fail
  refine (partsAdd_any (w.heap.size + 1) (w.heap.size + 1) _ _ _ _ w4 HP4.out (by rw [ByteArray.size_append]; show 0 + _ + _ ≤ _; omega) (Nat.le_of_lt HP4.out.lt)).mono ?_
  rintro e w5 ⟨rfl, hP, hb⟩
  have HB5 := Lib.hid (HB4.out.trans (hb.mono (by omega)))
  have HP5 := Lib.hid hP
  have HR5 := Lib.hid (HR4.out.below hb (by omega))
  clear hP hb HB4 HP4 HR4
  clear HL1
  have z2 : w5.cell? ⟨w.heap.size, 2, none⟩ = some (.string val) := HR5.out.cell 2
  go_wp2_with fail
  refine (HL.out _).mono ?_
  rintro e w6 ⟨rfl, hb⟩
  have HB6 := Lib.hid (HB5.out.trans (hb.mono HB5.out.size))
  have HP6 := Lib.hid (HP5.out.keep hb)
  have HR6 := Lib.hid (HR5.out.below hb HR5.out.lt)
  clear hb HB5 HP5 HR5
  go_wp2_with fail
  refine (partsAdd_any (w.heap.size + 1) (w.heap.size + 1) _ _ _ _ w6 HP6.out (by simp only [ByteArray.size_append]; show 0 + _ + _ + _ ≤ _; omega) (Nat.le_of_lt HP6.out.lt)).mono ?_
  rintro e w7 ⟨rfl, hP, hb⟩
  have HB7 := Lib.hid (HB6.out.trans (hb.mono (by omega)))
  have HP7 := Lib.hid hP
  have HR7 := Lib.hid (HR6.out.below hb (by omega))
  clear hP hb HB6 HP6 HR6
  have HQ := Lib.hid (encSeq_any (w.heap.size + 1) (w.heap.size + 1) (S6 ++ S1 ++ S4) (!ok) w7 (HP7.out.as (⟨by first | with_reducible rfl | simp only [e_app], by first | rfl | simp⟩)) (by simp only [ByteArray.size_append]; omega) (Nat.le_of_lt HP7.out.lt))
  rw [HF.out, Bool.not_not] at HQ
  clear HF HL
  go_wp2_with fail
  refine HQ.out.mono ?_
  rintro e w8 ⟨rfl, hb⟩
  have HB8 := Lib.hid (HB7.out.trans (hb.mono (by omega)))
  clear hb HQ
  go_wp2
  go_returns
  exact ⟨rfl, HB8.out⟩
end Go.Proofs.YtiecbagejdcafaaGreatDoor
/- Package encode in the landed code: extensions. Within the sizes that layer 19's statements name. -/
namespace Go.Proofs.YtiecbagejdcafaaGreatDoor
open Go.RowKit Go.PlainAid
set_option linter.unusedVariables false
theorem rows_take {α : Type} (S : α → ByteArray) {l : List α} {i : Nat} (h : i < l.length) : catS ((l.take (i + 1)).map S) = catS ((l.take i).map S) ++ S l[i] := by
 rw [List.take_succ_eq_append_getElem h, List.map_append, List.map_cons, List.map_nil, catS_snoc]
theorem rows_len {α : Type} (S : α → ByteArray) (l : List α) (n m : Nat) (h : ∀ x ∈ l, (S x).size ≤ n) (hl : l.length ≤ m) : (catS (l.map S)).size ≤ m * n := by
 have h1 := catS_len (l.map S) n (fun y hy => by obtain ⟨x, hx, rfl⟩ := List.mem_map.1 hy; exact h x hx)
 rw [List.length_map] at h1
 exact Nat.le_trans h1 (Nat.mul_le_mul_right n hl)
theorem rows_take_len {α : Type} (S : α → ByteArray) (l : List α) (n m i : Nat) (h : ∀ x ∈ l, (S x).size ≤ n) (hl : l.length ≤ m) : (catS ((l.take i).map S)).size ≤ m * n :=
 rows_len S _ n m (fun x hx => h x (List.mem_of_mem_take hx)) (by rw [List.length_take]; omega)
theorem rows_end {α : Type} (S : α → ByteArray) (OK : α → Bool) (F : α → Fo) (l : List α) (h : ∀ x ∈ l, OK x = true → S x = encS (F x)) (hs : (catS (l.map S)).size ≤ 1000000000) :
  seqS (!l.all OK) (catS (l.map S)) = if l.all OK = true then encS (sq (joinF (l.map F))) else ⟨#[]⟩ := by
 cases ha : l.all OK with
 |false => show seqS true _ = _; unfold seqS; rw [if_pos rfl, if_neg (by decide)]
 |true =>
  have he : l.map S = (l.map F).map encS := by
   rw [List.map_map]
   exact List.map_congr_left (fun x hx => h x hx (List.all_eq_true.1 ha x hx))
  show seqS false _ = _
  rw [he, catS_join] at hs ⊢
  rw [if_pos rfl]
  exact seqS_ok _ hs
set_option maxRecDepth 100000 in
set_option maxHeartbeats 8000000 in
theorem encSeqExt_any (oa : Option Addr) (ca : Nat) (l : List ExtV) (hl : l.length ≤ 10) (hs : ∀ x ∈ l, x.Small) (hcap : l.length ≤ ca ∧ ca ≤ maxLen) (w : World) (hc : CameExts w oa l) :
  Calls Tryz.prog 39 #[.slice oa l.length ca, .func (.func 40) #[] #[]] w fun e w' => e = .returned (.tuple #[.string (if l.all extOk = true then encS (sq (joinF (l.map extF))) else ⟨#[]⟩), .bool (l.all extOk)]) ∧ Below w.heap.size w w' := by
 have HLN : Hid (∀ i, (catS ((l.take i).map extS)).size ≤ 4570) := Lib.hid (fun i => rows_take_len extS l 457 10 i (fun x hx => extS_le x (hs x hx)) hl)
 have HFN : Hid (∀ x ∈ l, (extS x).size ≤ 457) := Lib.hid (fun x hx => extS_le x (hs x hx))
 have HEN : Hid (seqS (!l.all extOk) (catS (l.map extS)) = if l.all extOk = true then encS (sq (joinF (l.map extF))) else ⟨#[]⟩) := Lib.hid (rows_end extS extOk extF l (fun x hx h => by unfold extS; rw [if_pos h]) (by have := HLN.out l.length; rw [List.take_length] at this; omega))
 have HC := Lib.hid hc
 have HS := Lib.hid hs
 have hl9 : (l.length : Int) ≤ 10 := by omega
 generalize (if l.all extOk = true then encS (sq (joinF (l.map extF))) else ⟨#[]⟩) = R at *
 have HP1 : Hid (PAt (w.alloc (.cells #[.pointer none, .slice none 0 0, .bool false] 87)) w.heap.size w.heap.size ⟨#[]⟩ false) := Lib.hid (PAt.new w (Nat.le_refl _))
 have HB1 : Hid (Below w.heap.size w (w.alloc (.cells #[.pointer none, .slice none 0 0, .bool false] 87))) := Lib.hid ((Below.refl _ _).alloc (Nat.le_refl _) _)
 clear hc hs hcap
 go_enter Tryz.func39, Tryz.ntmps39
 go_upto_region 2 with (fail)
 generalize w.alloc (.cells #[.pointer none, .slice none 0 0, .bool false] 87) = w1 at *
 go_wp2_with fail
 go_loopg [11] l.length (fun gk iv wr => ∃ (i : Nat), iv = .int .i64 (i : Int) ∧ i ≤ l.length ∧ l.length - i ≤ gk ∧ Hid (PAt wr w.heap.size w.heap.size (catS ((l.take i).map extS)) (!(l.take i).all extOk)) ∧ Hid (Below w.heap.size w wr))
 case atStart => exact ⟨0, rfl, by omega, by omega, HP1, HB1⟩
 case round =>
  clear HP1 HB1
  obtain ⟨i, rfl, hi, hgk, HP1, HB1⟩ := hrel
  obtain ⟨w1, hw1⟩ : ∃ x, x = wr := ⟨_, rfl⟩
  subst hw1
  by_cases hlt : i < l.length
  ·have hlt2 : (i : Int) < (l.length : Int) := by omega
   obtain ⟨ad, oo, co, ho, hX⟩ := HC.out.below HB1.out i hlt
   subst ho
   obtain ⟨k0, k1, k2, hoid, hcap⟩ := hX
   have HCL := Lib.hid (encExt_any l[i] oo co (HS.out _ (List.getElem_mem hlt)) hcap)
   have HD := Lib.hid hoid
   have hsn := HFN.out _ (List.getElem_mem hlt)
   have HTK := Lib.hid (rows_take extS hlt)
   have HAL := Lib.hid (take_all hlt extOk)
   have HLI := HLN.out i
   replace k1 : w1.cell? ⟨(ad.add (i * 3)).block, (ad.add (i * 3)).off + 1, none⟩ = some (.bool l[i].crit) := k1
   replace k2 : w1.cell? ⟨(ad.add (i * 3)).block, (ad.add (i * 3)).off + 2, none⟩ = some (.string l[i].val) := k2
   clear hoid hcap
   generalize extS l[i] = SX at *
   generalize extOk l[i] = OX at *
   generalize l[i].oid = oid at *
   generalize l[i].crit = crit at *
   generalize l[i].val = val at *
   have HB2 : Hid (Below w.heap.size w (w1.alloc (.cells #[.slice oo oid.length co, .bool crit, .string val] 53))) := Lib.hid (HB1.out.alloc HB1.out.size _)
   have HP2 : Hid (PAt (w1.alloc (.cells #[.slice oo oid.length co, .bool crit, .string val] 53)) w.heap.size w.heap.size (catS ((l.take i).map extS)) (!(l.take i).all extOk)) := Lib.hid (HP1.out.keep ((Below.refl _ _).alloc (Nat.le_refl _) _))
   have HD2 : Hid (Came (w1.alloc (.cells #[.slice oo oid.length co, .bool crit, .string val] 53)) oo (ivs .u64 oid)) := Lib.hid (HD.out.below ((Below.refl _ _).alloc (Nat.le_refl _) _))
   have HCL2 := Lib.hid (HCL.out _ HD2.out)
   clear HB1 HP1 HD HD2 HCL
   go_wp2_with fail
   refine HCL2.out.mono ?_
   rintro e w3 ⟨rfl, hb⟩
   have HB3 := Lib.hid (HB2.out.trans (hb.mono HB2.out.size))
   have HP3 := Lib.hid (HP2.out.keep hb)
   clear hb HB2 HP2 HCL2 k0 k1 k2
   go_wp2_with fail
   refine (partsAdd_any w.heap.size w.heap.size _ _ _ _ w3 HP3.out (by omega) (Nat.le_of_lt HP3.out.lt)).mono ?_
   rintro e w4 ⟨rfl, hP, hb⟩
   have HB4 := Lib.hid (HB3.out.trans hb)
   have HP4 : Hid (PAt w4 w.heap.size w.heap.size (catS ((l.take (i + 1)).map extS)) (!(l.take (i + 1)).all extOk)) := Lib.hid (hP.as ⟨HTK.out.symm, by rw [HAL.out, Bool.not_and]⟩)
   clear hP hb HB3 HP3 HTK HAL
   go_wp2_with fail
   go_roundg (l.length - (i + 1))
   case measure => omega
   case rel => exact ⟨i + 1, by simp, by omega, by omega, HP4, HB4⟩
  ·have hlt2 : ¬ (i : Int) < (l.length : Int) := by omega
   obtain rfl : i = l.length := by omega
   rw [List.take_length] at HP1
   have HLI := HLN.out l.length
   rw [List.take_length] at HLI
   have HQ := Lib.hid (encSeq_any w.heap.size w.heap.size _ _ w1 HP1.out (by omega) (Nat.le_of_lt HP1.out.lt))
   rw [HEN.out, Bool.not_not] at HQ
   clear HP1 HEN HLN HFN HC HS
   go_wp2_with fail
   refine HQ.out.mono ?_
   rintro e w3 ⟨rfl, hb⟩
   have HB3 := Lib.hid (HB1.out.trans hb)
   clear hb HQ HB1
   go_wp2
   go_returns
   exact ⟨rfl, HB3.out⟩
set_option maxRecDepth 100000 in
set_option maxHeartbeats 8000000 in
theorem encExts_any (ox : Option Addr) (cx : Nat) (l : List ExtV) (hl : l.length ≤ 10) (hs : ∀ x ∈ l, x.Small) (hcap : l.length ≤ cx ∧ cx ≤ maxLen) (w : World) (hc : CameExts w ox l) :
  Calls Tryz.prog 17 #[.slice ox l.length cx] w fun e w' => e = .returned (.tuple #[.string (extsS l), .bool (extsOk l)]) ∧ Below w.heap.size w w' := by
 have HQ := Lib.hid (encSeqExt_any ox cx l hl hs hcap w hc)
 have hl9 : (l.length : Int) ≤ 10 := by omega
 clear hs hcap hc
 by_cases h0 : l.length = 0
 ·have hz : ((l.length : Int) == 0) = true := by simp; exact List.length_eq_zero_iff.1 h0
  have he : extsOk l = false := by rw [List.length_eq_zero_iff.1 h0]; rfl
  have hS : extsS l = ⟨#[]⟩ := by unfold extsS; rw [he]; rfl
  rw [hS, he]
  clear HQ h0 he hS
  go_enter Tryz.func17, Tryz.ntmps17
  go_wp2
  go_returns
  exact ⟨rfl, Below.refl _ _⟩
 ·have hz : ((l.length : Int) == 0) = false := by simp; intro h; rw [h] at h0; exact h0 rfl
  have hne : l.isEmpty = false := by cases l with | nil => exact absurd rfl h0 | cons _ _ => rfl
  have hok : extsOk l = l.all extOk := by unfold extsOk; rw [hne]; rfl
  have hS : extsS l = if l.all extOk = true then encS (sq (joinF (l.map extF))) else ⟨#[]⟩ := by unfold extsS; rw [hok]; rfl
  rw [hS, hok]
  generalize (if l.all extOk = true then encS (sq (joinF (l.map extF))) else ⟨#[]⟩) = R at *
  generalize l.all extOk = ok at *
  clear h0 hne hok hS
  go_enter Tryz.func17, Tryz.ntmps17
  go_wp2_with fail
  refine HQ.out.mono ?_
  rintro e w1 ⟨rfl, hb⟩
  clear HQ
  go_wp2
  go_returns
  exact ⟨rfl, hb⟩
end Go.Proofs.YtiecbagejdcafaaGreatDoor
