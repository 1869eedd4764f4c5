/- What the landed code's New and Push of heads give, and what a reader's memory is. -/
import Derived.Test.YtkokjeakpecndaaHeadGot
import Derived.Test.YtkokjeakpecndaaHeadSpec
import Derived.Test.YtkokjeakpecndaaHeadShort
import Derived.Test.YtkokjeakpecndaaOrders
import Derived.Deep.CutRange
namespace Go.Proofs.Ytkokjeakpecndaa
open Go.RowKit Go.PlainAid
set_option linter.unusedVariables false
/-- A reader's cells: the bytes that came, and the error. -/
def rdCells (b : ByteArray) (e : Int) : List Value := [.string b, .int .i64 e]
def RdAt : RdPred := fun w k F s => (∀ i, F i ↔ i = k) ∧ (s.over = 0 → IsB s.came ∧ s.came.length ≤ 13) ∧ ∃ b, Row w k 50 (rdCells b s.over) ∧ (s.over = 0 → b = strOfNums s.came)
theorem rdNew_any (w : World) : Calls Try.prog 14 #[] w fun e w' => ∃ k F, e = .returned (.pointer (some ⟨k, 0, none⟩)) ∧ (∀ i, F i → w.heap.size ≤ i) ∧ RdAt w' k F ⟨[], 0⟩ ∧ Below w.heap.size w w' := by
  go_enter Try.func14, Try.ntmps14
  go_wp2
  go_ret
  exact ⟨w.heap.size, fun i => i = w.heap.size, rfl, fun i hi => Nat.le_of_eq hi.symm, ⟨fun _ => Iff.rfl, fun _ => ⟨IsB.nil, Nat.zero_le _⟩, ⟨#[]⟩, Row.new w 50 (rdCells ⟨#[]⟩ 0), fun _ => rfl⟩, (Below.refl _ _).alloc (Nat.le_refl _) _⟩
theorem Chg.set {F : Nat → Prop} {a w : World} (h : Chg F a w) {g : Nat} (hg : F g) (o : Nat) (v : Value) : Chg F a (w.setCell ⟨g, o, none⟩ v) :=
  ⟨h.os, h.tape, h.output, by simpa using h.size, fun i hi hf => (Below.heap_setCell w _ v i (fun e => hf (by rw [e]; exact hg))).trans (h.block i hi hf)⟩
theorem Chg.drew {F : Nat → Prop} {a w : World} (h : Chg F a w) : Chg F a w.drew := ⟨h.os, h.tape, h.output, h.size, h.block⟩
theorem Chg.new {F : Nat → Prop} {a w : World} (h : Chg F a w) {g : Nat} (hg : a.heap.size ≤ g) (o : Nat) (v : Value) : Chg F a (w.setCell ⟨g, o, none⟩ v) :=
  ⟨h.os, h.tape, h.output, by simpa using h.size, fun i hi hf => (Below.heap_setCell w _ v i (fun e => by simp only at e; omega)).trans (h.block i hi hf)⟩
theorem Chg.head {F : Nat → Prop} {a w : World} (h : Chg F a w) {g : Nat} (hg : a.heap.size ≤ g) (c t : Int) (f : Bool) (v : Int) :
    Chg F a ((((w.setCell ⟨g, 0, none⟩ (.int .i64 c)).setCell ⟨g, 1, none⟩ (.int .i64 t)).setCell ⟨g, 2, none⟩ (.bool f)).setCell ⟨g, 3, none⟩ (.int .i64 v)) :=
  (((h.new hg 0 _).new hg 1 _).new hg 2 _).new hg 3 _
theorem Row.head {W : World} {k g : Nat} {ty : TypeId} {l : List Value} (h : Row W k ty l) (hne : ¬ k = g) (c t : Int) (f : Bool) (v : Int) :
    Row ((((W.setCell ⟨g, 0, none⟩ (.int .i64 c)).setCell ⟨g, 1, none⟩ (.int .i64 t)).setCell ⟨g, 2, none⟩ (.bool f)).setCell ⟨g, 3, none⟩ (.int .i64 v)) k ty l :=
  (((h.far (p := ⟨g, 0, none⟩) hne _).far (p := ⟨g, 1, none⟩) hne _).far (p := ⟨g, 2, none⟩) hne _).far (p := ⟨g, 3, none⟩) hne _
set_option maxHeartbeats 1600000 in
theorem rdPush_over {w : World} {k : Nat} {F : Nat → Prop} {s : HS} (b : Int) (h : RdAt w k F s) (ho : s.over ≠ 0) :
    Calls Try.prog 15 #[.pointer (some ⟨k, 0, none⟩), .int .u8 b] w fun e w' => e = .returned (tellV (0, 0, false, 0, false, s.over)) ∧ RdAt w' k F s ∧ Chg F w w' := by
  obtain ⟨hF, hc, m, hr, hm⟩ := h
  have HFIN : ∀ w', Below w.heap.size w w' → RdAt w' k F s := fun w' hb => ⟨hF, hc, m, hr.below hb hr.lt, hm⟩
  have HF := Lib.hid HFIN
  generalize s.over = o at *
  have q1 : w.cell? ⟨k, 1, none⟩ = some (.int .i64 o) := hr.cell 1
  have hlt := hr.lt
  have hob : (o != 0) = true := by simpa using ho
  have HZ := Lib.hid (Row.new w 23 (hdC 0 0 false 0))
  have hB0 : Below w.heap.size w (w.alloc (.cells (hdC 0 0 false 0).toArray 23)) := (Below.refl _ _).alloc (Nat.le_refl _) _
  obtain ⟨k0, k1, k2, k3, f0, f1, f2, f3⟩ := head_facts HZ.out
  clear hF hc hm hr HFIN ho
  go_enter Try.func15, Try.ntmps15
  go_wp2
  go_region
  go_wp2
  exact bodyPost_ret (results_cell_two Try.results15 _ (ad := ⟨w.heap.size, 0, none⟩) rfl rfl rfl (head_load (HZ.out.below (Below.refl _ _).drew HZ.out.lt))) rfl ⟨rfl, HF.out _ hB0.drew, Chg.of_below hB0.drew⟩
theorem str_join (l : List Int) (b : Int) : strOfNums l ++ strOfNums [b] = strOfNums (l ++ [b]) := (strOfNums_append l [b]).symm
/-- What Get tells of the bytes that came, with one more. -/
theorem came_get {l : List Int} {b : Int} (hl : IsB l) (h0 : 0 ≤ b) (h1 : b ≤ 255) {c t : Int} {k : Bool} {v : Int} {n : Nat} {e : Int} (h : hdGet (l ++ [b]) = (c, t, k, v, n, e)) : hgAt (strOfNums (l ++ [b])) 0 = (c, t, k, v, (n : Int), e) := by
  have := hgAt_in (strOfNums (l ++ [b])) 0 (Nat.zero_le _) (c := c) (t := t) (k := k) (v := v) (n := n) (e := e) (by rw [bl_str (hl.append (IsB.cons h0 h1 IsB.nil)), List.drop_zero]; exact h)
  simpa using this
theorem headGet_at (b : ByteArray) (at_ : Int) (hb : b.size ≤ maxLen) (ha : -9223372036854775808 ≤ at_ ∧ at_ ≤ 9223372036854775807) {c t : Int} {k : Bool} {v n e : Int} (h : hgAt b at_ = (c, t, k, v, n, e)) (w : World) :
    Calls Try.prog 12 #[.string b, .int .i64 at_] w fun r w' => r = .returned (.tuple #[.agg #[.int .i64 c, .int .i64 t, .bool k, .int .i64 v], .int .i64 n, .int .i64 e]) ∧ Below w.heap.size w w' := by
  have := headGet_any b at_ hb ha w
  rw [h] at this
  exact this
set_option maxRecDepth 100000 in
set_option maxHeartbeats 4000000 in
theorem rdPush_on {w : World} {k : Nat} {F : Nat → Prop} {s : HS} (b : Int) (h : RdAt w k F s) (h0 : 0 ≤ b) (h1 : b ≤ 255) (ho : s.over = 0) :
    Calls Try.prog 15 #[.pointer (some ⟨k, 0, none⟩), .int .u8 b] w fun e w' => e = .returned (tellV (s.tell b)) ∧ RdAt w' k F (s.next b) ∧ Chg F w w' := by
  obtain ⟨hF, hc, m, hr, hm⟩ := h
  obtain ⟨hl, hn⟩ := hc ho
  obtain rfl := hm ho
  obtain ⟨l, o⟩ := s
  simp only at ho hl hn hr
  subst ho
  clear hc hm
  obtain ⟨c, t, f, v, n, er, hg⟩ : ∃ c t f v n er, hdGet (l ++ [b]) = (c, t, f, v, n, er) := ⟨_, _, _, _, _, _, rfl⟩
  have hL : IsB (l ++ [b]) := hl.append (IsB.cons h0 h1 IsB.nil)
  have HG := Lib.hid (fun w => headGet_at (strOfNums (l ++ [b])) 0 (by rw [strOfNums_size]; simp; unfold maxLen; omega) (by decide) (came_get hl h0 h1 hg) w)
  have hFk : F k := (hF k).2 rfl
  have hcv := conv_at b
  have hsz1 : (strOfNums l).size ≤ 13 := by rw [strOfNums_size]; exact hn
  have hsz2 : (strOfNums [b]).size = 1 := by rw [strOfNums_size]; rfl
  have HJ := Lib.hid (str_join l b)
  have HZ := Lib.hid (Row.new w 23 (hdC 0 0 false 0))
  have hB0 : Below w.heap.size w (w.alloc (.cells (hdC 0 0 false 0).toArray 23)) := (Below.refl _ _).alloc (Nat.le_refl _) _
  have q0 : w.cell? ⟨k, 0, none⟩ = some (.string (strOfNums l)) := hr.cell 0
  have q1 : w.cell? ⟨k, 1, none⟩ = some (.int .i64 0) := hr.cell 1
  have HR := Lib.hid hr
  have hlt := hr.lt
  clear hr
  go_enter Try.func15, Try.ntmps15
  go_wp2
  go_region
  rw [HJ.out]
  have HZA : Hid (Row (((w.alloc (.cells #[.int .i64 0, .int .i64 0, .bool false, .int .i64 0] 23)).alloc (.cells #[.int .u8 b] 5)).drew) w.heap.size 23 (hdC 0 0 false 0)) := Lib.hid ((HZ.out.alloc (.cells #[.int .u8 b] 5)).below (Below.refl _ _).drew (HZ.out.alloc (.cells #[.int .u8 b] 5)).lt)
  have HBA : Hid (Below w.heap.size w (((w.alloc (.cells #[.int .i64 0, .int .i64 0, .bool false, .int .i64 0] 23)).alloc (.cells #[.int .u8 b] 5)).drew)) := Lib.hid (hB0.alloc hB0.size (.cells #[.int .u8 b] 5)).drew
  generalize ((w.alloc (.cells #[.int .i64 0, .int .i64 0, .bool false, .int .i64 0] 23)).alloc (.cells #[.int .u8 b] 5)).drew = A at *
  have HRA := Lib.hid (HR.out.below HBA.out HR.out.lt)
  clear HZ hB0 q0 q1 HR hcv
  go_wp2_with fail
  refine (HG.out _).mono ?_
  rintro e w1 ⟨rfl, hb⟩
  have HR1 := Lib.hid (HRA.out.below hb HRA.out.lt)
  have HZ1 := Lib.hid (HZA.out.below hb HZA.out.lt)
  have hB1 := HBA.out.trans (hb.mono HBA.out.size)
  obtain ⟨k0, k1, k2, k3, f0, f1, f2, f3⟩ := head_facts HZ1.out
  have q0 : w1.cell? ⟨k, 0, none⟩ = some (.string (strOfNums l)) := HR1.out.cell 0
  have q1 : w1.cell? ⟨k, 1, none⟩ = some (.int .i64 0) := HR1.out.cell 1
  have g0 := HR1.out.frozen 0
  have g1 := HR1.out.frozen 1
  have hwz := HZ1.out.lt
  have hkz := HR1.out.lt
  have hne : ¬ k = w.heap.size := by omega
  have hne2 : ¬ w.heap.size = k := by omega
  clear hb HRA HZA HBA HG
  by_cases e2 : er = 2
  · subst e2
    have hsh := hdGet_short _ hL (by rw [hg])
    have HT : Hid (HS.tell ⟨l, 0⟩ b = (0, 0, false, 0, false, 0)) := Lib.hid (by unfold HS.tell; rw [if_neg (by simp), hg]; rfl)
    have HN : Hid (HS.next ⟨l, 0⟩ b = ⟨l ++ [b], 0⟩) := Lib.hid (by unfold HS.next; rw [if_neg (by simp), hg]; rfl)
    clear hg
    go_wp2
    refine bodyPost_ret (results_cell_two Try.results15 _ (ad := ⟨w.heap.size, 0, none⟩) rfl rfl rfl (head_load ((head_set (HZ1.out.far (p := ⟨k, 0, none⟩) hne2 (.string (strOfNums (l ++ [b])))) 0 0 false 0).alloc _))) rfl
      ⟨by rw [HT.out]; rfl, ⟨hF, fun _ => by rw [HN.out]; exact ⟨hL, hsh⟩, strOfNums (l ++ [b]), by rw [HN.out]; exact ((HR1.out.set 0 (.string (strOfNums (l ++ [b])))).head hne 0 0 false 0).alloc _, fun _ => by rw [HN.out]⟩, ?_⟩
    exact Chg.trans (((Chg.of_below hB1).set hFk 0 (.string (strOfNums (l ++ [b])))).head (Nat.le_refl _) 0 0 false 0) (Chg.of_below ((Below.refl _ _).alloc (Nat.le_refl _) _)) (fun i hi => .inl hi)
  · by_cases e0 : er = 0
    · subst e0
      have HT : Hid (HS.tell ⟨l, 0⟩ b = (c, t, f, v, true, 0)) := Lib.hid (by unfold HS.tell; rw [if_neg (by simp), hg]; rfl)
      have HN : Hid (HS.next ⟨l, 0⟩ b = ⟨[], 0⟩) := Lib.hid (by unfold HS.next; rw [if_neg (by simp), hg]; rfl)
      clear hg e2
      go_upto_region 8 with fail
      have HY2 : Hid (Row (w1.alloc (.cells #[.int .i64 c, .int .i64 t, .bool f, .int .i64 v] 23)) w1.heap.size 23 (hdC c t f v)) := Lib.hid (Row.new w1 23 (hdC c t f v))
      have HZ2 : Hid (Row (w1.alloc (.cells #[.int .i64 c, .int .i64 t, .bool f, .int .i64 v] 23)) w.heap.size 23 (hdC 0 0 false 0)) := Lib.hid (HZ1.out.alloc _)
      have HR2 : Hid (Row (w1.alloc (.cells #[.int .i64 c, .int .i64 t, .bool f, .int .i64 v] 23)) k 50 (rdCells (strOfNums l) 0)) := Lib.hid (HR1.out.alloc _)
      have hB2 : Below w.heap.size w (w1.alloc (.cells #[.int .i64 c, .int .i64 t, .bool f, .int .i64 v] 23)) := hB1.alloc hB1.size _
      have hy1 : ¬ w1.heap.size = k := by omega
      have hy2 : ¬ w1.heap.size = w.heap.size := by omega
      have hy3 : ¬ k = w1.heap.size := by omega
      have hy4 : ¬ w.heap.size = w1.heap.size := by omega
      generalize w1.alloc (.cells #[.int .i64 c, .int .i64 t, .bool f, .int .i64 v] 23) = w2 at *
      generalize w1.heap.size = y at *
      clear HZ1 HR1 hB1 k0 k1 k2 k3 f0 f1 f2 f3 q0 q1 g0 g1 hwz hkz HJ
      obtain ⟨k0, k1, k2, k3, f0, f1, f2, f3⟩ := head_facts HZ2.out
      obtain ⟨j0, j1, j2, j3, i0, i1, i2, i3⟩ := head_facts HY2.out
      have hwz := HZ2.out.lt
      have hkz := HR2.out.lt
      have hyz := HY2.out.lt
      have q0 : w2.cell? ⟨k, 0, none⟩ = some (.string (strOfNums l)) := HR2.out.cell 0
      have q1 : w2.cell? ⟨k, 1, none⟩ = some (.int .i64 0) := HR2.out.cell 1
      have g0 := HR2.out.frozen 0
      have g1 := HR2.out.frozen 1
      go_wp2
      exact bodyPost_ret (results_cell_two Try.results15 _ (ad := ⟨w.heap.size, 0, none⟩) rfl rfl rfl (head_load (head_set ((HZ2.out.far (p := ⟨k, 0, none⟩) hne2 (.string ⟨#[]⟩)).far (p := ⟨k, 1, none⟩) hne2 (.int .i64 0)) c t f v))) rfl
        ⟨by rw [HT.out]; rfl, ⟨hF, fun _ => by rw [HN.out]; exact ⟨IsB.nil, Nat.zero_le _⟩, ⟨#[]⟩, by rw [HN.out]; exact ((HR2.out.set 0 (.string ⟨#[]⟩)).set 1 (.int .i64 0)).head hne c t f v, fun _ => by rw [HN.out]; rfl⟩, (((Chg.of_below hB2).set hFk 0 (.string ⟨#[]⟩)).set hFk 1 (.int .i64 0)).head (Nat.le_refl _) c t f v⟩
    · obtain ⟨z1, z2, z3, z4⟩ := hdGet_bad (l ++ [b]) (by rw [hg]; exact e0)
      rw [hg] at z1 z2 z3 z4
      simp only at z1 z2 z3 z4
      subst z1 z2 z3 z4
      have HT : Hid (HS.tell ⟨l, 0⟩ b = (0, 0, false, 0, false, er)) := Lib.hid (by unfold HS.tell; rw [if_neg (by simp), hg]; simp [e2, e0])
      have HN : Hid (HS.next ⟨l, 0⟩ b = ⟨l ++ [b], er⟩) := Lib.hid (by unfold HS.next; rw [if_neg (by simp), hg]; simp [e2, e0])
      have e2b : (er == 2) = false := by simpa using e2
      have e0b : (er == 0) = false := by simpa using e0
      clear hg
      go_upto_region 8 with fail
      have HY2 : Hid (Row (w1.alloc (.cells #[.int .i64 0, .int .i64 0, .bool false, .int .i64 0] 23)) w1.heap.size 23 (hdC 0 0 false 0)) := Lib.hid (Row.new w1 23 (hdC 0 0 false 0))
      have HZ2 : Hid (Row (w1.alloc (.cells #[.int .i64 0, .int .i64 0, .bool false, .int .i64 0] 23)) w.heap.size 23 (hdC 0 0 false 0)) := Lib.hid (HZ1.out.alloc _)
      have HR2 : Hid (Row (w1.alloc (.cells #[.int .i64 0, .int .i64 0, .bool false, .int .i64 0] 23)) k 50 (rdCells (strOfNums l) 0)) := Lib.hid (HR1.out.alloc _)
      have hB2 : Below w.heap.size w (w1.alloc (.cells #[.int .i64 0, .int .i64 0, .bool false, .int .i64 0] 23)) := hB1.alloc hB1.size _
      have hy1 : ¬ w1.heap.size = k := by omega
      have hy2 : ¬ w1.heap.size = w.heap.size := by omega
      have hy3 : ¬ k = w1.heap.size := by omega
      have hy4 : ¬ w.heap.size = w1.heap.size := by omega
      generalize w1.alloc (.cells #[.int .i64 0, .int .i64 0, .bool false, .int .i64 0] 23) = w2 at *
      generalize w1.heap.size = y at *
      clear HZ1 HR1 hB1 k0 k1 k2 k3 f0 f1 f2 f3 q0 q1 g0 g1 hwz hkz HJ
      obtain ⟨k0, k1, k2, k3, f0, f1, f2, f3⟩ := head_facts HZ2.out
      obtain ⟨j0, j1, j2, j3, i0, i1, i2, i3⟩ := head_facts HY2.out
      have hwz := HZ2.out.lt
      have hkz := HR2.out.lt
      have hyz := HY2.out.lt
      have q0 : w2.cell? ⟨k, 0, none⟩ = some (.string (strOfNums l)) := HR2.out.cell 0
      have q1 : w2.cell? ⟨k, 1, none⟩ = some (.int .i64 0) := HR2.out.cell 1
      have g0 := HR2.out.frozen 0
      have g1 := HR2.out.frozen 1
      go_wp2
      exact bodyPost_ret (results_cell_two Try.results15 _ (ad := ⟨w.heap.size, 0, none⟩) rfl rfl rfl (head_load (head_set ((HZ2.out.far (p := ⟨k, 0, none⟩) hne2 (.string ⟨#[]⟩)).far (p := ⟨k, 1, none⟩) hne2 (.int .i64 er)) 0 0 false 0))) rfl
        ⟨by rw [HT.out]; rfl, ⟨hF, fun h => by rw [HN.out] at h; exact absurd h e0, ⟨#[]⟩, by rw [HN.out]; exact ((HR2.out.set 0 (.string ⟨#[]⟩)).set 1 (.int .i64 er)).head hne 0 0 false 0, fun h => by rw [HN.out] at h; exact absurd h e0⟩, (((Chg.of_below hB2).set hFk 0 (.string ⟨#[]⟩)).set hFk 1 (.int .i64 er)).head (Nat.le_refl _) 0 0 false 0⟩
theorem HS.tell_over {s : HS} (b : Int) (h : s.over ≠ 0) : s.tell b = (0, 0, false, 0, false, s.over) := by unfold HS.tell; rw [if_pos h]
theorem HS.next_over {s : HS} (b : Int) (h : s.over ≠ 0) : s.next b = s := by unfold HS.next; rw [if_pos h]
/-- The landed code's reader is one. -/
theorem rdSpec : RdSpec RdAt where
  lt := fun ⟨hF, _, m, hr, _⟩ i hi => by rw [(hF i).1 hi]; exact hr.lt
  below := fun ⟨hF, hc, m, hr, hm⟩ hb => ⟨hF, hc, m, hr.below hb hr.lt, hm⟩
  new := rdNew_any
  push := by
    intro w k F s b h h0 h1
    by_cases ho : s.over = 0
    · exact (rdPush_on b h h0 h1 ho).mono fun e w' ⟨h1, h2, h3⟩ => ⟨F, h1, fun i hi => .inl hi, h2, h3⟩
    · rw [HS.tell_over b ho, HS.next_over b ho]
      exact (rdPush_over b h ho).mono fun e w' ⟨h1, h2, h3⟩ => ⟨F, h1, fun i hi => .inl hi, h2, h3⟩
end Go.Proofs.Ytkokjeakpecndaa
