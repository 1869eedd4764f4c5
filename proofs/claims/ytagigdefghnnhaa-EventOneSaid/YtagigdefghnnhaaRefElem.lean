/- What the reference's element of layer 9 gives. -/
import Derived.Test.YtagigdefghnnhaaRefLeaf
import Derived.Deep.LoopGhost
import Derived.Deep.RegionHeld3
namespace Go.Proofs.Ytagigdefghnnhaa
open Go.RowKit Go.PlainAid
set_option linter.unusedVariables false
/-- A head that is whole: how many bytes it has, where it ends, what it holds. -/
theorem start_ok {b : List Int} (hb : IsB b) {i : Nat} {e : Int} (he : e = -1 ∨ (i : Int) ≤ e) {c t : Int} {f : Bool} {n : Int} {p : Nat} (hs : startL [] (b.drop i) i e = ((c, t, f, n), p, 0)) :
    i + 1 ≤ p ∧ p < b.length ∧ 0 ≤ n ∧ n ≤ 2305843009213693951 := by
  have hE : ∃ st, EndAt st i e := by
    rcases he with h | h
    · exact ⟨[], .inl ⟨rfl, h⟩⟩
    · exact ⟨[e - i], .inr ⟨e - i, [], rfl, by omega, by omega⟩⟩
  obtain ⟨st, hE⟩ := hE
  obtain ⟨k, hp, hk, _, g, hg, _⟩ := (head_run 0 (b.drop i) st [] i e [] hE).2 (by rw [hs])
  rw [hs] at hp hg
  rw [List.nil_append] at hg
  have hB := (hb.drop i).take (k + 1)
  obtain ⟨_, h2, h3, _⟩ := hdGet_one _ hB (by rw [hg])
  have hbd := hdGet_bd _ hB
  rw [hg] at h2 h3 hbd
  simp only at hp h2 h3 hbd
  rw [List.length_take] at h3
  rw [List.length_drop] at hk
  exact ⟨by omega, by omega, hbd.2.2.2.2.1, hbd.2.2.2.2.2⟩
theorem leaf_len (b : List Int) (p : Nat) (n : Int) (hp : p ≤ b.length) (hn : 0 ≤ n) : p ≤ (leafP b p n).at_ ∧ (leafP b p n).at_ ≤ b.length ∧ (leafP b p n).l.length ≤ (leafP b p n).at_ - p + 1 := by
  unfold leafP
  by_cases h0 : n = 0
  · rw [if_pos h0]; simp; omega
  · rw [if_neg h0, List.length_drop]
    by_cases h1 : ((b.length - p : Nat) : Int) < n
    · rw [if_pos h1]
      refine ⟨hp, Nat.le_refl _, ?_⟩
      rw [bytesE_len, List.length_drop]
      show b.length - p ≤ b.length - p + 1
      omega
    · rw [if_neg h1]
      refine ⟨by show p ≤ p + n.toNat; omega, by show p + n.toNat ≤ _; omega, ?_⟩
      show (bytesE _ p ++ _).length ≤ p + n.toNat - p + 1
      rw [List.length_append, bytesE_len, List.length_take, List.length_drop]
      simp; omega
/-- How many events there are: no more than bytes. -/
def LenOk (i : Nat) (n : Nat) (t : Told) : Prop := i ≤ t.at_ ∧ t.at_ ≤ n ∧ t.l.length ≤ t.at_ - i
theorem loop_len {b : List Int} (el : Nat → Told) (i : Nat) (E : Int) (H : ∀ j : Nat, j ≤ b.length → (j : Int) < E → LenOk j b.length (el j)) : ∀ (g : Nat) (t : Told) (x : Nat), i ≤ t.at_ → t.at_ ≤ b.length → t.l.length + x ≤ t.at_ - i → i ≤ (loopP el g t E).at_ ∧ (loopP el g t E).at_ ≤ b.length ∧ (loopP el g t E).l.length + x ≤ (loopP el g t E).at_ - i := by
  intro g
  induction g with
  | zero => intro t x h1 h2 h3; exact ⟨h1, h2, h3⟩
  | succ g ih =>
    intro t x h1 h2 h3
    rw [loopP]
    by_cases h : (t.at_ : Int) < E
    · rw [if_pos h]
      obtain ⟨q1, q2, q3⟩ := H t.at_ h2 h
      by_cases he : (el t.at_).e ≠ 0
      · rw [if_pos he]
        refine ⟨by show i ≤ (el t.at_).at_; omega, q2, ?_⟩
        show (t.l ++ (el t.at_).l).length + x ≤ (el t.at_).at_ - i
        rw [List.length_append]; omega
      · rw [if_neg he]
        refine ih _ x (by show i ≤ (el t.at_).at_; omega) q2 ?_
        show (t.l ++ (el t.at_).l).length + x ≤ (el t.at_).at_ - i
        rw [List.length_append]; omega
    · rw [if_neg h]; exact ⟨h1, h2, h3⟩
theorem elem_len (b : List Int) (hb : IsB b) : ∀ (d i : Nat) (e : Int), i ≤ b.length → (e = -1 ∨ (i : Int) ≤ e) → LenOk i b.length (elemP b d i e) := by
  intro d
  induction d with
  | zero =>
    intro i e hi he
    obtain ⟨c, t, f, n, p, er, hs⟩ : ∃ c t f n p er, startL [] (b.drop i) i e = ((c, t, f, n), p, er) := ⟨_, _, _, _, _, _, rfl⟩
    have hpl := startL_place [] (b.drop i) i e
    rw [hs, List.length_drop] at hpl
    simp only at hpl
    by_cases h0 : er = 0
    · subst h0
      obtain ⟨p1, p2, n0, n1⟩ := start_ok hb he hs
      by_cases hf : 0 ≤ e ∧ e - ((p + 1 : Nat) : Int) < n
      · rw [elemP_fit 0 hs hf]; exact ⟨by show i ≤ p; omega, by show p ≤ _; omega, by simp⟩
      · cases f with
        | false =>
          rw [elemP_leaf 0 hs hf]
          obtain ⟨l1, l2, l3⟩ := leaf_len b (p + 1) n (by omega) n0
          refine ⟨by show i ≤ (leafP b (p + 1) n).at_; omega, l2, ?_⟩
          show (leafP b (p + 1) n).l.length + 1 ≤ (leafP b (p + 1) n).at_ - i
          omega
        | true => rw [elemP_deep hs hf]; exact ⟨by show i ≤ p; omega, by show p ≤ _; omega, by simp⟩
    · rw [elemP_err 0 hs h0]; exact ⟨hpl.1, by show p ≤ _; omega, by simp⟩
  | succ d ih =>
    intro i e hi he
    obtain ⟨c, t, f, n, p, er, hs⟩ : ∃ c t f n p er, startL [] (b.drop i) i e = ((c, t, f, n), p, er) := ⟨_, _, _, _, _, _, rfl⟩
    have hpl := startL_place [] (b.drop i) i e
    rw [hs, List.length_drop] at hpl
    simp only at hpl
    by_cases h0 : er = 0
    · subst h0
      obtain ⟨p1, p2, n0, n1⟩ := start_ok hb he hs
      by_cases hf : 0 ≤ e ∧ e - ((p + 1 : Nat) : Int) < n
      · rw [elemP_fit _ hs hf]; exact ⟨by show i ≤ p; omega, by show p ≤ _; omega, by simp⟩
      · cases f with
        | false =>
          rw [elemP_leaf _ hs hf]
          obtain ⟨l1, l2, l3⟩ := leaf_len b (p + 1) n (by omega) n0
          refine ⟨by show i ≤ (leafP b (p + 1) n).at_; omega, l2, ?_⟩
          show (leafP b (p + 1) n).l.length + 1 ≤ (leafP b (p + 1) n).at_ - i
          omega
        | true =>
          rw [elemP_open d hs hf]
          obtain ⟨q1, q2, q3⟩ := loop_len (b := b) (fun i => elemP b d i (((p + 1 : Nat) : Int) + n)) i (((p + 1 : Nat) : Int) + n) (fun j hj hj2 => ih j _ hj (.inr (by omega))) (b.length + 1) ⟨[evEnter p c t true n], 0, p + 1⟩ 1 (by show i ≤ p + 1; omega) (by show p + 1 ≤ _; omega) (by show 1 + 1 ≤ p + 1 - i; omega)
          generalize loopP (fun i => elemP b d i (((p + 1 : Nat) : Int) + n)) (b.length + 1) ⟨[evEnter p c t true n], 0, p + 1⟩ (((p + 1 : Nat) : Int) + n) = T at *
          by_cases hT : T.e ≠ 0
          · rw [if_pos hT]; exact ⟨q1, q2, by omega⟩
          · rw [if_neg hT]
            refine ⟨q1, q2, ?_⟩
            show (T.l ++ _).length ≤ T.at_ - i
            rw [List.length_append]; simpa using q3
    · rw [elemP_err _ hs h0]; exact ⟨hpl.1, by show p ≤ _; omega, by simp⟩
/-- Its value's shape, the length a letter. -/
theorem Evs.shaped {w : World} {base : Nat} {v : Value} {l : List Ev} (h : Evs w base v l) : ∃ oa m c, v = .slice oa m c := by
  obtain ⟨oa, c, h⟩ := h.form
  exact ⟨oa, _, c, h⟩
theorem Row.told3 {W : World} {kb g : Nat} {t : TypeId} {l : List Value} (h : Row W kb t l) (hne : kb ≠ g) (a b c : Value) : Row (((W.setCell ⟨g, 0, none⟩ a).setCell ⟨g, 1, none⟩ b).setCell ⟨g, 2, none⟩ c) kb t l :=
  ((h.far hne a).far hne b).far hne c
/-- What element answers, of as many more within each other as d. -/
def ElemC (b : ByteArray) (d : Nat) : Prop := ∀ (i : Nat) (e op most : Int) (base : Nat) (v : Value) (l : List Ev) (w : World), Evs w base v l → base ≤ w.heap.size → i ≤ b.size → l.length + (b.size - i) ≤ 40000000 → (e = -1 ∨ (i : Int) ≤ e) → e ≤ 3000000000000000000 → 0 ≤ op → most = op + d → most ≤ 64 →
  Calls Try.prog 23 #[.string b, v, .int .i64 (i : Int), .int .i64 e, .int .i64 op, .int .i64 most] w fun r w' => ∃ v', r = .returned (tdV v' (elemP (bl b) d i e).e ((elemP (bl b) d i e).at_ : Int)) ∧ Evs w' base v' (l ++ (elemP (bl b) d i e).l) ∧ Below w.heap.size w w'
set_option maxRecDepth 100000 in
set_option maxHeartbeats 4000000 in
theorem refElem_err (b : ByteArray) (hs : b.size ≤ 1000000) {i : Nat} {e op most : Int} {base : Nat} {v : Value} {l : List Ev} {w : World} (h : Evs w base v l) (hb : base ≤ w.heap.size) (hi : i ≤ b.size) (hl : l.length + (b.size - i) ≤ 40000000) (he1 : e ≤ 3000000000000000000) (d : Nat) {c t : Int} {f : Bool} {n : Int} {p : Nat} {er : Int} (hst : startL [] ((bl b).drop i) i e = ((c, t, f, n), p, er)) (h0 : er ≠ 0) :
    Calls Try.prog 23 #[.string b, v, .int .i64 (i : Int), .int .i64 e, .int .i64 op, .int .i64 most] w fun r w' => ∃ v', r = .returned (tdV v' (elemP (bl b) d i e).e ((elemP (bl b) d i e).at_ : Int)) ∧ Evs w' base v' (l ++ (elemP (bl b) d i e).l) ∧ Below w.heap.size w w' := by
  have HS := Lib.hid (refStart_any b i e hs hi)
  rw [hst] at HS
  simp only [stV, hdV] at HS
  have HZ := Lib.hid (Row.new w 29 (tdC (.slice none 0 0) 0 0))
  have HB0 : Hid (Below w.heap.size w (w.alloc (.cells (tdC (.slice none 0 0) 0 0).toArray 29))) := Lib.hid ((Below.refl _ _).alloc (Nat.le_refl _) _)
  have HE0 := Lib.hid (h.below HB0.out)
  obtain ⟨oa, cc, rfl⟩ := h.form
  obtain ⟨ln, hll⟩ : ∃ ln, l.length = ln := ⟨_, rfl⟩
  rw [hll] at hl HE0 ⊢
  have HLL := Lib.hid hll
  clear hll h
  have HEL := Lib.hid (elemP_err d hst h0)
  rw [HEL.out]
  have hq : (er != 0) = true := by simpa using h0
  clear hst h0 HEL
  go_enter Try.func23, Try.ntmps23
  go_wp2_with fail
  refine (HS.out _).mono ?_
  rintro r w1 ⟨rfl, hb1⟩
  have HZ1 := Lib.hid (HZ.out.below hb1 HZ.out.lt)
  have HB1 := Lib.hid (HB0.out.trans (hb1.mono HB0.out.size))
  have HE1 := Lib.hid (HE0.out.below hb1)
  obtain ⟨k0, k1, k2, f0, f1, f2⟩ := told_facts HZ1.out
  have hlt := HZ1.out.lt
  clear hb1 HZ HB0 HE0 HS
  have HRf := Lib.hid ((told_set HZ1.out (.slice oa ln cc) er (p : Int)).alloc (.cells (hdC c t f n).toArray 40))
  have HBf := Lib.hid ((told_below HB1.out (Nat.le_refl _) (.slice oa ln cc) er (p : Int)).alloc (by rw [size_set3]; exact HB1.out.size) (.cells (hdC c t f n).toArray 40))
  have HEf := Lib.hid ((HE1.out.told HZ1.out (.slice oa ln cc) (.int .i64 (er)) (.int .i64 (p : Int))).below ((Below.refl _ _).alloc (Nat.le_refl _) (.cells (hdC c t f n).toArray 40)))
  clear HE1 HB1
  go_wp2
  exact bodyPost_ret (results_cell Try.results23 _ (ad := ⟨w.heap.size, 0, none⟩) rfl (told_load HRf.out)) rfl ⟨_, rfl, by first | exact HEf.out | (rw [List.append_nil]; exact HEf.out), HBf.out⟩
set_option maxRecDepth 100000 in
set_option maxHeartbeats 4000000 in
theorem refElem_fit (b : ByteArray) (hs : b.size ≤ 1000000) {i : Nat} {e op most : Int} {base : Nat} {v : Value} {l : List Ev} {w : World} (h : Evs w base v l) (hb : base ≤ w.heap.size) (hi : i ≤ b.size) (hl : l.length + (b.size - i) ≤ 40000000) (he1 : e ≤ 3000000000000000000) (d : Nat) {c t : Int} {f : Bool} {n : Int} {p : Nat} (hst : startL [] ((bl b).drop i) i e = ((c, t, f, n), p, 0)) (p1 : i + 1 ≤ p) (p2 : p < b.size) (n0 : 0 ≤ n) (n1 : n ≤ 2305843009213693951) (hf : 0 ≤ e ∧ e - ((p + 1 : Nat) : Int) < n) :
    Calls Try.prog 23 #[.string b, v, .int .i64 (i : Int), .int .i64 e, .int .i64 op, .int .i64 most] w fun r w' => ∃ v', r = .returned (tdV v' (elemP (bl b) d i e).e ((elemP (bl b) d i e).at_ : Int)) ∧ Evs w' base v' (l ++ (elemP (bl b) d i e).l) ∧ Below w.heap.size w w' := by
  have HS := Lib.hid (refStart_any b i e hs hi)
  rw [hst] at HS
  simp only [stV, hdV] at HS
  have HZ := Lib.hid (Row.new w 29 (tdC (.slice none 0 0) 0 0))
  have HB0 : Hid (Below w.heap.size w (w.alloc (.cells (tdC (.slice none 0 0) 0 0).toArray 29))) := Lib.hid ((Below.refl _ _).alloc (Nat.le_refl _) _)
  have HE0 := Lib.hid (h.below HB0.out)
  obtain ⟨oa, cc, rfl⟩ := h.form
  obtain ⟨ln, hll⟩ : ∃ ln, l.length = ln := ⟨_, rfl⟩
  rw [hll] at hl HE0 ⊢
  have HLL := Lib.hid hll
  clear hll h
  have hq : ((0 : Int) != 0) = false := rfl
  have HEL := Lib.hid (elemP_fit d hst hf)
  rw [HEL.out]
  have hf1 : 0 ≤ e := hf.1
  have hf2 : e - ((p : Int) + 1) < n := by have := hf.2; omega
  clear hst HEL hf
  go_enter Try.func23, Try.ntmps23
  go_wp2_with fail
  refine (HS.out _).mono ?_
  rintro r w1 ⟨rfl, hb1⟩
  have HZ1 := Lib.hid (HZ.out.below hb1 HZ.out.lt)
  have HB1 := Lib.hid (HB0.out.trans (hb1.mono HB0.out.size))
  have HE1 := Lib.hid (HE0.out.below hb1)
  obtain ⟨k0, k1, k2, f0, f1, f2⟩ := told_facts HZ1.out
  have hlt := HZ1.out.lt
  clear hb1 HZ HB0 HE0 HS
  have HRf := Lib.hid ((told_set HZ1.out (.slice oa ln cc) 5 (p : Int)).alloc (.cells (hdC c t f n).toArray 40))
  have HBf := Lib.hid ((told_below HB1.out (Nat.le_refl _) (.slice oa ln cc) 5 (p : Int)).alloc (by rw [size_set3]; exact HB1.out.size) (.cells (hdC c t f n).toArray 40))
  have HEf := Lib.hid ((HE1.out.told HZ1.out (.slice oa ln cc) (.int .i64 (5)) (.int .i64 (p : Int))).below ((Below.refl _ _).alloc (Nat.le_refl _) (.cells (hdC c t f n).toArray 40)))
  clear HE1 HB1
  go_wp2
  exact bodyPost_ret (results_cell Try.results23 _ (ad := ⟨w.heap.size, 0, none⟩) rfl (told_load HRf.out)) rfl ⟨_, rfl, by first | exact HEf.out | (rw [List.append_nil]; exact HEf.out), HBf.out⟩
set_option maxRecDepth 100000 in
set_option maxHeartbeats 4000000 in
theorem refElem_leaf (b : ByteArray) (hs : b.size ≤ 1000000) {i : Nat} {e op most : Int} {base : Nat} {v : Value} {l : List Ev} {w : World} (h : Evs w base v l) (hb : base ≤ w.heap.size) (hi : i ≤ b.size) (hl : l.length + (b.size - i) ≤ 40000000) (he1 : e ≤ 3000000000000000000) (d : Nat) {c t : Int} {n : Int} {p : Nat} (hst : startL [] ((bl b).drop i) i e = ((c, t, false, n), p, 0)) (p1 : i + 1 ≤ p) (p2 : p < b.size) (n0 : 0 ≤ n) (n1 : n ≤ 2305843009213693951) (hf : ¬ (0 ≤ e ∧ e - ((p + 1 : Nat) : Int) < n)) :
    Calls Try.prog 23 #[.string b, v, .int .i64 (i : Int), .int .i64 e, .int .i64 op, .int .i64 most] w fun r w' => ∃ v', r = .returned (tdV v' (elemP (bl b) d i e).e ((elemP (bl b) d i e).at_ : Int)) ∧ Evs w' base v' (l ++ (elemP (bl b) d i e).l) ∧ Below w.heap.size w w' := by
  have HS := Lib.hid (refStart_any b i e hs hi)
  rw [hst] at HS
  simp only [stV, hdV] at HS
  have HZ := Lib.hid (Row.new w 29 (tdC (.slice none 0 0) 0 0))
  have HB0 : Hid (Below w.heap.size w (w.alloc (.cells (tdC (.slice none 0 0) 0 0).toArray 29))) := Lib.hid ((Below.refl _ _).alloc (Nat.le_refl _) _)
  have HE0 := Lib.hid (h.below HB0.out)
  obtain ⟨oa, cc, rfl⟩ := h.form
  obtain ⟨ln, hll⟩ : ∃ ln, l.length = ln := ⟨_, rfl⟩
  rw [hll] at hl HE0 ⊢
  have HLL := Lib.hid hll
  clear hll h
  have hq : ((0 : Int) != 0) = false := rfl
  have HEL := Lib.hid (elemP_leaf d hst hf)
  have hfw : e < 0 ∨ (0 ≤ e ∧ n ≤ e - ((p : Int) + 1)) := by omega
  rw [HEL.out]
  clear hst HEL hf
  rcases hfw with g1 | ⟨g1, g2⟩
  all_goals
    go_enter Try.func23, Try.ntmps23
    go_wp2_with fail
    refine (HS.out _).mono ?_
    rintro r w1 ⟨rfl, hb1⟩
    have HZ1 := Lib.hid (HZ.out.below hb1 HZ.out.lt)
    have HB1 := Lib.hid (HB0.out.trans (hb1.mono HB0.out.size))
    have HE1 := Lib.hid (HE0.out.below hb1)
    obtain ⟨k0, k1, k2, f0, f1, f2⟩ := told_facts HZ1.out
    have hlt := HZ1.out.lt
    clear hb1 HZ HB0 HE0 HS
    go_wp2_with fail
    have HKX : Hid (Row (w1.alloc (.cells #[.int .i64 c, .int .i64 t, .bool false, .int .i64 n] 40)) w1.heap.size 40 (hdC c t false n)) := Lib.hid (Row.new w1 40 (hdC c t false n))
    have HZX := Lib.hid (HZ1.out.alloc (.cells #[.int .i64 c, .int .i64 t, .bool false, .int .i64 n] 40))
    have HBX := Lib.hid (HB1.out.alloc HB1.out.size (.cells #[.int .i64 c, .int .i64 t, .bool false, .int .i64 n] 40))
    have HEX := Lib.hid (HE1.out.below ((Below.refl _ _).alloc (Nat.le_refl _) (.cells #[.int .i64 c, .int .i64 t, .bool false, .int .i64 n] 40)))
    clear HZ1 HB1 HE1 k0 k1 k2 f0 f1 f2
    generalize w1.alloc (.cells #[.int .i64 c, .int .i64 t, .bool false, .int .i64 n] 40) = X at *
    generalize w1.heap.size = kb at *
    have hne : kb ≠ w.heap.size := by omega
    obtain ⟨x0, x1, x2, x3, _, _, _, _⟩ := head_facts HKX.out
    have hXd : Below X.heap.size X X.drew := (Below.refl _ _).drew
    have HA := Lib.hid (refAnd_any (HEX.out.below hXd) (Nat.le_trans hb (Nat.le_trans HBX.out.size hXd.size)) (by have := HLL.out; omega) ⟨2, (p : Int), c, t, false, n, 0⟩)
    have HKd := Lib.hid (HKX.out.below hXd HKX.out.lt)
    have HZd := Lib.hid (HZX.out.below hXd HZX.out.lt)
    have HBd := Lib.hid (HBX.out.trans (hXd.mono HBX.out.size))
    unfold evV at HA
    have hpc : ((p + 1 : Nat) : Int) = (p : Int) + 1 := by omega
    have HLF := Lib.hid (fun (v5 : Value) (w5 : World) (he5 : Evs w5 base v5 (l ++ [(⟨2, (p : Int), c, t, false, n, 0⟩ : Ev)])) (hbw : base ≤ w5.heap.size) => refLeaf_any b (p + 1) n he5 hbw (by rw [List.length_append, HLL.out]; simp; omega) hs (by omega) (by omega) n0 n1)
    rw [hpc] at HLF
    clear hXd HKX HZX HBX HEX hpc
    go_region_held3 (fun w' => w'.cell? ⟨kb, 0, none⟩ = some (.int .i64 c) ∧ w'.cell? ⟨kb, 1, none⟩ = some (.int .i64 t) ∧ w'.cell? ⟨kb, 2, none⟩ = some (.bool false) ∧ w'.cell? ⟨kb, 3, none⟩ = some (.int .i64 n)) (first | exact ⟨z0, z1, z2, z3⟩ | exact ⟨y0, y1, y2, y3⟩ | exact ⟨x0, x1, x2, x3⟩ | exact ⟨(HK6.out.told3 hne _ _ _).cell 0, (HK6.out.told3 hne _ _ _).cell 1, (HK6.out.told3 hne _ _ _).cell 2, (HK6.out.told3 hne _ _ _).cell 3⟩) (first
      | (go_at_call 31; with_reducible refine (HA.out).mono ?_; rintro r w5 ⟨v5, rfl, he5, hb5⟩
         have HK5 := Lib.hid (HKd.out.below hb5 HKd.out.lt)
         have HZ5 := Lib.hid (HZd.out.below hb5 HZd.out.lt)
         have HB5 := Lib.hid (HBd.out.trans (hb5.mono HBd.out.size))
         have y0 : w5.cell? ⟨kb, 0, none⟩ = some (.int .i64 c) := HK5.out.cell 0
         have y1 : w5.cell? ⟨kb, 1, none⟩ = some (.int .i64 t) := HK5.out.cell 1
         have y2 : w5.cell? ⟨kb, 2, none⟩ = some (.bool false) := HK5.out.cell 2
         have y3 : w5.cell? ⟨kb, 3, none⟩ = some (.int .i64 n) := HK5.out.cell 3
         have HL := Lib.hid (HLF.out v5 w5 he5 (Nat.le_trans hb HB5.out.size))
         clear he5 hb5 HA HKd HZd HBd)
      | (go_at_call 30; with_reducible refine (HL.out).mono ?_; rintro r w6 ⟨v6, rfl, he6, hb6⟩
         have HK6 := Lib.hid (HK5.out.below hb6 HK5.out.lt)
         have HZ6 := Lib.hid (HZ5.out.below hb6 HZ5.out.lt)
         have HB6 := Lib.hid (HB5.out.trans (hb6.mono HB5.out.size))
         have HE6 := Lib.hid he6
         have z0 : w6.cell? ⟨kb, 0, none⟩ = some (.int .i64 c) := HK6.out.cell 0
         have z1 : w6.cell? ⟨kb, 1, none⟩ = some (.int .i64 t) := HK6.out.cell 1
         have z2 : w6.cell? ⟨kb, 2, none⟩ = some (.bool false) := HK6.out.cell 2
         have z3 : w6.cell? ⟨kb, 3, none⟩ = some (.int .i64 n) := HK6.out.cell 3
         have k0 : w6.cell? ⟨w.heap.size, 0, none⟩ = some (.slice none 0 0) := HZ6.out.cell 0
         have k1 : w6.cell? ⟨w.heap.size, 1, none⟩ = some (.int .i64 0) := HZ6.out.cell 1
         have k2 : w6.cell? ⟨w.heap.size, 2, none⟩ = some (.int .i64 0) := HZ6.out.cell 2
         have f0 := HZ6.out.frozen 0
         have f1 := HZ6.out.frozen 1
         have f2 := HZ6.out.frozen 2
         obtain ⟨oa6, m6, c6, rfl⟩ := he6.shaped
         simp only [tdV]
         clear he6 hb6 HL HK5 HZ5 HB5))
    all_goals
      have HRf := Lib.hid (told_set HZ6.out (.slice oa6 m6 c6) (leafP (bl b) (p + 1) n).e ((leafP (bl b) (p + 1) n).at_ : Int))
      have HBf := Lib.hid (told_below HB6.out (Nat.le_refl _) (.slice oa6 m6 c6) (leafP (bl b) (p + 1) n).e ((leafP (bl b) (p + 1) n).at_ : Int))
      have HEf := Lib.hid (HE6.out.told HZ6.out (.slice oa6 m6 c6) (.int .i64 (leafP (bl b) (p + 1) n).e) (.int .i64 ((leafP (bl b) (p + 1) n).at_ : Int)))
      clear HLF HK6 HZ6 HB6 HE6 x0 x1 x2 x3 y0 y1 y2 y3 z0 z1 z2 z3 k0 k1 k2 f0 f1 f2
      go_wp2
      exact bodyPost_ret (results_cell Try.results23 _ (ad := ⟨w.heap.size, 0, none⟩) rfl (told_load HRf.out)) rfl ⟨_, rfl, by unfold evLeaf; rw [List.append_cons]; exact HEf.out, HBf.out⟩
set_option maxRecDepth 100000 in
set_option maxHeartbeats 4000000 in
theorem refElem_deep (b : ByteArray) (hs : b.size ≤ 1000000) {i : Nat} {e op most : Int} {base : Nat} {v : Value} {l : List Ev} {w : World} (h : Evs w base v l) (hb : base ≤ w.heap.size) (hi : i ≤ b.size) (hl : l.length + (b.size - i) ≤ 40000000) (he1 : e ≤ 3000000000000000000) (HM : Hid (most = op)) {c t : Int} {n : Int} {p : Nat} (hst : startL [] ((bl b).drop i) i e = ((c, t, true, n), p, 0)) (p1 : i + 1 ≤ p) (p2 : p < b.size) (n0 : 0 ≤ n) (n1 : n ≤ 2305843009213693951) (hf : ¬ (0 ≤ e ∧ e - ((p + 1 : Nat) : Int) < n)) :
    Calls Try.prog 23 #[.string b, v, .int .i64 (i : Int), .int .i64 e, .int .i64 op, .int .i64 most] w fun r w' => ∃ v', r = .returned (tdV v' (elemP (bl b) 0 i e).e ((elemP (bl b) 0 i e).at_ : Int)) ∧ Evs w' base v' (l ++ (elemP (bl b) 0 i e).l) ∧ Below w.heap.size w w' := by
  have HS := Lib.hid (refStart_any b i e hs hi)
  rw [hst] at HS
  simp only [stV, hdV] at HS
  have HZ := Lib.hid (Row.new w 29 (tdC (.slice none 0 0) 0 0))
  have HB0 : Hid (Below w.heap.size w (w.alloc (.cells (tdC (.slice none 0 0) 0 0).toArray 29))) := Lib.hid ((Below.refl _ _).alloc (Nat.le_refl _) _)
  have HE0 := Lib.hid (h.below HB0.out)
  obtain ⟨oa, cc, rfl⟩ := h.form
  obtain ⟨ln, hll⟩ : ∃ ln, l.length = ln := ⟨_, rfl⟩
  rw [hll] at hl HE0 ⊢
  have HLL := Lib.hid hll
  clear hll h
  have hq : ((0 : Int) != 0) = false := rfl
  have hfw : e < 0 ∨ (0 ≤ e ∧ n ≤ e - ((p : Int) + 1)) := by omega
  have HEL := Lib.hid (elemP_deep hst hf)
  rw [HEL.out]
  have hom : (op == most) = true := by have := HM.out; simp; omega
  clear hst HEL hf
  rcases hfw with g1 | ⟨g1, g2⟩
  all_goals
    go_enter Try.func23, Try.ntmps23
    go_wp2_with fail
    refine (HS.out _).mono ?_
    rintro r w1 ⟨rfl, hb1⟩
    have HZ1 := Lib.hid (HZ.out.below hb1 HZ.out.lt)
    have HB1 := Lib.hid (HB0.out.trans (hb1.mono HB0.out.size))
    have HE1 := Lib.hid (HE0.out.below hb1)
    obtain ⟨k0, k1, k2, f0, f1, f2⟩ := told_facts HZ1.out
    have hlt := HZ1.out.lt
    clear hb1 HZ HB0 HE0 HS
    have HRf := Lib.hid ((told_set HZ1.out (.slice oa ln cc) 10 (p : Int)).alloc (.cells (hdC c t true n).toArray 40))
    have HBf := Lib.hid ((told_below HB1.out (Nat.le_refl _) (.slice oa ln cc) 10 (p : Int)).alloc (by rw [size_set3]; exact HB1.out.size) (.cells (hdC c t true n).toArray 40))
    have HEf := Lib.hid ((HE1.out.told HZ1.out (.slice oa ln cc) (.int .i64 10) (.int .i64 (p : Int))).below ((Below.refl _ _).alloc (Nat.le_refl _) (.cells (hdC c t true n).toArray 40)))
    clear HE1 HB1
    go_wp2
    exact bodyPost_ret (results_cell Try.results23 _ (ad := ⟨w.heap.size, 0, none⟩) rfl (told_load HRf.out)) rfl ⟨_, rfl, by first | exact HEf.out | (rw [List.append_nil]; exact HEf.out), HBf.out⟩
end Go.Proofs.Ytagigdefghnnhaa
