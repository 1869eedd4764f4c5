/- What the landed code's Push gives: the machine's step in plain words. -/
import Derived.Test.YtagigdefghnnhaaEvRel
namespace Go.Proofs.Ytagigdefghnnhaa
open Go.RowKit Go.PlainAid
set_option linter.unusedVariables false
set_option maxHeartbeats 4000000 in
/-- A byte of a content. -/
theorem takeContent_any {w : World} {k ks base : Nat} {x : CM} (b : Int) (hM : MR w k ks x) (hk : k < base) (hs : ks < base) (hb : base ≤ w.heap.size) (hn : 0 < x.n) (hn2 : x.n ≤ 2305843009213693951) {LL : List Ev} (hLL : ([evByte x.p b] ++ if x.n = 1 then [evEnd x.p] else []) = LL) :
    Calls Try.prog 34 #[.pointer (some ⟨k, 0, none⟩), .int .u8 b] w fun e w' => ∃ v, e = .returned v ∧ Evs w' base v LL ∧ MR w' k ks { x with n := x.n - 1 } ∧ Chg (FB base k ks) w w' := by
  have HL : Hid ((if 0 < x.n - 1 then [evByte x.p b] else [evByte x.p b] ++ [evEnd x.p]) = LL) := Lib.hid (by
    rw [← hLL]
    by_cases h : x.n = 1
    · rw [if_pos h, if_neg (by omega)]
    · rw [if_neg h, if_pos (by omega), List.append_nil])
  obtain ⟨q0, q1, q2, q3, q4, q5⟩ := mrow_facts hM.row
  have g2 := hM.row.frozen 2
  have hlt := hM.lt
  have HM1 := Lib.hid (hM.set_n (x.n - 1))
  have HC1 := Lib.hid (chg_setk (k := k) w 2 (.int .i64 (x.n - 1)) base ks)
  have hz1 : base ≤ (w.setCell ⟨k, 2, none⟩ (.int .i64 (x.n - 1))).heap.size := by simp; exact hb
  clear hM hLL
  go_enter Try.func34, Try.ntmps34
  go_upto_region 2 with fail
  clear q0 q1 q2 q3 q4 q5 g2 hlt
  generalize w.setCell ⟨k, 2, none⟩ (.int .i64 (x.n - 1)) = W at *
  have HV := Lib.hid (event_any 3 HM1.out)
  go_wp2_with fail
  refine HV.out.mono ?_
  rintro e w1 ⟨rfl, hb1⟩
  have HM2 := Lib.hid ((HM1.out.below hb1).below ((Below.refl _ _).alloc (Nat.le_refl _) (evO ⟨3, x.p, 0, 0, false, 0, 0⟩)))
  have HC2 := Lib.hid (chg_then (chg_then HC1.out (chg_below hb1)) (chg_alloc (evO ⟨3, x.p, 0, 0, false, 0, 0⟩) base k ks))
  have HR2 : Hid (Row (w1.alloc (evO ⟨3, x.p, 0, 0, false, 0, 0⟩)) w1.heap.size 42 (evC ⟨3, x.p, 0, 0, false, 0, 0⟩)) := Lib.hid (Row.new w1 42 (evC ⟨3, x.p, 0, 0, false, 0, 0⟩))
  have hz2 : base ≤ w1.heap.size := Nat.le_trans hz1 hb1.size
  have hX2 : w1.alloc (.cells #[.int .i64 3, .int .i64 (x.p : Int), .int .i64 0, .int .i64 0, .bool false, .int .i64 0, .int .u8 0] 42) = w1.alloc (evO ⟨3, x.p, 0, 0, false, 0, 0⟩) := rfl
  clear hb1 HM1 HC1 HV
  go_upto_region 3 with fail
  clear hX2
  generalize w1.alloc (evO ⟨3, x.p, 0, 0, false, 0, 0⟩) = Z at *
  generalize w1.heap.size = hh at *
  obtain ⟨e0, e1, e2, e3, e4, e5, e6⟩ := ev_facts HR2.out
  have g6 := HR2.out.frozen 6
  have hhl := HR2.out.lt
  have HR3 : Hid (Row (Z.setCell ⟨hh, 6, none⟩ (.int .u8 b)) hh 42 (evC ⟨3, x.p, 0, 0, false, 0, b⟩)) := Lib.hid (HR2.out.set 6 (.int .u8 b))
  have hB3 : Below base Z (Z.setCell ⟨hh, 6, none⟩ (.int .u8 b)) := (Below.refl _ _).setCell hz2 _
  have HM3 := Lib.hid (HM2.out.above hB3 hk hs)
  have HC3 := Lib.hid (chg_then HC2.out (chg_base hB3 (by omega)))
  have hz3 : base ≤ (Z.setCell ⟨hh, 6, none⟩ (.int .u8 b)).heap.size := by simp; omega
  clear hB3 HR2 HM2 HC2
  go_upto_region 4 with fail
  clear e0 e1 e2 e3 e4 e5 e6 g6 hhl
  generalize Z.setCell ⟨hh, 6, none⟩ (.int .u8 b) = Y at *
  obtain ⟨e0, e1, e2, e3, e4, e5, e6⟩ := ev_facts HR3.out
  have HM4 := Lib.hid (HM3.out.below ((Below.refl _ _).alloc (Nat.le_refl _) (evO ⟨3, x.p, 0, 0, false, 0, b⟩)))
  have HC4 := Lib.hid (chg_then HC3.out (chg_alloc (evO ⟨3, x.p, 0, 0, false, 0, b⟩) base k ks))
  have HE4 := Lib.hid ((evs_one Y ⟨3, x.p, 0, 0, false, 0, b⟩).mono (base' := base) hz3)
  have hX4 : Y.alloc (.cells #[.int .i64 3, .int .i64 (x.p : Int), .int .i64 0, .int .i64 0, .bool false, .int .i64 0, .int .u8 b] 42) = Y.alloc (evO ⟨3, x.p, 0, 0, false, 0, b⟩) := rfl
  have hz4 : base ≤ (Y.alloc (evO ⟨3, x.p, 0, 0, false, 0, b⟩)).heap.size := by simp; omega
  clear HM3 HC3
  go_wp2_with fail
  generalize Y.alloc (evO ⟨3, x.p, 0, 0, false, 0, b⟩) = V at *
  refine (endLeaf_any HM4.out hk HE4.out hz4 (by simp)).mono ?_
  rintro e w5 ⟨v5, rfl, he5, hb5⟩
  have he5 : Evs w5 base v5 LL := by rw [← HL.out]; exact he5
  obtain ⟨o5, c5, rfl⟩ := he5.isSl
  have HE5 := Lib.hid he5
  have HM5 := Lib.hid (HM4.out.above hb5 hk hs)
  have HC5 := Lib.hid (chg_then HC4.out (chg_base hb5 hz4))
  clear he5 hb5 HM4 HC4 HE4 HR3 e0 e1 e2 e3 e4 e5 e6
  go_wp2
  go_returns
  exact ⟨_, rfl, HE5.out, HM5.out, HC5.out⟩
set_option maxHeartbeats 4000000 in
/-- A byte while no error came yet. -/
theorem take_any {w : World} {k ks d : Nat} {x : CM} {m : EM} (b : Int) (hM : MR w k ks x) (hR : Rel d x m) (ho : m.over = 0) (h0 : 0 ≤ b) (h1 : b ≤ 255) (hat : m.at_ ≤ 1000000) {er : Int} {l : List Ev} {m' : EM} (hs : m.step d b = (er, l, m')) :
    Calls Try.prog 25 #[.pointer (some ⟨k, 0, none⟩), .int .u8 b] w fun e w' => ∃ v x', e = .returned (.tuple #[v, .int .i64 er]) ∧ Evs w' w.heap.size v l ∧ MR w' k ks x' ∧ Chg (FB w.heap.size k ks) w w' ∧ x'.p = x.p ∧ x'.er = x.er ∧ Rel d (x'.next er) m' := by
  have hk := hM.lt
  have hks := hM.lts
  obtain ⟨q0, q1, q2, q3, q4, q5⟩ := mrow_facts hM.row
  have hdn := hR.done
  by_cases hd : m.done = true
  · have hst : m.step d b = (6, [], { m with over := 6 }) := by
      unfold EM.step
      rw [if_neg (by simpa using ho), if_pos hd]
    rw [hst] at hs
    injection hs with s1 s2
    injection s2 with s2 s3
    subst s1 s2 s3
    have HF := Lib.hid (rel_err (x' := x) hR.most hR.at_ hR.done (er := 6) (by decide))
    have HM := Lib.hid hM
    rw [hdn, hd] at q4
    clear hM hR hst hd hdn
    go_enter Try.func25, Try.ntmps25
    go_wp2
    go_returns
    exact ⟨_, x, rfl, Evs.nil _ _, HM.out, chg_draws _ w 0, rfl, rfl, HF.out⟩
  · have hd0 : m.done = false := by simpa using hd
    have HT := Lib.hid (take_code hM.st)
    rw [hdn, hd0] at q4
    by_cases hl : x.s.last = 0
    · have hno : ¬ 0 < m.leaf := by
        intro hle
        have hs1 := hR.st ho
        have hp1 := hR.pos ho
        unfold SS.last at hl
        cases hx : x.s.st with
        | nil => rw [hx] at hl; cases hl
        | cons z q =>
          rw [hx] at hl hs1
          have hl : z = 0 := hl
          have := hp1 (z - m.leaf) (by rw [hs1]; exact List.mem_cons_self ..)
          omega
      have hlz : m.leaf = 0 := by have := (hR.leaf ho).2.1; omega
      have hst0 : m.st = x.s.st := by rw [hR.st ho, hlz, pays_zero]
      have hhd : m.st.head? = some 0 := by
        rw [hst0]
        unfold SS.last at hl
        cases hx : x.s.st with
        | nil => rw [hx] at hl; cases hl
        | cons z q => rw [hx] at hl; exact congrArg some hl
      have hst : m.step d b = (5, [], { m with over := 5 }) := by
        unfold EM.step
        rw [if_neg (by simpa using ho), if_neg (by simp [hd0]), if_neg hno, if_pos hhd]
      rw [hst] at hs
      injection hs with s1 s2
      injection s2 with s2 s3
      subst s1 s2 s3
      have HF := Lib.hid (rel_err (x' := x) hR.most hR.at_ hR.done (er := 5) (by decide))
      rw [(take_full hl).1, (take_full hl).2] at HT
      have HM := Lib.hid hM
      clear hM hR hst hd hdn hno hlz hst0 hhd hl
      go_enter Try.func25, Try.ntmps25
      go_wp2_with fail
      refine HT.out.mono ?_
      rintro e w1 ⟨rfl, hs1, hc1⟩
      have HM1 := Lib.hid (HM.out.stack hs1 hc1)
      have HC1 := Lib.hid (chg_stack (base := w.heap.size) (k := k) hc1)
      clear hs1 hc1 HT HM q0 q1 q2 q3 q4 q5
      go_wp2
      go_returns
      exact ⟨_, x, rfl, Evs.nil _ _, HM1.out, HC1.out, rfl, rfl, HF.out⟩
    · rw [(take_fit hl).1, (take_fit hl).2] at HT
      obtain ⟨l1, l2, l3⟩ := hR.leaf ho
      by_cases hle : 0 < m.leaf
      · obtain ⟨r1, r2, r3⟩ := rel_leaf (b := b) hR ho hd0 hle
        rw [hs] at r1 r2 r3
        simp only at r1 r2 r3
        subst r2
        have hn0 : 0 < x.n := by omega
        have hn1 : x.n ≤ 2305843009213693951 := by omega
        obtain ⟨LL, hLL⟩ : ∃ LL, ([evByte x.p b] ++ if x.n = 1 then [evEnd x.p] else []) = LL := ⟨_, rfl⟩
        rw [hLL] at r1
        have HLn : Hid (LL.length ≤ 1000) := Lib.hid (by rw [← hLL]; split <;> simp)
        have HLL := Lib.hid hLL
        have HF := Lib.hid r3
        have HL := Lib.hid r1
        have HM := Lib.hid hM
        clear hM hR hs hd hdn hl r1 r3 hLL
        go_enter Try.func25, Try.ntmps25
        go_wp2_with fail
        refine HT.out.mono ?_
        rintro e w1 ⟨rfl, hs1, hc1⟩
        have HM1 := Lib.hid (HM.out.stack hs1 hc1)
        have HC1 := Lib.hid (chg_stack (base := w.heap.size) (k := k) hc1)
        have hz1 := hc1.size
        clear hs1 hc1 HT HM q0 q1 q2 q3 q4 q5
        obtain ⟨q0, q1, q2, q3, q4, q5⟩ := mrow_facts HM1.out.row
        simp only at q0 q1 q2 q3 q4 q5
        go_wp2_with fail
        refine (takeContent_any (base := w.heap.size) b HM1.out hk hks hz1 hn0 hn1 HLL.out).mono ?_
        rintro e w2 ⟨v2, rfl, he2, hm2, hc2⟩
        obtain ⟨o2, c2, rfl⟩ := he2.isSl
        have HE2 := Lib.hid he2
        have HM2 := Lib.hid hm2
        have HC2 := Lib.hid (chg_then HC1.out hc2)
        have hz2 := Nat.le_trans hz1 hc2.size
        clear he2 hm2 hc2 HM1 HC1 q0 q1 q2 q3 q4 q5
        go_wp2_with fail
        refine (leave_any HM2.out hk hks HE2.out hz2 HLn.out).mono ?_
        rintro e w3 ⟨v3, rfl, he3, hm3, hc3⟩
        have he3 : Evs w3 w.heap.size v3 l := by rw [← HL.out]; exact he3
        obtain ⟨o3, c3, rfl⟩ := he3.isSl
        have HE3 := Lib.hid he3
        have HM3 := Lib.hid hm3
        have HC3 := Lib.hid (chg_then HC2.out hc3)
        clear he3 hm3 hc3 HM2 HC2 HE2
        go_wp2
        go_returns
        exact ⟨_, _, rfl, HE3.out, HM3.out, HC3.out, rfl, rfl, HF.out⟩
      · have hlz : m.leaf = 0 := by omega
        have hst0 : m.st = x.s.st := by rw [hR.st ho, hlz, pays_zero]
        have hz : m.st.head? ≠ some 0 := by
          rw [hst0]
          intro h
          cases hx : x.s.st with
          | nil => rw [hx] at h; cases h
          | cons z q =>
            rw [hx] at h
            injection h with h
            exact hl (by unfold SS.last; rw [hx]; exact h)
        obtain ⟨i1, i2, i3⟩ := hR.hd ho
        obtain ⟨c, t, f, n, g, e1, hg⟩ : ∃ c t f n g e1, hdGet (m.hd ++ [b]) = (c, t, f, n, g, e1) := ⟨_, _, _, _, _, _, rfl⟩
        have hn0 : x.n = 0 := by omega
        obtain ⟨r1, r2, r3⟩ := rel_head (x := { x with s := ⟨x.s.most, pays x.s.st 1⟩ }) ho hd0 hlz hz hR.most (by show pays x.s.st 1 = _; rw [hst0]) hn0 hR.at_ (hR.done.trans hd0) (hR.over.trans ho) (hR.pos ho) (i1.append (IsB.cons h0 h1 IsB.nil)) hg
        rw [hs] at r1 r2 r3
        simp only at r1 r2 r3
        obtain ⟨y, hy⟩ : ∃ y, strOfNums (m.hd ++ [b]) = y := ⟨_, rfl⟩
        rw [hy] at r3
        have HTH := Lib.hid (fun (w1 : World) (h : MR w1 k ks { x with s := ⟨x.s.most, pays x.s.st 1⟩ }) (hz1 : w.heap.size ≤ w1.heap.size) => takeHead_any (base := w.heap.size) b h hk hks hz1 h0 h1 i1 i2 i3 hg hy)
        have HF := Lib.hid r3
        have HL := Lib.hid r2
        have HER := Lib.hid r1
        have HM := Lib.hid hM
        have hPE : ∀ (z : CM), (thX z y f n e1).p = z.p ∧ (thX z y f n e1).er = z.er := by
          intro z
          unfold thX
          split
          · exact ⟨rfl, rfl⟩
          · split
            · exact ⟨rfl, rfl⟩
            · split <;> exact ⟨rfl, rfl⟩
        have HPE := Lib.hid (hPE { x with s := ⟨x.s.most, pays x.s.st 1⟩ })
        clear hM hR hs hd hdn hl r1 r2 r3 hg hy i1 i2 i3 hPE hz hst0
        go_enter Try.func25, Try.ntmps25
        go_wp2_with fail
        refine HT.out.mono ?_
        rintro e w1 ⟨rfl, hs1, hc1⟩
        have HM1 := Lib.hid (HM.out.stack hs1 hc1)
        have HC1 := Lib.hid (chg_stack (base := w.heap.size) (k := k) hc1)
        have hz1 := hc1.size
        clear hs1 hc1 HT HM q0 q1 q2 q3 q4 q5
        obtain ⟨q0, q1, q2, q3, q4, q5⟩ := mrow_facts HM1.out.row
        simp only at q0 q1 q2 q3 q4 q5
        rw [hn0] at q2
        go_wp2_with fail
        refine (HTH.out w1 HM1.out hz1).mono ?_
        rintro e w2 ⟨v2, rfl, he2, hm2, hc2⟩
        rw [HL.out] at he2
        obtain ⟨o2, c2, rfl⟩ := he2.isSl
        have HE2 := Lib.hid he2
        have HM2 := Lib.hid hm2
        have HC2 := Lib.hid (chg_then HC1.out hc2)
        clear he2 hm2 hc2 HM1 HC1 q0 q1 q2 q3 q4 q5 HTH
        go_wp2
        go_returns
        rw [← HER.out]
        exact ⟨_, _, rfl, HE2.out, HM2.out, HC2.out, HPE.out.1, HPE.out.2, by rw [HER.out]; exact HF.out⟩
end Go.Proofs.Ytagigdefghnnhaa
