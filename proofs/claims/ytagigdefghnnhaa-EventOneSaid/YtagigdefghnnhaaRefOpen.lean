/- What the reference's element gives where elements within it are looked at. -/
import Derived.Test.YtagigdefghnnhaaRefElem
namespace Go.Proofs.Ytagigdefghnnhaa
open Go.RowKit Go.PlainAid
set_option linter.unusedVariables false
theorem elem_prog (b : List Int) (hb : IsB b) (d j : Nat) (e : Int) (hj : j ≤ b.length) (he : e = -1 ∨ (j : Int) ≤ e) (h0 : (elemP b d j e).e = 0) : j < (elemP b d j e).at_ := by
  have hE : ∃ st, EndAt st j e := by
    rcases he with h | h
    · exact ⟨[], .inl ⟨rfl, h⟩⟩
    · exact ⟨[e - j], .inr ⟨e - j, [], rfl, by omega, by omega⟩⟩
  obtain ⟨st, hE⟩ := hE
  obtain ⟨k, k1, k2, _⟩ := (elem_run b hb d st j e [] hE hj).2 h0
  omega
set_option maxRecDepth 100000 in
set_option maxHeartbeats 4000000 in
theorem refElem_open (b : ByteArray) (hs : b.size ≤ 1000000) {i : Nat} {e op most : Int} {base : Nat} {v : Value} {l : List Ev} {w : World} (h : Evs w base v l) (hb : base ≤ w.heap.size) (hi : i ≤ b.size) (hl : l.length + (b.size - i) ≤ 40000000) (he1 : e ≤ 3000000000000000000) (d : Nat) (IH : ElemC b d) (HM : Hid (most = op + ((d + 1 : Nat) : Int))) (ho : 0 ≤ op) (hm1 : most ≤ 64) {c t : Int} {n : Int} {p : Nat} (hst : startL [] ((bl b).drop i) i e = ((c, t, true, n), p, 0)) (p1 : i + 1 ≤ p) (p2 : p < b.size) (n0 : 0 ≤ n) (n1 : n ≤ 2305843009213693951) (hf : ¬ (0 ≤ e ∧ e - ((p + 1 : Nat) : Int) < n)) :
    Calls Try.prog 23 #[.string b, v, .int .i64 (i : Int), .int .i64 e, .int .i64 op, .int .i64 most] w fun r w' => ∃ v', r = .returned (tdV v' (elemP (bl b) (d + 1) i e).e ((elemP (bl b) (d + 1) i e).at_ : Int)) ∧ Evs w' base v' (l ++ (elemP (bl b) (d + 1) i e).l) ∧ Below w.heap.size w w' := by
  have HS := Lib.hid (refStart_any b i e hs hi)
  rw [hst] at HS
  simp only [stV, hdV] at HS
  have HZ := Lib.hid (Row.new w 29 (tdC (.slice none 0 0) 0 0))
  have HB0 : Hid (Below w.heap.size w (w.alloc (.cells (tdC (.slice none 0 0) 0 0).toArray 29))) := Lib.hid ((Below.refl _ _).alloc (Nat.le_refl _) _)
  have HE0 := Lib.hid (h.below HB0.out)
  obtain ⟨oa, cc, rfl⟩ := h.form
  obtain ⟨ln, hll⟩ : ∃ ln, l.length = ln := ⟨_, rfl⟩
  rw [hll] at hl HE0 ⊢
  have HLL := Lib.hid hll
  clear hll h
  have hq : ((0 : Int) != 0) = false := rfl
  have hfw : e < 0 ∨ (0 ≤ e ∧ n ≤ e - ((p : Int) + 1)) := by omega
  have HEL := Lib.hid (elemP_open d hst hf)
  rw [HEL.out]
  have hop : op ≤ 63 := by have := HM.out; omega
  have hom : (op == most) = false := by have := HM.out; simp; omega
  have HI := Lib.hid IH
  have HLE := Lib.hid (fun (j : Nat) (hj : j ≤ (bl b).length) (h2 : (j : Int) < ((p + 1 : Nat) : Int) + n) => elem_len (bl b) (bl_isB b) d j (((p + 1 : Nat) : Int) + n) hj (.inr (by omega)))
  obtain ⟨T, hT⟩ : ∃ T, loopP (fun i => elemP (bl b) d i (((p + 1 : Nat) : Int) + n)) ((bl b).length + 1) ⟨[evEnter p c t true n], 0, p + 1⟩ (((p + 1 : Nat) : Int) + n) = T := ⟨_, rfl⟩
  rw [hT]
  obtain ⟨R, hR⟩ : ∃ R, (if T.e ≠ 0 then T else ⟨T.l ++ [evExit (T.at_ - 1)], 0, T.at_⟩ : Told) = R := ⟨_, rfl⟩
  rw [hR]
  have HRR := Lib.hid hR
  clear hR
  have hpc : ((p + 1 : Nat) : Int) = (p : Int) + 1 := by omega
  rw [hpc, bl_length] at hT
  rw [hpc, bl_length] at HLE
  have HT := Lib.hid hT
  clear hpc
  clear hst HEL hf hT IH
  rcases hfw with g1 | ⟨g1, g2⟩
  all_goals
    go_enter Try.func23, Try.ntmps23
    go_wp2_with fail
    refine (HS.out _).mono ?_
    rintro r w1 ⟨rfl, hb1⟩
    have HZ1 := Lib.hid (HZ.out.below hb1 HZ.out.lt)
    have HB1 := Lib.hid (HB0.out.trans (hb1.mono HB0.out.size))
    have HE1 := Lib.hid (HE0.out.below hb1)
    obtain ⟨k0, k1, k2, f0, f1, f2⟩ := told_facts HZ1.out
    have hlt := HZ1.out.lt
    clear hb1 HZ HB0 HE0 HS
    go_wp2_with fail
    have HKX : Hid (Row (w1.alloc (.cells #[.int .i64 c, .int .i64 t, .bool true, .int .i64 n] 40)) w1.heap.size 40 (hdC c t true n)) := Lib.hid (Row.new w1 40 (hdC c t true n))
    have HZX := Lib.hid (HZ1.out.alloc (.cells #[.int .i64 c, .int .i64 t, .bool true, .int .i64 n] 40))
    have HBX := Lib.hid (HB1.out.alloc HB1.out.size (.cells #[.int .i64 c, .int .i64 t, .bool true, .int .i64 n] 40))
    have HEX := Lib.hid (HE1.out.below ((Below.refl _ _).alloc (Nat.le_refl _) (.cells #[.int .i64 c, .int .i64 t, .bool true, .int .i64 n] 40)))
    have hXs : (w1.alloc (.cells #[.int .i64 c, .int .i64 t, .bool true, .int .i64 n] 40)).heap.size = w1.heap.size + 1 := by simp
    clear HZ1 HB1 HE1 k0 k1 k2 f0 f1 f2
    generalize w1.alloc (.cells #[.int .i64 c, .int .i64 t, .bool true, .int .i64 n] 40) = X at *
    generalize w1.heap.size = kb at *
    have hne : kb ≠ w.heap.size := by omega
    have HA := Lib.hid (refAnd_any HEX.out (Nat.le_trans hb HBX.out.size) (by have := HLL.out; omega) ⟨1, (p : Int), c, t, true, n, 0⟩)
    unfold evV at HA
    refine (HA.out).mono ?_
    rintro r w5 ⟨v5, rfl, he5, hb5⟩
    have HKY := Lib.hid ((HKX.out.below hb5 HKX.out.lt).alloc (.cells (tdC v5 0 ((p : Int) + 1)).toArray 29))
    have HZY := Lib.hid ((HZX.out.below hb5 HZX.out.lt).alloc (.cells (tdC v5 0 ((p : Int) + 1)).toArray 29))
    have HTY := Lib.hid (Row.new w5 29 (tdC v5 0 ((p : Int) + 1)))
    have hb5' : Below w5.heap.size w5 (w5.alloc (.cells (tdC v5 0 ((p : Int) + 1)).toArray 29)) := (Below.refl _ _).alloc (Nat.le_refl _) _
    have HEY := Lib.hid (he5.below hb5')
    have HBY := Lib.hid ((HBX.out.trans (hb5.mono HBX.out.size)).trans (hb5'.mono (Nat.le_trans HBX.out.size hb5.size)))
    have hkt : kb < w5.heap.size := Nat.lt_of_lt_of_le (by omega) hb5.size
    obtain ⟨o5, m5, c5, rfl⟩ := he5.shaped
    clear hb5' hb5 he5 HA HKX HZX HBX HEX hXs
    obtain ⟨kt, hktt⟩ : ∃ kt, w5.heap.size = kt := ⟨_, rfl⟩
    rw [hktt] at HTY hkt
    go_wp2_with fail
    clear hktt
    have hne2 : kt ≠ w.heap.size := by omega
    have hne3 : kb ≠ kt := by omega
    go_loopg [] (b.size + 1) (fun g wr => ∃ (a : Nat) (ls : List Ev) (oa1 : Option Addr) (m1 c1 : Nat), a ≤ b.size ∧ b.size + 1 - a ≤ g ∧ i + 1 ≤ a ∧ ls.length + 1 ≤ a - i ∧ Hid (loopP (fun i => elemP (bl b) d i ((p : Int) + 1 + n)) g ⟨ls, 0, a⟩ ((p : Int) + 1 + n) = T) ∧ Hid (Evs wr base (.slice oa1 m1 c1) (l ++ ls)) ∧ Hid (Row wr kt 29 (tdC (.slice oa1 m1 c1) 0 (a : Int))) ∧ Hid (Row wr kb 40 (hdC c t true n)) ∧ Hid (Row wr w.heap.size 29 (tdC (.slice none 0 0) 0 0)) ∧ Hid (Below w.heap.size w wr))
    case atStart => exact ⟨p + 1, [evEnter p c t true n], o5, m5, c5, by omega, by omega, by omega, by simp; omega, HT, HEY, HTY, HKY, HZY, HBY⟩
    case round =>
      clear HT HEY HTY HKY HZY HBY
      obtain ⟨a, ls, oa1, m1, c1, ha, hg, hia, hll, HT, HE, HTd, HK, HZ, HB⟩ := hrel
      obtain ⟨t0, t1, t2, g0, g1', g2⟩ := told_facts HTd.out
      obtain ⟨h0, h1, h2, h3, _, _, _, _⟩ := head_facts HK.out
      by_cases hlt2 : (a : Int) < (p : Int) + 1 + n
      · obtain ⟨gk', rfl⟩ : ∃ gk', gk = gk' + 1 := ⟨gk - 1, by omega⟩
        have hok := HLE.out a ha hlt2
        have hpr := elem_prog (bl b) (bl_isB b) d a ((p : Int) + 1 + n) (by rw [bl_length]; exact ha) (.inr (by omega))
        have HC := Lib.hid (HI.out a ((p : Int) + 1 + n) (op + 1) most base (.slice oa1 m1 c1) (l ++ ls) wr HE.out (Nat.le_trans hb HB.out.size) ha (by rw [List.length_append, HLL.out]; omega) (.inr (by omega)) (by omega) (by omega) (by have := HM.out; omega) hm1)
        have hT := HT.out
        rw [loopP, if_pos hlt2] at hT
        obtain ⟨l2, e2, a2, hel⟩ : ∃ l2 e2 a2, elemP (bl b) d a ((p : Int) + 1 + n) = ⟨l2, e2, a2⟩ := ⟨_, _, _, rfl⟩
        rw [hel] at hT hok hpr HC
        obtain ⟨q1, q2, q3⟩ := hok
        simp only at hT hpr HC q1 q2 q3
        have HT2 := Lib.hid hT
        clear hT HT hel
        go_wp2_with fail
        refine (HC.out).mono ?_
        rintro r w6 ⟨v6, rfl, he6, hb6⟩
        have HT6 := Lib.hid (HTd.out.below hb6 HTd.out.lt)
        have HK6 := Lib.hid (HK.out.below hb6 HK.out.lt)
        have HZ6 := Lib.hid (HZ.out.below hb6 HZ.out.lt)
        have HB6 := Lib.hid (HB.out.trans (hb6.mono HB.out.size))
        obtain ⟨oa6, m6, c6, rfl⟩ := he6.shaped
        rw [List.append_assoc] at he6
        have HE6 := Lib.hid he6
        clear hb6 he6 HC HTd HK HZ HB HE t0 t1 t2 g0 g1' g2 h0 h1 h2 h3
        simp only [tdV]
        obtain ⟨t0, t1, t2, g0, g1', g2⟩ := told_facts HT6.out
        have HT7 := Lib.hid (told_set HT6.out (.slice oa6 m6 c6) e2 (a2 : Int))
        have HK7 := Lib.hid (HK6.out.told3 hne3 (.slice oa6 m6 c6) (.int .i64 e2) (.int .i64 (a2 : Int)))
        have HZ7 := Lib.hid (HZ6.out.told3 hne2.symm (.slice oa6 m6 c6) (.int .i64 e2) (.int .i64 (a2 : Int)))
        have HB7 := Lib.hid (told_below HB6.out (show w.heap.size ≤ kt by omega) (.slice oa6 m6 c6) e2 (a2 : Int))
        have HE7 := Lib.hid (HE6.out.told HT6.out (.slice oa6 m6 c6) (.int .i64 e2) (.int .i64 (a2 : Int)))
        clear HE6 HB6 HK6
        by_cases he2 : e2 = 0
        · have hq2 : (e2 != 0) = false := by simpa using he2
          have HT3 : Hid (loopP (fun i => elemP (bl b) d i ((p : Int) + 1 + n)) gk' ⟨ls ++ l2, 0, a2⟩ ((p : Int) + 1 + n) = T) := Lib.hid (by rw [← HT2.out, if_neg (by simpa using he2)])
          have hpr2 := hpr he2
          subst he2
          clear HT2 hpr
          go_wp2
          go_roundg gk'
          case measure => omega
          case rel => exact ⟨a2, ls ++ l2, oa6, m6, c6, q2, by omega, by omega, by rw [List.length_append]; omega, HT3, HE7, HT7, HK7, HZ7, HB7⟩
        · have hq2 : (e2 != 0) = true := by simpa using he2
          have hTT : T = ⟨ls ++ l2, e2, a2⟩ := by rw [← HT2.out, if_pos he2]
          subst hTT
          have hTe : R = ⟨ls ++ l2, e2, a2⟩ := by rw [← HRR.out]; exact if_pos he2
          subst hTe
          clear HT2 hpr HRR
          obtain ⟨z0, z1, z2, j0, j1, j2⟩ := told_facts HZ6.out
          have HRf := Lib.hid (told_set HZ7.out (.slice oa6 m6 c6) e2 (a2 : Int))
          have HBf := Lib.hid (told_below HB7.out (Nat.le_refl _) (.slice oa6 m6 c6) e2 (a2 : Int))
          have HEf := Lib.hid (HE7.out.told HZ7.out (.slice oa6 m6 c6) (.int .i64 e2) (.int .i64 (a2 : Int)))
          clear HT7 HK7 HZ7 HB7 HE7 HI HLE HM HLL
          have hlt7 := HZ6.out.lt
          have hlt8 := HT6.out.lt
          go_wp2
          exact bodyPost_ret (results_cell Try.results23 _ (ad := ⟨w.heap.size, 0, none⟩) rfl (told_load HRf.out)) rfl ⟨_, rfl, HEf.out, HBf.out⟩
      · have hTT : T = ⟨ls, 0, a⟩ := by
          obtain ⟨gk', rfl⟩ : ∃ gk', gk = gk' + 1 := ⟨gk - 1, by omega⟩
          rw [← HT.out, loopP, if_neg hlt2]
        subst hTT
        have hTe : R = ⟨ls ++ [⟨5, (a : Int) - 1, 0, 0, false, 0, 0⟩], 0, a⟩ := by
          rw [← HRR.out, if_neg (by simp)]
          unfold evExit
          rw [show ((a - 1 : Nat) : Int) = (a : Int) - 1 by omega]
        subst hTe
        clear HT HLE HI HM HRR
        go_wp2_with fail
        have hwr : IntKind.i64.wrap ((a : Int) - 1) = (a : Int) - 1 := IntWalk.i64_in _ (by omega)
        have hXd : Below wr.heap.size wr wr.drew := (Below.refl _ _).drew
        have HA := Lib.hid (refAnd_any (HE.out.below hXd) (Nat.le_trans hb (Nat.le_trans HB.out.size hXd.size)) (by rw [List.length_append, HLL.out]; omega) ⟨5, (a : Int) - 1, 0, 0, false, 0, 0⟩)
        have HTdd := Lib.hid (HTd.out.below hXd HTd.out.lt)
        have HZd := Lib.hid (HZ.out.below hXd HZ.out.lt)
        have HBd := Lib.hid (HB.out.trans (hXd.mono HB.out.size))
        unfold evV at HA
        clear hXd HTd HZ HB HE HK h0 h1 h2 h3 g0 g1' g2
        go_region_held3 (fun w' => w'.cell? ⟨kt, 0, none⟩ = some (.slice oa1 m1 c1) ∧ w'.cell? ⟨kt, 2, none⟩ = some (.int .i64 (a : Int))) (first | exact ⟨y0, y2⟩ | exact ⟨t0, t2⟩ | exact ⟨(HT6.out.told3 hne2 _ _ _).cell 0, (HT6.out.told3 hne2 _ _ _).cell 2⟩) (first
          | (go_at_call 31; with_reducible refine (HA.out).mono ?_; rintro r w6 ⟨v6, rfl, he6, hb6⟩
             have HT6 := Lib.hid (HTdd.out.below hb6 HTdd.out.lt)
             have HZ6 := Lib.hid (HZd.out.below hb6 HZd.out.lt)
             have HB6 := Lib.hid (HBd.out.trans (hb6.mono HBd.out.size))
             have y0 : w6.cell? ⟨kt, 0, none⟩ = some (.slice oa1 m1 c1) := HT6.out.cell 0
             have y2 : w6.cell? ⟨kt, 2, none⟩ = some (.int .i64 (a : Int)) := HT6.out.cell 2
             have k0 : w6.cell? ⟨w.heap.size, 0, none⟩ = some (.slice none 0 0) := HZ6.out.cell 0
             have k1 : w6.cell? ⟨w.heap.size, 1, none⟩ = some (.int .i64 0) := HZ6.out.cell 1
             have k2 : w6.cell? ⟨w.heap.size, 2, none⟩ = some (.int .i64 0) := HZ6.out.cell 2
             have f0 := HZ6.out.frozen 0
             have f1 := HZ6.out.frozen 1
             have f2 := HZ6.out.frozen 2
             obtain ⟨oa6, m6, c6, rfl⟩ := he6.shaped
             have HE6 := Lib.hid he6
             clear he6 hb6 HA HTdd HZd HBd))
        all_goals
          have HRf := Lib.hid (told_set HZ6.out (.slice oa6 m6 c6) 0 (a : Int))
          have HBf := Lib.hid (told_below HB6.out (Nat.le_refl _) (.slice oa6 m6 c6) 0 (a : Int))
          have HEf := Lib.hid (HE6.out.told HZ6.out (.slice oa6 m6 c6) (.int .i64 0) (.int .i64 (a : Int)))
          clear HT6 HZ6 HB6 HE6 t0 t1 t2 y0 y2 k0 k1 k2 f0 f1 f2
          go_wp2
          exact bodyPost_ret (results_cell Try.results23 _ (ad := ⟨w.heap.size, 0, none⟩) rfl (told_load HRf.out)) rfl ⟨_, rfl, by rw [← List.append_assoc]; exact HEf.out, HBf.out⟩
theorem refElem_any (b : ByteArray) (hs : b.size ≤ 1000000) : ∀ d, ElemC b d := by
  intro d
  induction d with
  | zero =>
    intro i e op most base v l w h hb hi hl he he1 ho hm hm1
    obtain ⟨c, t, f, n, p, er, hst⟩ : ∃ c t f n p er, startL [] ((bl b).drop i) i e = ((c, t, f, n), p, er) := ⟨_, _, _, _, _, _, rfl⟩
    by_cases h0 : er = 0
    · subst h0
      obtain ⟨p1, p2, n0, n1⟩ := start_ok (bl_isB b) he hst
      rw [bl_length] at p2
      by_cases hf : 0 ≤ e ∧ e - ((p + 1 : Nat) : Int) < n
      · exact refElem_fit b hs h hb hi hl he1 0 hst p1 p2 n0 n1 hf
      · cases f with
        | false => exact refElem_leaf b hs h hb hi hl he1 0 hst p1 p2 n0 n1 hf
        | true => exact refElem_deep b hs h hb hi hl he1 (Lib.hid (by omega)) hst p1 p2 n0 n1 hf
    · exact refElem_err b hs h hb hi hl he1 0 hst h0
  | succ d ih =>
    intro i e op most base v l w h hb hi hl he he1 ho hm hm1
    obtain ⟨c, t, f, n, p, er, hst⟩ : ∃ c t f n p er, startL [] ((bl b).drop i) i e = ((c, t, f, n), p, er) := ⟨_, _, _, _, _, _, rfl⟩
    by_cases h0 : er = 0
    · subst h0
      obtain ⟨p1, p2, n0, n1⟩ := start_ok (bl_isB b) he hst
      rw [bl_length] at p2
      by_cases hf : 0 ≤ e ∧ e - ((p + 1 : Nat) : Int) < n
      · exact refElem_fit b hs h hb hi hl he1 (d + 1) hst p1 p2 n0 n1 hf
      · cases f with
        | false => exact refElem_leaf b hs h hb hi hl he1 (d + 1) hst p1 p2 n0 n1 hf
        | true => exact refElem_open b hs h hb hi hl he1 d ih (Lib.hid hm) ho hm1 hst p1 p2 n0 n1 hf
    · exact refElem_err b hs h hb hi hl he1 (d + 1) hst h0
end Go.Proofs.Ytagigdefghnnhaa
