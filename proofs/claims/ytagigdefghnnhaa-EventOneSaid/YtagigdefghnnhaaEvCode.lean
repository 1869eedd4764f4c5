/- The landed code's machine is one: what its calls give, and what its memory is: its own block and its stack's. -/
import Derived.Test.YtagigdefghnnhaaEvPush
namespace Go.Proofs.Ytagigdefghnnhaa
open Go.RowKit Go.PlainAid
set_option linter.unusedVariables false
def MAt : EvPred := fun w k F d m => ∃ ks x, (∀ i, F i ↔ (i = k ∨ i = ks)) ∧ MR w k ks x ∧ Rel d x m
theorem chg_narrow {w w' : World} {k ks : Nat} {F : Nat → Prop} (h : Chg (FB w.heap.size k ks) w w') (hF : ∀ i, F i ↔ (i = k ∨ i = ks)) : Chg F w w' :=
  ⟨h.os, h.tape, h.output, h.size, fun i hi hf => h.block i hi (fun g => by
    rcases g with g | g | g
    · exact hf ((hF i).2 (.inl g))
    · exact hf ((hF i).2 (.inr g))
    · omega)⟩
set_option maxHeartbeats 4000000 in
theorem push_code {w : World} {k : Nat} {F : Nat → Prop} {d : Nat} {m : EM} (b : Int) (h : MAt w k F d m) (h0 : 0 ≤ b) (h1 : b ≤ 255) (hat : m.at_ ≤ 1000000) :
    Calls Try.prog 17 #[.pointer (some ⟨k, 0, none⟩), .int .u8 b] w fun e w' => ∃ v F', e = .returned (.tuple #[v, .int .i64 (m.step d b).1]) ∧ Evs w' w.heap.size v (m.step d b).2.1 ∧ (∀ i, F' i → F i ∨ w.heap.size ≤ i) ∧ (∀ i, v.ownBlock = some i → ¬ F' i) ∧ MAt w' k F' d (m.step d b).2.2 ∧ Chg F w w' := by
  obtain ⟨ks, x, hF, hM, hR⟩ := h
  obtain ⟨er, l, m', hs⟩ : ∃ er l m', m.step d b = (er, l, m') := ⟨_, _, _, rfl⟩
  rw [hs]
  simp only
  have hov := hR.over
  have hpb : x.p ≤ 1000000 := by rw [hR.at_]; exact hat
  have hle : er ≠ 0 → l = [] := by
    intro he
    have := EM.step_err (d := d) (m := m) (x := b) (by rw [hs]; exact he)
    rw [hs] at this
    exact this.1
  obtain ⟨q0, q1, q2, q3, q4, q5⟩ := mrow_facts hM.row
  have hlt := hM.lt
  have hlts := hM.lts
  have HFN : Hid (∀ (w' : World) (v : Value), Evs w' w.heap.size v l → ∀ i, v.ownBlock = some i → ¬ F i) := Lib.hid (by
    intro w' v he i hi hf
    have := (he.lt i hi).1
    rcases (hF i).1 hf with e | e <;> omega)
  by_cases ho : m.over = 0
  · have HT := Lib.hid (take_any b hM hR ho h0 h1 hat hs)
    rw [hov, ho] at q5
    have HF := Lib.hid hF
    clear hM hR hs hF hov
    go_enter Try.func17, Try.ntmps17
    go_wp2_with fail
    refine HT.out.mono ?_
    rintro e w1 ⟨v1, x1, rfl, he1, hm1, hc1, hp1, hq1, hr1⟩
    obtain ⟨o1, c1, rfl⟩ := he1.isSl
    have HE1 := Lib.hid he1
    have HM1 := Lib.hid hm1
    have HC1 := Lib.hid hc1
    have HR1 := Lib.hid hr1
    clear he1 hm1 hc1 hr1 HT q0 q1 q2 q3 q4 q5
    obtain ⟨q0, q1, q2, q3, q4, q5⟩ := mrow_facts HM1.out.row
    have g3 := HM1.out.row.frozen 3
    have g5 := HM1.out.row.frozen 5
    have hlt1 := HM1.out.lt
    by_cases he : er = 0
    · subst he
      rw [hp1] at q3
      have HM2 := Lib.hid (HM1.out.set_p (x.p + 1))
      have HC2 := Lib.hid (chg_then HC1.out (chg_setk w1 3 (.int .i64 ((x.p : Int) + 1)) w.heap.size ks))
      have HE2 := Lib.hid (HE1.out.aside (chg_setk1 w1 k 3 (.int .i64 ((x.p : Int) + 1))) (fun i hi => by omega))
      have HX : Hid (x1.next 0 = { x1 with p := x.p + 1 }) := Lib.hid (by unfold CM.next; rw [if_pos rfl, hp1])
      clear HM1 HC1 HE1
      go_wp2
      go_returns
      exact ⟨_, F, rfl, HE2.out, fun i hi => .inl hi, HFN.out _ _ HE2.out, ⟨ks, _, HF.out, HM2.out, HX.out ▸ HR1.out⟩, chg_narrow HC2.out HF.out⟩
    · have heb : (er != 0) = true := by simpa using he
      have HM2 := Lib.hid (HM1.out.set_e er)
      have HC2 := Lib.hid (chg_then HC1.out (chg_setk w1 5 (.int .i64 er) w.heap.size ks))
      have HX : Hid (x1.next er = { x1 with er := er }) := Lib.hid (by unfold CM.next; rw [if_neg he])
      have HL : Hid (l = []) := Lib.hid (hle he)
      clear hle HM1 HC1 HE1 he
      go_wp2
      go_returns
      exact ⟨.slice none 0 0, F, rfl, by rw [HL.out]; exact Evs.nil _ _, fun i hi => .inl hi, fun i hi => (by cases hi), ⟨ks, _, HF.out, HM2.out, HX.out ▸ HR1.out⟩, chg_narrow HC2.out HF.out⟩
  · have hst := EM.step_over (d := d) (x := b) ho
    rw [hst] at hs
    injection hs with s1 s2
    injection s2 with s2 s3
    subst s1 s2 s3
    rw [hov] at q5
    have hob : (m.over != 0) = true := by simpa using ho
    have HFM := Lib.hid hM
    have HFR := Lib.hid hR
    clear hM hR hst
    go_enter Try.func17, Try.ntmps17
    go_wp2
    go_quiet (fail)
    go_wp2
    go_returns
    exact ⟨.slice none 0 0, F, rfl, Evs.nil _ _, fun i hi => .inl hi, fun i hi => (by cases hi), ⟨ks, x, hF, HFM.out.below (draws_below _ _), HFR.out⟩, chg_draws _ _ _⟩
theorem done_code {w : World} {k : Nat} {F : Nat → Prop} {d : Nat} {m : EM} (h : MAt w k F d m) :
    Calls Try.prog 19 #[.pointer (some ⟨k, 0, none⟩)] w fun e w' => e = .returned (.bool m.done) ∧ ∃ n, w' = w.drewN n := by
  obtain ⟨ks, x, hF, hM, hR⟩ := h
  obtain ⟨q0, q1, q2, q3, q4, q5⟩ := mrow_facts hM.row
  rw [hR.done] at q4
  clear hM hR
  go_enter Try.func19, Try.ntmps19
  go_wp2
  go_ret
  exact ⟨rfl, 0, rfl⟩
theorem at_code {w : World} {k : Nat} {F : Nat → Prop} {d : Nat} {m : EM} (h : MAt w k F d m) :
    Calls Try.prog 18 #[.pointer (some ⟨k, 0, none⟩)] w fun e w' => e = .returned (.int .i64 (m.at_ : Int)) ∧ ∃ n, w' = w.drewN n := by
  obtain ⟨ks, x, hF, hM, hR⟩ := h
  obtain ⟨q0, q1, q2, q3, q4, q5⟩ := mrow_facts hM.row
  rw [hR.at_] at q3
  clear hM hR
  generalize (m.at_ : Int) = p at *
  go_enter Try.func18, Try.ntmps18
  go_wp2
  go_ret
  exact ⟨rfl, 0, rfl⟩
theorem rel_new (depth : Int) : Rel (evMost depth) ⟨SS.new depth, ⟨#[]⟩, 0, 0, false, 0⟩ EM.new :=
  ⟨rfl, rfl, rfl, rfl, fun _ => rfl, fun _ => ⟨rfl, Int.le_refl _, by show (0 : Int) ≤ 2305843009213693951; decide⟩, fun _ y hy => (by cases hy), fun _ => ⟨IsB.nil, Nat.zero_le _, rfl⟩, fun _ h => absurd h (by show ¬ (0 : Int) < 0; decide)⟩
theorem st_one {w : World} {ks : Nat} {F : Nat → Prop} {s : SS} (h : StAt w ks F s) : StAt w ks (fun i => i = ks) s := ⟨fun i => Iff.rfl, h.2⟩
set_option maxHeartbeats 1600000 in
theorem evnew_code (depth : Int) (w : World) (hd : -9223372036854775808 ≤ depth ∧ depth ≤ 9223372036854775807) :
    Calls Try.prog 16 #[.int .i64 depth] w fun e w' => ∃ k F, e = .returned (.pointer (some ⟨k, 0, none⟩)) ∧ (∀ i, F i → w.heap.size ≤ i) ∧ MAt w' k F (evMost depth) EM.new ∧ Below w.heap.size w w' := by
  have HN := Lib.hid (new_code depth w hd)
  have HR := Lib.hid (rel_new depth)
  clear hd
  go_enter Try.func16, Try.ntmps16
  go_wp2_with fail
  refine HN.out.mono ?_
  rintro e w1 ⟨ks, F, rfl, hF, hs, hb⟩
  have HS := Lib.hid hs
  have HB := Lib.hid hb
  have hks : w.heap.size ≤ ks := hF ks ((hs.1 ks).2 rfl)
  have hkl : ks < w1.heap.size := by obtain ⟨_, _, J, _, hr⟩ := hs; exact hr.lt
  clear hs hb hF HN
  go_wp2
  go_returns
  have hB2 : Below w1.heap.size w1 (w1.alloc (.cells (mC ks ⟨#[]⟩ 0 0 false 0).toArray 55)) := (Below.refl _ _).alloc (Nat.le_refl _) _
  refine ⟨w1.heap.size, fun i => i = w1.heap.size ∨ i = ks, rfl, fun i hi => ?_, ⟨ks, ⟨SS.new depth, ⟨#[]⟩, 0, 0, false, 0⟩, fun i => Iff.rfl, ⟨stSpec.below (st_one HS.out) hB2, by omega, Row.new w1 55 (mC ks ⟨#[]⟩ 0 0 false 0)⟩, HR.out⟩, HB.out.alloc HB.out.size _⟩
  have := HB.out.size
  omega
set_option maxHeartbeats 1600000 in
theorem evcopy_code {w : World} {k : Nat} {F : Nat → Prop} {d : Nat} {m : EM} (h : MAt w k F d m) :
    Calls Try.prog 20 #[.pointer (some ⟨k, 0, none⟩)] w fun e w' => ∃ k' F', e = .returned (.pointer (some ⟨k', 0, none⟩)) ∧ (∀ i, F' i → w.heap.size ≤ i) ∧ MAt w' k' F' d m ∧ Below w.heap.size w w' := by
  obtain ⟨ks, x, hF, hM, hR⟩ := h
  obtain ⟨q0, q1, q2, q3, q4, q5⟩ := mrow_facts hM.row
  have hlt := hM.lt
  have HR := Lib.hid hR
  have HM := Lib.hid hM
  clear hM hR
  go_enter Try.func20, Try.ntmps20
  go_upto_region 2 with fail
  have hB1 : Below w.heap.size w (w.alloc (.cells (mC ks x.c x.n x.p x.dn x.er).toArray 55)) := (Below.refl _ _).alloc (Nat.le_refl _) _
  have HM1 := Lib.hid (HM.out.below hB1)
  have HN1 : Hid (MRow (w.alloc (.cells (mC ks x.c x.n x.p x.dn x.er).toArray 55)) w.heap.size ks x.c x.n x.p x.dn x.er) := Lib.hid (Row.new w 55 (mC ks x.c x.n x.p x.dn x.er))
  have hX : w.alloc (.cells #[.pointer (some ⟨ks, 0, none⟩), .string x.c, .int .i64 x.n, .int .i64 (x.p : Int), .bool x.dn, .int .i64 x.er] 55) = w.alloc (.cells (mC ks x.c x.n x.p x.dn x.er).toArray 55) := rfl
  have HB1 := Lib.hid hB1
  rw [hX]
  clear hX hB1 HM q0 q1 q2 q3 q4 q5 hlt
  generalize w.alloc (.cells (mC ks x.c x.n x.p x.dn x.er).toArray 55) = W at *
  obtain ⟨q0, q1, q2, q3, q4, q5⟩ := mrow_facts HM1.out.row
  have hlt := HM1.out.lt
  go_wp2_with fail
  refine (copy_code HM1.out.st).mono ?_
  rintro e w2 ⟨ks', F2, rfl, hF2, hs2, hb2⟩
  have HN2 := Lib.hid (HN1.out.below hb2 HN1.out.lt)
  have HS2 := Lib.hid (st_one hs2)
  have HB2 := Lib.hid (HB1.out.trans (hb2.mono HB1.out.size))
  have hk2 : W.heap.size ≤ ks' := hF2 ks' ((hs2.1 ks').2 rfl)
  have hwW := HN1.out.lt
  have hne : w.heap.size ≠ ks' := by omega
  clear hF2 hs2 hb2 HM1 HN1 HB1 q0 q1 q2 q3 q4 q5 hlt
  obtain ⟨q0, q1, q2, q3, q4, q5⟩ := mrow_facts HN2.out
  have g0 := HN2.out.frozen 0
  have hlt := HN2.out.lt
  have HR3 : Hid (MRow (w2.setCell ⟨w.heap.size, 0, none⟩ (.pointer (some ⟨ks', 0, none⟩))) w.heap.size ks' x.c x.n x.p x.dn x.er) := Lib.hid (HN2.out.set 0 (.pointer (some ⟨ks', 0, none⟩)))
  have HS3 := Lib.hid (HS2.out.aside (chg_setk1 w2 w.heap.size 0 (.pointer (some ⟨ks', 0, none⟩))) (fun i hi e => hne (by omega)))
  have HB3 := Lib.hid (HB2.out.setCell (p := ⟨w.heap.size, 0, none⟩) (Nat.le_refl _) (.pointer (some ⟨ks', 0, none⟩)))
  clear HN2 HS2 HB2
  go_wp2
  go_returns
  exact ⟨w.heap.size, fun i => i = w.heap.size ∨ i = ks', rfl, fun i hi => by omega, ⟨ks', x, fun i => Iff.rfl, ⟨HS3.out, hne, HR3.out⟩, HR.out⟩, HB3.out⟩
theorem MAt.lt {w : World} {k : Nat} {F : Nat → Prop} {d : Nat} {m : EM} (h : MAt w k F d m) : ∀ i, F i → i < w.heap.size := by
  obtain ⟨ks, x, hF, hM, hR⟩ := h
  intro i hi
  rcases (hF i).1 hi with rfl | rfl
  · exact hM.lt
  · exact hM.lts
theorem MAt.aside {w w' : World} {k : Nat} {F F' : Nat → Prop} {d : Nat} {m : EM} (h : MAt w k F d m) (hc : Chg F' w w') (hF' : ∀ i, F i → ¬ F' i) : MAt w' k F d m := by
  obtain ⟨ks, x, hF, hM, hR⟩ := h
  exact ⟨ks, x, hF, hM.chg hc (hF' k ((hF k).2 (.inl rfl))) (hF' ks ((hF ks).2 (.inr rfl))), hR⟩
set_option maxHeartbeats 4000000 in
theorem whole_code (b : ByteArray) (depth : Int) (w : World) (hs : b.size ≤ 1000000) (hd : -9223372036854775808 ≤ depth ∧ depth ≤ 9223372036854775807) :
    Calls Try.prog 13 #[.string b, .int .i64 depth] w fun e w' => ∃ v, e = .returned (.tuple #[v, .int .i64 (evW b depth).2.1, .int .i64 ((evW b depth).2.2 : Int)]) ∧ Evs w' w.heap.size v (evW b depth).1 ∧ Below w.heap.size w w' := by
  obtain ⟨L, E, P, hw⟩ : ∃ L e p, evW b depth = (L, e, p) := ⟨_, _, _, rfl⟩
  have HW := Lib.hid hw
  rw [hw]
  simp only
  clear hw
  go_enter Try.func13, Try.ntmps13
  go_wp2_with fail
  refine (evnew_code depth w hd).mono ?_
  rintro e w1 ⟨k, F, rfl, hF, hm, hb⟩
  have HM1 := Lib.hid hm
  have HF1 := Lib.hid hF
  have HB1 := Lib.hid hb
  clear hm hF hb
  go_wp2_with fail
  have HA0 := Lib.hid (allTo_zero b depth)
  obtain ⟨d, hdd⟩ : ∃ d, evMost depth = d := ⟨_, rfl⟩
  rw [hdd] at HM1
  have HD := Lib.hid hdd
  clear hdd
  go_loopg [8, 16] b.size (fun gk gv iv wr => ∃ (i : Nat) (og : Option Addr) (ng cg : Nat) (F : Nat → Prop) (m : EM) (acc : List Ev), gv = .slice og ng cg ∧ iv = .int .i64 (i : Int) ∧ i ≤ b.size ∧ b.size - i ≤ gk ∧ Hid (allTo b depth i = some (m, acc)) ∧ Hid (MAt wr k F d m) ∧ Hid (∀ i, F i → w.heap.size ≤ i) ∧ Hid (Below w.heap.size w wr) ∧ Hid (Evs wr w.heap.size (.slice og ng cg) acc) ∧ Hid (∀ j, (Value.slice og ng cg).ownBlock = some j → ¬ F j))
  case atStart => exact ⟨0, none, 0, 0, F, EM.new, [], rfl, rfl, by omega, by omega, HA0, HM1, HF1, HB1, Lib.hid (Evs.nil _ _), Lib.hid (fun j hj => (by cases hj))⟩
  case round =>
    clear HA0 HM1 HF1 HB1
    obtain ⟨i, og, ng, cg, F, m, acc, rfl, rfl, hi, hgk, HA, HM, HF, HB, HG, HN⟩ := hrel
    obtain ⟨hat, hov⟩ := allTo_at hi HA.out
    by_cases hlt : i < b.size
    · have hlt2 : (i : Int) < (b.size : Int) := by omega
      have hbt := get_bt b i hlt
      obtain ⟨x, hx⟩ : ∃ x, bt b i = x := ⟨_, rfl⟩
      have hx0 := bt_nonneg b i
      have hx1 := bt_le b i
      rw [hx] at hbt hx0 hx1
      obtain ⟨er, l, m', hst⟩ : ∃ er l m', m.step d x = (er, l, m') := ⟨_, _, _, rfl⟩
      have hP := push_code x HM.out hx0 hx1 (by omega)
      rw [hst] at hP
      simp only at hP
      have HP := Lib.hid hP
      have HST : Hid (m.step (evMost depth) (bt b i) = (er, l, m')) := Lib.hid (by rw [hx, HD.out]; exact hst)
      have HSE : Hid (er ≠ 0 → l = []) := Lib.hid (fun he => by have := EM.step_err (d := d) (m := m) (x := x) (by rw [hst]; exact he); rw [hst] at this; exact this.1)
      clear hx hst hat hov hP
      go_wp2_with fail
      refine (HP.out).mono ?_
      rintro r w5 ⟨v5, F5, rfl, he5, hF5, hn5, hm5, hc5⟩
      obtain ⟨o5, c5, rfl⟩ := he5.isSl
      have HM5 := Lib.hid hm5
      have HE5 := Lib.hid he5
      have HB5 := Lib.hid (hc5.to_below HB.out HF.out)
      have HG5 := Lib.hid (HG.out.chg hc5 HN.out)
      have HF5 : Hid (∀ i, F5 i → w.heap.size ≤ i) := Lib.hid (fun i hi => by rcases hF5 i hi with g | g; exact HF.out i g; exact Nat.le_trans HB.out.size g)
      have HN5 : Hid (∀ j, (Value.slice og ng cg).ownBlock = some j → ¬ F5 j) := Lib.hid (fun j hj f => by
        rcases hF5 j f with g | g
        · exact HN.out j hj g
        · have := (HG.out.lt j hj).2; omega)
      clear he5 hF5 hn5 hm5 hc5 HP HM HF HB HG HN
      by_cases he0 : er = 0
      · subst he0
        have HA6 := Lib.hid (allTo_succ hlt HA.out HST.out)
        have hlen : acc.length + l.length ≤ 1000000000 := by have := allTo_len HA6.out; rw [List.length_append] at this; omega
        clear HA HST HSE
        go_wp2_with (at_builtin; refine wpList_append_evs rfl (.tmp 32) (.tmp 33) rfl w.heap.size rfl HG5.out rfl HE5.out HB5.out.size hlen ?_)
        intro v6 w6 he6 hg6 hob6
        obtain ⟨o6, c6, rfl⟩ := he6.isSl
        have hc6 : Chg (fun i => (Value.slice og ng cg).ownBlock = some i) w5 w6 := ⟨hg6.os, hg6.tape, hg6.output, hg6.size, fun i hi hn => hg6.block i hi (fun e => hn e.symm)⟩
        have HM6 := Lib.hid (HM5.out.aside hc6 (fun i f e => HN5.out i e f))
        have HE6 := Lib.hid he6
        have HB6 := Lib.hid (hc6.to_below HB5.out (fun i e => (HG5.out.lt i e).1))
        have HN6 : Hid (∀ j, (Value.slice o6 (acc ++ l).length c6).ownBlock = some j → ¬ F5 j) := Lib.hid (by
          intro j hj f
          rcases hob6 with q | q
          · exact HN5.out j (q ▸ hj) f
          · rw [q] at hj
            obtain rfl : w5.heap.size = j := by injection hj
            have := HM5.out.lt _ f
            omega)
        clear he6 hg6 hob6 hc6 HM5 HG5 HE5 HN5 HB5
        go_wp2
        go_roundg (b.size - (i + 1))
        case measure => omega
        case rel => exact ⟨i + 1, o6, _, c6, F5, m', acc ++ l, rfl, by simp, by omega, by omega, HA6, HM6, HF5, HB6, HE6, HN6⟩
      · have hev := allTo_err hlt HA.out HST.out he0
        rw [HW.out] at hev
        simp only [Prod.mk.injEq] at hev
        obtain ⟨rfl, rfl, rfl⟩ := hev
        have hq : (E != 0) = true := by simpa using he0
        clear HA HST HSE HD
        go_wp2
        go_returns
        exact ⟨_, rfl, HG5.out, HB5.out⟩
    · have hie : i = b.size := by omega
      have hlt2 : ¬ (i : Int) < (b.size : Int) := by omega
      have hev := allTo_end (by have h := HA.out; rw [hie] at h; exact h)
      rw [HW.out] at hev
      simp only [Prod.mk.injEq] at hev
      obtain ⟨rfl, hE, rfl⟩ := hev
      have HDn := Lib.hid (done_code HM.out)
      obtain ⟨dn, hdn⟩ : ∃ dn, m.done = dn := ⟨_, rfl⟩
      rw [hdn] at hE HDn
      clear HA HM HF HN HW HD hat hov hdn hie hi hgk
      cases dn with
      | true =>
        simp only [if_true] at hE
        subst hE
        go_wp2_with fail
        refine HDn.out.mono ?_
        rintro r w9 ⟨rfl, n9, rfl⟩
        go_wp2
        go_returns
        exact ⟨_, rfl, own_draws HG.out n9, HB.out.trans (draws_below' _ n9 HB.out.size)⟩
      | false =>
        simp only [Bool.false_eq_true, if_false] at hE
        subst hE
        go_wp2_with fail
        refine HDn.out.mono ?_
        rintro r w9 ⟨rfl, n9, rfl⟩
        go_wp2
        go_returns
        exact ⟨_, rfl, own_draws HG.out n9, HB.out.trans (draws_below' _ n9 HB.out.size)⟩
/-- The landed code's machine is one. -/
theorem evSpec : EvSpec MAt where
  lt := fun h => h.lt
  aside := fun h hc hF => h.aside hc hF
  new := evnew_code
  push := fun b h h0 h1 hat => push_code b h h0 h1 hat
  done := done_code
  at_ := at_code
  copy := evcopy_code
  whole := whole_code
end Go.Proofs.Ytagigdefghnnhaa
