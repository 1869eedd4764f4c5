/- What value's Push, New and Whole give: the landed code's contracts. Of every checker, and every event that may come there; of every text of at most 900000 bytes. -/
import Derived.Test.YtiecbagejdcafaaGreatDoorL2
import Derived.Test.YtiecbagejdcafaaGreatDoorE4
import Derived.Deep.LoopGhost
namespace Go.Proofs.YtiecbagejdcafaaGreatDoor
open Go.RowKit Go.PlainAid
set_option linter.unusedVariables false
def errC (b : Bool) : Int := if b = true then 7 else 0
def VCk : ValPred := fun w k F s => ∃ v, Row w k 107 [v, .int .i64 (errC s.bad)] ∧ FnV v ∧ F k ∧ (∀ i, F i → i < w.heap.size) ∧ (s.bad = false → Nx w k F v s.cur)
theorem vck_aside {w w' : World} {k : Nat} {F F' : Nat → Prop} {s : VS} (h : VCk w k F s) (hc : Chg F' w w') (hF : ∀ i, F i → ¬ F' i) : VCk w' k F s := by
 obtain ⟨v, h1, h2, h3, h4, h5⟩ := h
 refine ⟨v, h1.chg hc (hF k h3), h2, h3, fun i hi => Nat.lt_of_lt_of_le (h4 i hi) hc.size, fun hb q hq => ?_⟩
 obtain ⟨q1, q2⟩ := h5 hb q hq
 refine ⟨q1, ?_⟩
 rcases q2 with ⟨a, b⟩ | ⟨a, b, kb, c, d, e⟩
 ·exact .inl ⟨a, b⟩
 ·exact .inr ⟨a, b, kb, c, d, e.same (hc.block kb (h4 kb d) (hF kb d))⟩
theorem new_v (w : World) : Calls Tryz.prog 44 #[] w fun e w' => ∃ k F, e = .returned (.pointer (some ⟨k, 0, none⟩)) ∧ (∀ i, F i → w.heap.size ≤ i) ∧ VCk w' k F VS.new ∧ Below w.heap.size w w' := by
 go_enter Tryz.func44, Tryz.ntmps44
 go_wp2
 go_returns
 refine ⟨w.heap.size, fun i => i = w.heap.size, rfl, (fun i hi => by omega), ⟨anyFn, Row.new w 107 [anyFn, .int .i64 0], .inr (.inl rfl), rfl, (fun i hi => by subst hi; simp), (fun _ q hq => by cases hq)⟩, (Below.refl _ _).alloc (Nat.le_refl _) _⟩
set_option maxRecDepth 100000 in
set_option maxHeartbeats 16000000 in
theorem push_v {w : World} {k : Nat} {F : Nat → Prop} {s : VS} (e : Ev) (h : VCk w k F s) (hok : s.Ok) (hf : s.fits e) :
  Calls Tryz.prog 46 #[.pointer (some ⟨k, 0, none⟩), evV e] w fun r w' => ∃ F', r = .returned (.int .i64 (if (s.next e).bad = true then 7 else 0)) ∧ (∀ i, F' i → F i ∨ w.heap.size ≤ i) ∧ VCk w' k F' (s.next e) ∧ Chg F w w' := by
 obtain ⟨v, hR, hv, hF, hl, hN⟩ := h
 by_cases hb : s.bad = true
 ·have hn := VS.bad_next e hb
  generalize s.next e = s2 at *
  rw [hb] at hR
  change Row w k 107 [v, .int .i64 7] at hR
  clear hN hb hok hf
  obtain ⟨kk, p, c, t, f, n, b⟩ := e
  unfold evV
  go_enter Tryz.func46, Tryz.ntmps46
  go_upto_region 1 with (fail)
  have hbb : Below w.heap.size w (w.alloc (.cells #[.int .i64 kk, .int .i64 p, .int .i64 c, .int .i64 t, .bool f, .int .i64 n, .int .u8 b] 80)) := (Below.refl _ _).alloc (Nat.le_refl _) _
  have HK := Lib.hid (hR.below hbb hR.lt)
  have HB := Lib.hid hbb
  clear hR hbb
  generalize w.alloc (.cells #[.int .i64 kk, .int .i64 p, .int .i64 c, .int .i64 t, .bool f, .int .i64 n, .int .u8 b] 80) = W at *
  generalize hbx : w.heap.size = bx at *
  have c1 : W.cell? ⟨k, 1, none⟩ = some (.int .i64 7) := HK.out.cell 1
  go_wp2
  go_returns
  refine ⟨rets1 rfl, F, (fun i hi => .inl hi), ⟨v, by rw [hn]; exact HK.out, hv, hF, (fun i hi => Nat.lt_of_lt_of_le (hl i hi) (by rw [← hbx]; exact HB.out.size)), (fun h => by rw [hn] at h; cases h)⟩, Chg.of_below (by rw [hbx]; exact HB.out)⟩
 ·have hb0 : s.bad = false := by simpa using hb
  rw [hb0] at hR
  change Row w k 107 [v, .int .i64 0] at hR
  have hN0 := hN hb0
  have HC := Lib.hid (fun (W : World) (hc : Below w.heap.size w W) => take_v (w := W) (hR.below hc hR.lt) hb0 hv hF (fun i hi => Nat.lt_of_lt_of_le (hl i hi) hc.size) (fun q hq => by
   obtain ⟨q1, q2⟩ := hN0 q hq
   refine ⟨q1, ?_⟩
   rcases q2 with ⟨a, b⟩ | ⟨a, b, kb, c, d, e⟩
   ·exact .inl ⟨a, b⟩
   ·exact .inr ⟨a, b, kb, c, d, e.same (hc.block kb (hl kb d))⟩) e hok hf)
  generalize s.next e = s2 at *
  generalize hRv : (if s2.bad = true then (7 : Int) else 0) = R
  have HRv := Lib.hid hRv
  clear hN hb hok hf hN0 hRv
  obtain ⟨kk, p, c, t, f, n, b⟩ := e
  unfold evV at *
  go_enter Tryz.func46, Tryz.ntmps46
  go_upto_region 1 with (fail)
  have hbb : Below w.heap.size w (w.alloc (.cells #[.int .i64 kk, .int .i64 p, .int .i64 c, .int .i64 t, .bool f, .int .i64 n, .int .u8 b] 80)) := (Below.refl _ _).alloc (Nat.le_refl _) _
  have HX : Hid (Row (w.alloc (.cells #[.int .i64 kk, .int .i64 p, .int .i64 c, .int .i64 t, .bool f, .int .i64 n, .int .u8 b] 80)) w.heap.size 80 (evC ⟨kk, p, c, t, f, n, b⟩)) := Lib.hid (Row.new w 80 (evC ⟨kk, p, c, t, f, n, b⟩))
  have HK := Lib.hid (hR.below hbb hR.lt)
  have HB := Lib.hid hbb
  have HC2 := Lib.hid (HC.out _ hbb)
  clear hR hbb HC
  generalize w.alloc (.cells #[.int .i64 kk, .int .i64 p, .int .i64 c, .int .i64 t, .bool f, .int .i64 n, .int .u8 b] 80) = W at *
  generalize hbx : w.heap.size = bx at *
  obtain ⟨y0, y1, y2, y3, y4, y5, y6⟩ := ev_facts HX.out
  have c1 : W.cell? ⟨k, 1, none⟩ = some (.int .i64 0) := HK.out.cell 1
  have hsz := HB.out.size
  go_wp2_with fail
  refine HC2.out.mono ?_
  rintro r w5 ⟨v5, F5, rfl, hR5, hv5, hF5, hl5, hN5, hn5, hc5⟩
  have g1 := hR5.frozen 1
  have d1 : w5.cell? ⟨k, 1, none⟩ = some (.int .i64 0) := hR5.cell 1
  have HR5 := Lib.hid hR5
  have HN5 := Lib.hid hN5
  have HCf : Hid (Chg F w w5) := Lib.hid ((Chg.of_below (by rw [hbx]; exact HB.out)).trans ⟨hc5.os, hc5.tape, hc5.output, hc5.size, fun i hi hn => hc5.block i hi hn⟩ (fun i hi => .inl (by have h : i = k := hi; rw [h]; exact hF)))
  clear hR5 hN5 hc5 HC2 HK HX y0 y1 y2 y3 y4 y5 y6 c1
  have hnw : ∀ i, F5 i → F i ∨ bx ≤ i := fun i hi => by
   rcases hn5 i hi with h | h
   ·exact .inl h
   ·exact .inr (by omega)
  cases hB : s2.bad
  ·rw [hB] at HRv
   have HBb := Lib.hid hB
   clear hB
   go_wp2
   go_returns
   exact ⟨F5, rets1 (congrArg (Value.int .i64) HRv.out), (by rw [hbx]; exact hnw), ⟨v5, by rw [HBb.out]; exact HR5.out, hv5, hF5, hl5, fun hbd => HN5.out hbd⟩, HCf.out⟩
  ·rw [hB] at HRv
   have HBb := Lib.hid hB
   clear hB
   go_wp2
   go_returns
   exact ⟨F5, rets1 (congrArg (Value.int .i64) HRv.out), (by rw [hbx]; exact hnw), ⟨v5, by rw [HBb.out]; exact HR5.out.set 1 (.int .i64 7), hv5, hF5, (fun i hi => by rw [setk_size]; exact hl5 i hi), (fun h => by rw [HBb.out] at h; cases h)⟩, HCf.out.setAt hF 1 _⟩
/-! ### Byte by byte -/
theorem allTo_pre {b : ByteArray} {dep : Int} {i : Nat} {m : EM} {acc : List Ev} (hi : i ≤ b.size) (ha : allTo b dep i = some (m, acc)) {L : List Ev} {E : Int} {P : Nat} (h : evW b dep = (L, E, P)) : ∃ R, L = acc ++ R := by
 have hov := (allTo_at hi ha).2
 unfold allTo at ha
 unfold evW evWhole at h
 have hr := EM.run_some _ _ EM.new [] ha ((bl b).drop i)
 rw [List.take_append_drop, h] at hr
 obtain ⟨R, r1, _⟩ := EM.run_at (evMost dep) ((bl b).drop i) m acc hov
 rw [← hr] at r1
 exact ⟨R, r1⟩
theorem whole_round {b : ByteArray} {dep : Int} {L : List Ev} {E : Int} {P : Nat} (hw : evW b dep = (L, E, P)) {i : Nat} {m : EM} {A : Nat} (hi : i < b.size) (hA : A ≤ L.length) (ha : allTo b dep i = some (m, L.take A)) {er : Int} {l : List Ev} {m' : EM} (hs : m.step (evMost dep) (bt b i) = (er, l, m')) :
  (er ≠ 0 → E = er ∧ P = i ∧ A = L.length) ∧ (er = 0 → A + l.length ≤ L.length ∧ allTo b dep (i + 1) = some (m', L.take (A + l.length)) ∧ ∀ j (h : j < l.length), L[A + j]? = some l[j]) := by
 refine ⟨fun he => ?_, fun he => ?_⟩
 ·have h := allTo_err hi ha hs he
  rw [hw] at h
  simp only [Prod.mk.injEq] at h
  refine ⟨h.2.1, h.2.2, ?_⟩
  have := congrArg List.length h.1
  rw [List.length_take] at this
  omega
 ·subst he
  have h := allTo_succ hi ha hs
  obtain ⟨R, hR⟩ := allTo_pre (by omega) h hw
  have hlen := congrArg List.length hR
  rw [List.length_append, List.length_append, List.length_take, Nat.min_eq_left hA] at hlen
  have hTl : (L.take A).length = A := by rw [List.length_take, Nat.min_eq_left hA]
  have key : ∀ T : List Ev, T.length = A → L = T ++ l ++ R → L.take (A + l.length) = T ++ l ∧ ∀ j (h : j < l.length), L[A + j]? = some l[j] := by
   rintro T h1 rfl
   refine ⟨?_, fun j hj => ?_⟩
   ·rw [← h1, ← List.length_append]
    exact List.take_left
   ·rw [← h1, List.append_assoc, List.getElem?_append_right (Nat.le_add_right _ _), Nat.add_sub_cancel_left, List.getElem?_append_left hj]
    exact List.getElem?_eq_getElem hj
  obtain ⟨k1, k2⟩ := key _ hTl hR
  exact ⟨by omega, by rw [k1]; exact h, k2⟩
theorem step_ev {L : List Ev} (hf : VS.all VS.new L) {q : Nat} {e : Ev} (he : L[q]? = some e) (hn : (VS.run VS.new (L.take q)).bad = false) :
  (VS.run VS.new (L.take q)).Ok ∧ (VS.run VS.new (L.take q)).fits e ∧ VS.run VS.new (L.take (q + 1)) = (VS.run VS.new (L.take q)).next e ∧ (((VS.run VS.new (L.take q)).next e).bad = true → vF L = (q : Int)) := by
 obtain ⟨hq, rfl⟩ := List.getElem?_eq_some_iff.1 he
 have hT := List.take_succ_eq_append_getElem hq
 have hA := (VS.all_append (L.take q) (L.drop q) VS.new).1 (by rw [List.take_append_drop]; exact hf)
 have hA2 := hA.2
 rw [List.drop_eq_getElem_cons hq] at hA2
 have hN : VS.run VS.new (L.take (q + 1)) = (VS.run VS.new (L.take q)).next L[q] := by rw [hT, VS.run_append]; rfl
 refine ⟨VS.ok_run (L.take q) VS.ok_new hA.1, hA2.1, hN, fun hb => ?_⟩
 obtain ⟨_, v3⟩ := v_bad hf
 have h1 := v3 q (Nat.le_of_lt hq)
 have h2 := v3 (q + 1) hq
 rw [hn] at h1
 rw [hN, hb] at h2
 have h1 := of_decide_eq_false h1.symm
 have h2 := of_decide_eq_true h2.symm
 omega
theorem valW_ev {b : ByteArray} {dep : Int} {L : List Ev} {E : Int} {P : Nat} (hw : evW b dep = (L, E, P)) {q : Nat} {e : Ev} (he : L[q]? = some e) (hv : vF L = (q : Int)) : valW b dep = (7, e.at_) := by
 rw [valW_bad hw (by omega), hv, Int.toNat_natCast, atOf_some he]
theorem valW_all {b : ByteArray} {dep : Int} {L : List Ev} {E : Int} {P : Nat} (hs : b.size ≤ maxLen) (hw : evW b dep = (L, E, P)) (hn : (VS.run VS.new L).bad = false) : valW b dep = (E, (P : Int)) := by
 obtain ⟨⟨_, v2⟩, v3⟩ := v_bad (evW_fits hs hw)
 have h := v3 L.length (Nat.le_refl _)
 rw [List.take_length, hn] at h
 have h := of_decide_eq_false h.symm
 exact valW_good hw (by omega)
end Go.Proofs.YtiecbagejdcafaaGreatDoor
/- What value's Whole gives: the landed code's contract. Of every text of at most 900000 bytes and every depth. -/
namespace Go.Proofs.YtiecbagejdcafaaGreatDoor
open Go.RowKit Go.PlainAid
set_option linter.unusedVariables false
theorem vck_lt {w : World} {k : Nat} {F : Nat → Prop} {s : VS} (h : VCk w k F s) : ∀ i, F i → i < w.heap.size := by obtain ⟨_, _, _, _, h4, _⟩ := h; exact h4
theorem whole_end {b : ByteArray} {dep : Int} {L : List Ev} {E : Int} {P : Nat} (hs : b.size ≤ maxLen) (hw : evW b dep = (L, E, P)) {m : EM} {A : Nat} (hA : A ≤ L.length) (ha : allTo b dep b.size = some (m, L.take A)) (hn : (VS.run VS.new (L.take A)).bad = false) : valW b dep = ((if m.done = true then 0 else 2), (b.size : Int)) := by
 have h := allTo_end ha
 rw [hw] at h
 simp only [Prod.mk.injEq] at h
 obtain ⟨h1, h2, h3⟩ := h
 rw [← h1] at hn
 rw [valW_all hs hw hn, h2, h3]
theorem whole_stop {b : ByteArray} {dep : Int} {L : List Ev} {E : Int} {P : Nat} (hs : b.size ≤ maxLen) (hw : evW b dep = (L, E, P)) {A i : Nat} {er : Int} (h : E = er ∧ P = i ∧ A = L.length) (hn : (VS.run VS.new (L.take A)).bad = false) : valW b dep = (er, (i : Int)) := by
 obtain ⟨rfl, rfl, rfl⟩ := h
 rw [List.take_length] at hn
 exact valW_all hs hw hn
set_option maxRecDepth 100000 in
set_option maxHeartbeats 40000000 in
theorem whole_v (b : ByteArray) (depth : Int) (w : World) (hs : b.size ≤ 900000) (hd : -9223372036854775808 ≤ depth ∧ depth ≤ 9223372036854775807) :
  Calls Tryz.prog 21 #[.string b, .int .i64 depth] w fun e w' => e = .returned (.tuple #[.int .i64 (valW b depth).1, .int .i64 (valW b depth).2]) ∧ Below w.heap.size w w' := by
 obtain ⟨L, E, P, hw⟩ : ∃ L e p, evW b depth = (L, e, p) := ⟨_, _, _, rfl⟩
 have hm : b.size ≤ maxLen := by unfold maxLen; omega
 have hln := evW_len b depth
 rw [hw] at hln
 have hln : L.length ≤ 900000 := by have h : L.length ≤ b.size := hln; omega
 have HFt := Lib.hid (evW_fits hm hw)
 have HW := Lib.hid hw
 have HMx := Lib.hid hm
 obtain ⟨V, hV⟩ : ∃ V, valW b depth = V := ⟨_, rfl⟩
 have HV := Lib.hid hV
 rw [hV]
 clear hV hw hm
 obtain ⟨d, hdd⟩ : ∃ d, evMost depth = d := ⟨_, rfl⟩
 have HD := Lib.hid hdd
 have HA0 := Lib.hid (allTo_zero b depth)
 have HN1 := Lib.hid (fun (w1 : World) (hb : Below w.heap.size w w1) => evSpec.new_on depth hd hb)
 rw [hdd] at HN1
 clear hdd
 go_enter Tryz.func21, Tryz.ntmps21
 go_wp2_with fail
 refine (HN1.out _ (Below.refl w.heap.size w)).mono ?_
 rintro e1 w1 ⟨km, Fm, rfl, hm1, _⟩
 have HM1 := Lib.hid hm1
 clear hm1 HN1
 go_wp2_with fail
 refine (new_v _).mono ?_
 rintro r w2 ⟨kc, Fc, rfl, hFc, hVc, hb⟩
 have HM2 := Lib.hid (HM1.out.step evSpec hb)
 have HV2 := Lib.hid hVc
 have HG2 : Hid (∀ j, Fc j → w.heap.size ≤ j ∧ ¬ Fm j) := Lib.hid (fun j hj => ⟨Nat.le_trans HM1.out.bel.size (hFc j hj), fun f => by have := evSpec.lt HM1.out.at_ _ f; have := hFc j hj; omega⟩)
 clear hb hFc hVc HM1
 go_wp2_with fail
 go_loopg [19] b.size (fun gk iv wr => ∃ (i A : Nat) (Gm Gc : Nat → Prop) (m : EM), iv = .int .i64 (i : Int) ∧ i ≤ b.size ∧ b.size - i ≤ gk ∧ A ≤ L.length ∧ Hid (allTo b depth i = some (m, L.take A)) ∧ Hid (MOn MAt w wr km Gm d m) ∧ Hid (VCk wr kc Gc (VS.run VS.new (L.take A))) ∧ Hid ((VS.run VS.new (L.take A)).bad = false) ∧ Hid (∀ j, Gc j → w.heap.size ≤ j ∧ ¬ Gm j))
 case atStart => exact ⟨0, 0, Fm, Fc, EM.new, rfl, by omega, by omega, Nat.zero_le _, HA0, HM2, HV2, Lib.hid rfl, HG2⟩
 case round =>
  clear HA0 HM2 HV2 HG2
  obtain ⟨i, A, Gm, Gc, m, rfl, hi, hgk, hA, HA, HM, HC, HN, HG⟩ := hrel
  obtain ⟨hat, hov⟩ := allTo_at hi HA.out
  by_cases hlt : i < b.size
  ·have hlt2 : (i : Int) < (b.size : Int) := by omega
   have hbt := get_bt b i hlt
   obtain ⟨x, hx⟩ : ∃ x, bt b i = x := ⟨_, rfl⟩
   have hx0 := bt_nonneg b i
   have hx1 := bt_le b i
   rw [hx] at hbt hx0 hx1
   obtain ⟨er, l, m', hst⟩ : ∃ er l m', m.step d x = (er, l, m') := ⟨_, _, _, rfl⟩
   have HP := Lib.hid (evSpec.push_on HM.out x hx0 hx1 (by omega) hst)
   have hst2 : m.step (evMost depth) (bt b i) = (er, l, m') := by rw [HD.out, hx]; exact hst
   obtain ⟨hre, hrk⟩ := whole_round HW.out hlt hA HA.out hst2
   by_cases he : er = 0
   ·subst he
    obtain ⟨hk1, hk2, hk3⟩ := hrk rfl
    have HA' := Lib.hid hk2
    have HL' := Lib.hid hk3
    have HA1 := Lib.hid hk1
    clear hre hrk hk2 hk3 hst hst2 hov hx hk1
    go_wp2_with fail
    refine HP.out.mono ?_
    rintro r w3 ⟨o1, n1, c1, F3, rfl, he3, hn3, hm3, hf3, hc3⟩
    subst hn3
    have HE3 := Lib.hid he3
    have HM3 := Lib.hid hm3
    have HC3 := Lib.hid (vck_aside HC.out hc3 (fun j hj => (HG.out j hj).2))
    have HG3 : Hid (∀ j, Gc j → w.heap.size ≤ j ∧ ¬ F3 j ∧ ∀ g, (Value.slice o1 l.length c1).ownBlock = some g → j ≠ g) := Lib.hid (fun j hj => by
     have hj1 := vck_lt HC.out j hj
     refine ⟨(HG.out j hj).1, fun f => ?_, fun g hg e => ?_⟩
     ·rcases hf3 j f with h | h
      ·exact (HG.out j hj).2 h
      ·omega
     ·have := (he3.lt g hg).1
      omega)
    have HN3 : Hid ((VS.run VS.new (L.take (A + 0))).bad = false) := HN
    have hln2 : l.length ≤ 900000 := by have := HA1.out; omega
    clear he3 hm3 hf3 hc3 HP HC HG HM HN HA hbt
    generalize wr.heap.size = B1 at *
    go_wp2_with fail
    go_loopg [36] l.length (fun gj jv wr => ∃ (j : Nat) (G : Nat → Prop), jv = .int .i64 (j : Int) ∧ j ≤ l.length ∧ l.length - j ≤ gj ∧ Hid (MOn MAt w wr km F3 d m') ∧ Hid (VCk wr kc G (VS.run VS.new (L.take (A + j)))) ∧ Hid ((VS.run VS.new (L.take (A + j))).bad = false) ∧ Hid (Evs wr B1 (.slice o1 l.length c1) l) ∧ Hid (∀ y, G y → w.heap.size ≤ y ∧ ¬ F3 y ∧ ∀ g, (Value.slice o1 l.length c1).ownBlock = some g → y ≠ g))
    case atStart => exact ⟨0, Gc, rfl, by omega, by omega, HM3, HC3, HN3, HE3, HG3⟩
    case round =>
     clear HM3 HC3 HN3 HE3 HG3
     obtain ⟨j, G, rfl, hj, hgj, HM, HC, HN, HE, HG⟩ := hrel
     by_cases hjl : j < l.length
     ·have hjl2 : (j : Int) < (l.length : Int) := by omega
      obtain ⟨g, c, hv, hc1, hcm, hgw⟩ : ∃ g c, Value.slice o1 l.length c1 = .slice (some ⟨g, 0, none⟩) l.length c ∧ l.length ≤ c ∧ c ≤ maxLen ∧ g < wr.heap.size := by
       rcases HE.out.shape with ⟨_, hh⟩ | hh
       ·rw [hh] at hjl; simp at hjl
       ·obtain ⟨g, c, q1, q2, q3, _, q4⟩ := hh
        exact ⟨g, c, q1, q2, q3, q4⟩
      injection hv with e1 _ e3
      subst e1 e3
      obtain ⟨⟨x0, x1, x2, x3, x4, x5, x6⟩, he⟩ : ∃ e, l[j] = e := ⟨_, rfl⟩
      have hLj := HL'.out j hjl
      rw [he] at hLj
      obtain ⟨hok, hfit, hnx, hvf⟩ := step_ev HFt.out hLj HN.out
      have HVe := Lib.hid (fun h => valW_ev HW.out hLj (hvf h))
      obtain ⟨y0, y1, y2, y3, y4, y5, y6⟩ := HE.out.evAt j hjl he
      have HFit := Lib.hid hfit
      have HOk := Lib.hid hok
      have HNx := Lib.hid hnx
      have hc1' : j < c1 := by omega
      clear hok hfit hnx hvf he hLj
      go_upto_region 11 with (fail)
      have HX : Hid (Row (wr.alloc (.cells #[.int .i64 x0, .int .i64 x1, .int .i64 x2, .int .i64 x3, .bool x4, .int .i64 x5, .int .u8 x6] 80)) wr.heap.size 80 (evC ⟨x0, x1, x2, x3, x4, x5, x6⟩)) := Lib.hid (Row.new wr 80 (evC ⟨x0, x1, x2, x3, x4, x5, x6⟩))
      have hbb : Below wr.heap.size wr (wr.alloc (.cells #[.int .i64 x0, .int .i64 x1, .int .i64 x2, .int .i64 x3, .bool x4, .int .i64 x5, .int .u8 x6] 80)) := (Below.refl _ _).alloc (Nat.le_refl _) _
      have HC5 := Lib.hid (vck_aside HC.out (Chg.of_below hbb) (F' := fun _ => False) (fun _ _ h => h))
      have HE5 := Lib.hid (HE.out.below hbb)
      have HM5 := Lib.hid (HM.out.step evSpec hbb)
      have hgW : g < (wr.alloc (.cells #[.int .i64 x0, .int .i64 x1, .int .i64 x2, .int .i64 x3, .bool x4, .int .i64 x5, .int .u8 x6] 80)).heap.size := Nat.lt_of_lt_of_le hgw hbb.size
      have hxb : wr.heap.size < (wr.alloc (.cells #[.int .i64 x0, .int .i64 x1, .int .i64 x2, .int .i64 x3, .bool x4, .int .i64 x5, .int .u8 x6] 80)).heap.size := HX.out.lt
      have HGx : Hid (∀ y, G y → y ≠ wr.heap.size) := Lib.hid (fun y hy => by have := vck_lt HC.out y hy; omega)
      clear hbb HC HE HM y0 y1 y2 y3 y4 y5 y6
      generalize wr.alloc (.cells #[.int .i64 x0, .int .i64 x1, .int .i64 x2, .int .i64 x3, .bool x4, .int .i64 x5, .int .u8 x6] 80) = W at *
      generalize wr.heap.size = bx at *
      obtain ⟨k0, k1, k2, k3, k4, k5, k6⟩ := ev_facts HX.out
      have HP := Lib.hid (push_v _ HC5.out HOk.out HFit.out)
      by_cases hbad : ((VS.run VS.new (L.take (A + j))).next ⟨x0, x1, x2, x3, x4, x5, x6⟩).bad = true
      ·rw [if_pos hbad] at HP
       have hVV := HVe.out hbad
       rw [HV.out] at hVV
       have hVV : V = (7, x1) := hVV
       have HVV := Lib.hid hVV
       clear HFit HOk HC5 hbad HVe hVV HNx HN
       go_wp2_with fail
       refine HP.out.mono ?_
       rintro r w5 ⟨F5, rfl, hF5, hV5, hc5⟩
       have HX5 := HX.out.chg hc5 (fun h => HGx.out _ h rfl)
       have HB6 := hc5.to_below HM5.out.bel (fun y hy => (HG.out y hy).1)
       clear hc5 hF5 hV5 HP HX HG HM5 HE5 k0 k1 k2 k3 k4 k5 k6
       obtain ⟨k0, k1, k2, k3, k4, k5, k6⟩ := ev_facts HX5
       go_wp2_with fail
       go_quiet (fail)
       go_wp2
       go_returns
       exact ⟨rets2 (congrArg (Value.int .i64) (show (7 : Int) = V.1 by rw [HVV.out])) (congrArg (Value.int .i64) (show x1 = V.2 by rw [HVV.out])), HB6.trans (draws_below' _ _ HB6.size)⟩
      ·rw [if_neg hbad] at HP
       have hgood : ((VS.run VS.new (L.take (A + j))).next ⟨x0, x1, x2, x3, x4, x5, x6⟩).bad = false := by simpa using hbad
       have HN6 : Hid ((VS.run VS.new (L.take (A + (j + 1)))).bad = false) := Lib.hid (by rw [← Nat.add_assoc, HNx.out]; exact hgood)
       clear HFit HOk HC5 HVe hbad hgood HN
       go_wp2_with fail
       refine HP.out.mono ?_
       rintro r w5 ⟨F5, rfl, hF5, hV5, hc5⟩
       have HE6 := Lib.hid (HE5.out.chg hc5 (fun y hy hG => (HG.out y hG).2.2 y hy rfl))
       have HM6 := Lib.hid (HM5.out.beside evSpec hc5 (fun y hf hg => (HG.out y hg).2.1 hf) (fun y hy => (HG.out y hy).1))
       have HG6 : Hid (∀ y, F5 y → w.heap.size ≤ y ∧ ¬ F3 y ∧ ∀ g', (Value.slice (some ⟨g, 0, none⟩) l.length c1).ownBlock = some g' → y ≠ g') := Lib.hid (fun y hy => by
        rcases hF5 y hy with h | h
        ·exact HG.out y h
        ·refine ⟨Nat.le_trans HM5.out.bel.size h, fun f => ?_, fun g' hg' he => ?_⟩
         ·have := evSpec.lt HM5.out.at_ _ f
          omega
         ·have hj2 : g = g' := by injection hg'
          omega)
       have HV6 := Lib.hid hV5
       rw [← HNx.out, Nat.add_assoc] at HV6
       clear hc5 hF5 hV5 HE5 HM5 HG HP k0 k1 k2 k3 k4 k5 k6 HX
       go_wp2_with fail
       go_roundg (l.length - (j + 1))
       case measure => omega
       case rel => exact ⟨j + 1, F5, by simp, by omega, by omega, HM6, HV6, HN6, HE6, HG6⟩
     ·have hjl2 : ¬ (j : Int) < (l.length : Int) := by omega
      obtain rfl : j = l.length := by omega
      have HG7 : Hid (∀ y, G y → w.heap.size ≤ y ∧ ¬ F3 y) := Lib.hid (fun y hy => ⟨(HG.out y hy).1, (HG.out y hy).2.1⟩)
      clear HE HG
      go_wp2_with fail
      go_roundg (b.size - (i + 1))
      case measure => omega
      case rel => exact ⟨i + 1, A + l.length, F3, G, m', by simp, by omega, by omega, HA1.out, HA', HM, HC, HN, HG7⟩
   ·have hVV := whole_stop HMx.out HW.out (hre he) HN.out
    rw [HV.out] at hVV
    have HVV := Lib.hid hVV
    have hne : (er != 0) = true := by simpa using he
    clear hre hrk hst hst2 hov hx he hVV HG HC HN HA
    go_wp2_with fail
    refine HP.out.mono ?_
    rintro r w3 ⟨o1, n1, c1, F3, rfl, he3, hn3, hm3, hf3, hc3⟩
    have HB := hm3.bel
    clear he3 hn3 hm3 hf3 hc3 HP HM
    go_wp2
    go_returns
    exact ⟨rets2 (congrArg (Value.int .i64) (show er = V.1 by rw [HVV.out])) (congrArg (Value.int .i64) (show (i : Int) = V.2 by rw [HVV.out])), HB⟩
  ·have hlt2 : ¬ (i : Int) < (b.size : Int) := by omega
   obtain rfl : i = b.size := by omega
   have hVV := whole_end HMx.out HW.out hA HA.out HN.out
   rw [HV.out] at hVV
   have HVV := Lib.hid hVV
   have HDn := Lib.hid (evSpec.done_on HM.out)
   clear hVV HG HC HN HA hov
   generalize m.done = dn at *
   go_wp2_with fail
   refine HDn.out.mono ?_
   rintro r w3 ⟨rfl, hm3, _⟩
   have HB := hm3.bel
   clear hm3 HDn HM
   cases dn
   ·go_wp2
    go_returns
    exact ⟨rets2 (congrArg (Value.int .i64) (show (2 : Int) = V.1 by rw [HVV.out]; rfl)) (congrArg (Value.int .i64) (show (b.size : Int) = V.2 by rw [HVV.out])), HB⟩
   ·go_wp2
    go_returns
    exact ⟨rets2 (congrArg (Value.int .i64) (show (0 : Int) = V.1 by rw [HVV.out]; rfl)) (congrArg (Value.int .i64) (show (b.size : Int) = V.2 by rw [HVV.out])), HB⟩
end Go.Proofs.YtiecbagejdcafaaGreatDoor
