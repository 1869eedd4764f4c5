/- What value's Push, New and Whole give: the landed code's contracts. Of every checker, and every event that may come there; of every text of at most 900000 bytes. -/
import Derived.Test.YtiiimhamfibdbaaL2
import Derived.Test.YtiiimhamfibdbaaE4
import Derived.Deep.LoopGhost
namespace Go.Proofs.Ytiiimhamfibdbaa
open Go.RowKit Go.PlainAid
set_option linter.unusedVariables false
def errC (b : Bool) : Int := if b = true then 7 else 0
def VCk : ValPred := fun w k F s => ∃ v, Row w k 57 [v, .int .i64 (errC s.bad)] ∧ FnV v ∧ F k ∧ (∀ i, F i → i < w.heap.size) ∧ (s.bad = false → Nx w k F v s.cur)
theorem vck_aside {w w' : World} {k : Nat} {F F' : Nat → Prop} {s : VS} (h : VCk w k F s) (hc : Chg F' w w') (hF : ∀ i, F i → ¬ F' i) : VCk w' k F s := by
 obtain ⟨v, h1, h2, h3, h4, h5⟩ := h
 refine ⟨v, h1.chg hc (hF k h3), h2, h3, fun i hi => Nat.lt_of_lt_of_le (h4 i hi) hc.size, fun hb q hq => ?_⟩
 obtain ⟨q1, q2⟩ := h5 hb q hq
 refine ⟨q1, ?_⟩
 rcases q2 with ⟨a, b⟩ | ⟨a, b, kb, c, d, e⟩
 ·exact .inl ⟨a, b⟩
 ·exact .inr ⟨a, b, kb, c, d, e.same (hc.block kb (h4 kb d) (hF kb d))⟩
theorem new_v (w : World) : Calls Try.prog 9 #[] w fun e w' => ∃ k F, e = .returned (.pointer (some ⟨k, 0, none⟩)) ∧ (∀ i, F i → w.heap.size ≤ i) ∧ VCk w' k F VS.new ∧ Below w.heap.size w w' := by
 go_enter Try.func9, Try.ntmps9
 go_wp2
 go_returns
 refine ⟨w.heap.size, fun i => i = w.heap.size, rfl, (fun i hi => by omega), ⟨anyFn, Row.new w 57 [anyFn, .int .i64 0], .inr (.inl rfl), rfl, (fun i hi => by subst hi; simp), (fun _ q hq => by cases hq)⟩, (Below.refl _ _).alloc (Nat.le_refl _) _⟩
set_option maxRecDepth 100000 in
set_option maxHeartbeats 16000000 in
theorem push_v {w : World} {k : Nat} {F : Nat → Prop} {s : VS} (e : Ev) (h : VCk w k F s) (hok : s.Ok) (hf : s.fits e) :
  Calls Try.prog 17 #[.pointer (some ⟨k, 0, none⟩), evV e] w fun r w' => ∃ F', r = .returned (.int .i64 (if (s.next e).bad = true then 7 else 0)) ∧ (∀ i, F' i → F i ∨ w.heap.size ≤ i) ∧ VCk w' k F' (s.next e) ∧ Chg F w w' := by
 obtain ⟨v, hR, hv, hF, hl, hN⟩ := h
 by_cases hb : s.bad = true
 ·have hn := VS.bad_next e hb
  generalize s.next e = s2 at *
  rw [hb] at hR
  change Row w k 57 [v, .int .i64 7] at hR
  clear hN hb hok hf
  obtain ⟨kk, p, c, t, f, n, b⟩ := e
  unfold evV
  go_enter Try.func17, Try.ntmps17
  go_upto_region 1 with (fail)
  have hbb : Below w.heap.size w (w.alloc (.cells #[.int .i64 kk, .int .i64 p, .int .i64 c, .int .i64 t, .bool f, .int .i64 n, .int .u8 b] 34)) := (Below.refl _ _).alloc (Nat.le_refl _) _
  have HK := Lib.hid (hR.below hbb hR.lt)
  have HB := Lib.hid hbb
  clear hR hbb
  generalize w.alloc (.cells #[.int .i64 kk, .int .i64 p, .int .i64 c, .int .i64 t, .bool f, .int .i64 n, .int .u8 b] 34) = W at *
  generalize hbx : w.heap.size = bx at *
  have c1 : W.cell? ⟨k, 1, none⟩ = some (.int .i64 7) := HK.out.cell 1
  go_wp2
  go_returns
  refine ⟨rets1 rfl, F, (fun i hi => .inl hi), ⟨v, by rw [hn]; exact HK.out, hv, hF, (fun i hi => Nat.lt_of_lt_of_le (hl i hi) (by rw [← hbx]; exact HB.out.size)), (fun h => by rw [hn] at h; cases h)⟩, Chg.of_below (by rw [hbx]; exact HB.out)⟩
 ·have hb0 : s.bad = false := by simpa using hb
  rw [hb0] at hR
  change Row w k 57 [v, .int .i64 0] at hR
  have hN0 := hN hb0
  have HC := Lib.hid (fun (W : World) (hc : Below w.heap.size w W) => take_v (w := W) (hR.below hc hR.lt) hb0 hv hF (fun i hi => Nat.lt_of_lt_of_le (hl i hi) hc.size) (fun q hq => by
   obtain ⟨q1, q2⟩ := hN0 q hq
   refine ⟨q1, ?_⟩
   rcases q2 with ⟨a, b⟩ | ⟨a, b, kb, c, d, e⟩
   ·exact .inl ⟨a, b⟩
   ·exact .inr ⟨a, b, kb, c, d, e.same (hc.block kb (hl kb d))⟩) e hok hf)
  generalize s.next e = s2 at *
  generalize hRv : (if s2.bad = true then (7 : Int) else 0) = R
  have HRv := Lib.hid hRv
  clear hN hb hok hf hN0 hRv
  obtain ⟨kk, p, c, t, f, n, b⟩ := e
  unfold evV at *
  go_enter Try.func17, Try.ntmps17
  go_upto_region 1 with (fail)
  have hbb : Below w.heap.size w (w.alloc (.cells #[.int .i64 kk, .int .i64 p, .int .i64 c, .int .i64 t, .bool f, .int .i64 n, .int .u8 b] 34)) := (Below.refl _ _).alloc (Nat.le_refl _) _
  have HX : Hid (Row (w.alloc (.cells #[.int .i64 kk, .int .i64 p, .int .i64 c, .int .i64 t, .bool f, .int .i64 n, .int .u8 b] 34)) w.heap.size 34 (evC ⟨kk, p, c, t, f, n, b⟩)) := Lib.hid (Row.new w 34 (evC ⟨kk, p, c, t, f, n, b⟩))
  have HK := Lib.hid (hR.below hbb hR.lt)
  have HB := Lib.hid hbb
  have HC2 := Lib.hid (HC.out _ hbb)
  clear hR hbb HC
  generalize w.alloc (.cells #[.int .i64 kk, .int .i64 p, .int .i64 c, .int .i64 t, .bool f, .int .i64 n, .int .u8 b] 34) = W at *
  generalize hbx : w.heap.size = bx at *
  obtain ⟨y0, y1, y2, y3, y4, y5, y6⟩ := ev_facts HX.out
  have c1 : W.cell? ⟨k, 1, none⟩ = some (.int .i64 0) := HK.out.cell 1
  have hsz := HB.out.size
  go_wp2_with fail
  refine HC2.out.mono ?_
  rintro r w5 ⟨v5, F5, rfl, hR5, hv5, hF5, hl5, hN5, hn5, hc5⟩
  have g1 := hR5.frozen 1
  have d1 : w5.cell? ⟨k, 1, none⟩ = some (.int .i64 0) := hR5.cell 1
  have HR5 := Lib.hid hR5
  have HN5 := Lib.hid hN5
  have HCf : Hid (Chg F w w5) := Lib.hid ((Chg.of_below (by rw [hbx]; exact HB.out)).trans ⟨hc5.os, hc5.tape, hc5.output, hc5.size, fun i hi hn => hc5.block i hi hn⟩ (fun i hi => .inl (by have h : i = k := hi; rw [h]; exact hF)))
  clear hR5 hN5 hc5 HC2 HK HX y0 y1 y2 y3 y4 y5 y6 c1
  have hnw : ∀ i, F5 i → F i ∨ bx ≤ i := fun i hi => by
   rcases hn5 i hi with h | h
   ·exact .inl h
   ·exact .inr (by omega)
  cases hB : s2.bad
  ·rw [hB] at HRv
   have HBb := Lib.hid hB
   clear hB
   go_wp2
   go_returns
   exact ⟨F5, rets1 (congrArg (Value.int .i64) HRv.out), (by rw [hbx]; exact hnw), ⟨v5, by rw [HBb.out]; exact HR5.out, hv5, hF5, hl5, fun hbd => HN5.out hbd⟩, HCf.out⟩
  ·rw [hB] at HRv
   have HBb := Lib.hid hB
   clear hB
   go_wp2
   go_returns
   exact ⟨F5, rets1 (congrArg (Value.int .i64) HRv.out), (by rw [hbx]; exact hnw), ⟨v5, by rw [HBb.out]; exact HR5.out.set 1 (.int .i64 7), hv5, hF5, (fun i hi => by rw [setk_size]; exact hl5 i hi), (fun h => by rw [HBb.out] at h; cases h)⟩, HCf.out.setAt hF 1 _⟩
/-! ### Byte by byte -/
theorem allTo_pre {b : ByteArray} {dep : Int} {i : Nat} {m : EM} {acc : List Ev} (hi : i ≤ b.size) (ha : allTo b dep i = some (m, acc)) {L : List Ev} {E : Int} {P : Nat} (h : evW b dep = (L, E, P)) : ∃ R, L = acc ++ R := by
 have hov := (allTo_at hi ha).2
 unfold allTo at ha
 unfold evW evWhole at h
 have hr := EM.run_some _ _ EM.new [] ha ((bl b).drop i)
 rw [List.take_append_drop, h] at hr
 obtain ⟨R, r1, _⟩ := EM.run_at (evMost dep) ((bl b).drop i) m acc hov
 rw [← hr] at r1
 exact ⟨R, r1⟩
theorem whole_round {b : ByteArray} {dep : Int} {L : List Ev} {E : Int} {P : Nat} (hw : evW b dep = (L, E, P)) {i : Nat} {m : EM} {A : Nat} (hi : i < b.size) (hA : A ≤ L.length) (ha : allTo b dep i = some (m, L.take A)) {er : Int} {l : List Ev} {m' : EM} (hs : m.step (evMost dep) (bt b i) = (er, l, m')) :
  (er ≠ 0 → E = er ∧ P = i ∧ A = L.length) ∧ (er = 0 → A + l.length ≤ L.length ∧ allTo b dep (i + 1) = some (m', L.take (A + l.length)) ∧ ∀ j (h : j < l.length), L[A + j]? = some l[j]) := by
 refine ⟨fun he => ?_, fun he => ?_⟩
 ·have h := allTo_err hi ha hs he
  rw [hw] at h
  simp only [Prod.mk.injEq] at h
  refine ⟨h.2.1, h.2.2, ?_⟩
  have := congrArg List.length h.1
  rw [List.length_take] at this
  omega
 ·subst he
  have h := allTo_succ hi ha hs
  obtain ⟨R, hR⟩ := allTo_pre (by omega) h hw
  have hlen := congrArg List.length hR
  rw [List.length_append, List.length_append, List.length_take, Nat.min_eq_left hA] at hlen
  have hTl : (L.take A).length = A := by rw [List.length_take, Nat.min_eq_left hA]
  have key : ∀ T : List Ev, T.length = A → L = T ++ l ++ R → L.take (A + l.length) = T ++ l ∧ ∀ j (h : j < l.length), L[A + j]? = some l[j] := by
   rintro T h1 rfl
   refine ⟨?_, fun j hj => ?_⟩
   ·rw [← h1, ← List.length_append]
    exact List.take_left
   ·rw [← h1, List.append_assoc, List.getElem?_append_right (Nat.le_add_right _ _), Nat.add_sub_cancel_left, List.getElem?_append_left hj]
    exact List.getElem?_eq_getElem hj
  obtain ⟨k1, k2⟩ := key _ hTl hR
  exact ⟨by omega, by rw [k1]; exact h, k2⟩
theorem step_ev {L : List Ev} (hf : VS.all VS.new L) {q : Nat} {e : Ev} (he : L[q]? = some e) (hn : (VS.run VS.new (L.take q)).bad = false) :
  (VS.run VS.new (L.take q)).Ok ∧ (VS.run VS.new (L.take q)).fits e ∧ VS.run VS.new (L.take (q + 1)) = (VS.run VS.new (L.take q)).next e ∧ (((VS.run VS.new (L.take q)).next e).bad = true → vF L = (q : Int)) := by
 obtain ⟨hq, rfl⟩ := List.getElem?_eq_some_iff.1 he
 have hT := List.take_succ_eq_append_getElem hq
 have hA := (VS.all_append (L.take q) (L.drop q) VS.new).1 (by rw [List.take_append_drop]; exact hf)
 have hA2 := hA.2
 rw [List.drop_eq_getElem_cons hq] at hA2
 have hN : VS.run VS.new (L.take (q + 1)) = (VS.run VS.new (L.take q)).next L[q] := by rw [hT, VS.run_append]; rfl
 refine ⟨VS.ok_run (L.take q) VS.ok_new hA.1, hA2.1, hN, fun hb => ?_⟩
 obtain ⟨_, v3⟩ := v_bad hf
 have h1 := v3 q (Nat.le_of_lt hq)
 have h2 := v3 (q + 1) hq
 rw [hn] at h1
 rw [hN, hb] at h2
 have h1 := of_decide_eq_false h1.symm
 have h2 := of_decide_eq_true h2.symm
 omega
end Go.Proofs.Ytiiimhamfibdbaa
/- What value's Whole gives: the landed code's contract. Of every text of at most 900000 bytes and every depth. -/
namespace Go.Proofs.Ytiiimhamfibdbaa
open Go.RowKit Go.PlainAid
set_option linter.unusedVariables false
theorem vck_lt {w : World} {k : Nat} {F : Nat → Prop} {s : VS} (h : VCk w k F s) : ∀ i, F i → i < w.heap.size := by obtain ⟨_, _, _, _, h4, _⟩ := h; exact h4
end Go.Proofs.Ytiiimhamfibdbaa
