/- What value's begin, canEnter and take give: the landed code's contracts. Of every checker, and every event that may come there. -/
import Derived.Test.YtiiimhamfibdbaaL1
import Derived.Test.YtiiimhamfibdbaaE5
namespace Go.Proofs.Ytiiimhamfibdbaa
open Go.RowKit Go.PlainAid
set_option linter.unusedVariables false
def Tk (w : World) (kb : Nat) (v : Value) (q : VC) : Prop :=
 (isNum q.t ∧ v = fnPtr 59 kb ∧ Row w kb 95 [.int .u8 (nS q.t q.l)]) ∨
 (q.t = 6 ∧ v = fnPtr 62 kb ∧ Row w kb 100 [.int .i64 (oLeft q.n q.l), .bool (oWith q.l)]) ∨
 (q.t = 3 ∧ v = fnPtr 63 kb ∧ Row w kb 105 [.int .i64 (oLeft q.n q.l), .bool (decide (0 < q.l.length)), .int .u8 (bU q.l)]) ∨
 (isWhen q.t ∧ v = fnPtr 64 kb ∧ Row w kb 111 [.int .u8 (wSt q.t q.l).p, .int .i64 (wSt q.t q.l).l, .int .i64 (wSt q.t q.l).v, .int .i64 (wSt q.t q.l).y, .int .i64 (wSt q.t q.l).m]) ∨
 (isText q.t ∧ v = fnPtr 65 kb ∧ Row w kb 118 [.int .i64 (tSt q.t q.n q.l).p, .int .i64 (tSt q.t q.n q.l).l, .int .i64 (tSt q.t q.n q.l).v, .int .u8 (tSt q.t q.n q.l).y, .int .u8 (tSt q.t q.n q.l).m])
theorem Tk.row {w : World} {kb : Nat} {v : Value} {q : VC} (h : Tk w kb v q) : ∃ t l, Row w kb t l := by
 rcases h with ⟨_, _, h⟩ | ⟨_, _, h⟩ | ⟨_, _, h⟩ | ⟨_, _, h⟩ | ⟨_, _, h⟩ <;> exact ⟨_, _, h⟩
theorem Tk.same {w w' : World} {kb : Nat} {v : Value} {q : VC} (h : Tk w kb v q) (hw : w'.heap[kb]? = w.heap[kb]?) : Tk w' kb v q := by
 have key : ∀ t l, Row w kb t l → Row w' kb t l := fun t l h => hw.trans h
 rcases h with ⟨h1, h2, h⟩ | ⟨h1, h2, h⟩ | ⟨h1, h2, h⟩ | ⟨h1, h2, h⟩ | ⟨h1, h2, h⟩
 ·exact .inl ⟨h1, h2, key _ _ h⟩
 ·exact .inr (.inl ⟨h1, h2, key _ _ h⟩)
 ·exact .inr (.inr (.inl ⟨h1, h2, key _ _ h⟩))
 ·exact .inr (.inr (.inr (.inl ⟨h1, h2, key _ _ h⟩)))
 ·exact .inr (.inr (.inr (.inr ⟨h1, h2, key _ _ h⟩)))
theorem vBad_open {t n : Int} {l : List Int} (ht : ¬ (t = 0 ∨ t = 16 ∨ t = 17)) (hl : (l.length : Int) ≤ max n 0) : vBad ⟨0, t, n, l⟩ = !vOk t n l := by
 rw [vOk_not hl, Bool.not_not]
 unfold vBad
 refine decide_eq_decide.2 ⟨?_, fun h => ⟨rfl, .inr (.inr (.inr h))⟩⟩
 rintro ⟨_, h | h | h | h⟩
 ·exact absurd (.inl h) ht
 ·exact absurd (.inr (.inl h)) ht
 ·exact absurd (.inr (.inr h)) ht
 ·exact h
theorem vBad_never {t n : Int} {l : List Int} (ht : t = 0 ∨ t = 16 ∨ t = 17) : vBad ⟨0, t, n, l⟩ = true := by
 unfold vBad
 refine decide_eq_true ⟨rfl, ?_⟩
 rcases ht with h | h | h
 ·exact .inl h
 ·exact .inr (.inl h)
 ·exact .inr (.inr (.inl h))
theorem vBad_other {q : VC} (h : ¬ q.c = 0) : vBad q = false := by unfold vBad; exact decide_eq_false (fun x => h x.1)
def FnV (v : Value) : Prop := v = .nilFunc ∨ v = anyFn ∨ ∃ K kb, v = fnPtr K kb
theorem canEnter_v (c t : Int) (f : Bool) (n : Int) (w : World) :
  Calls Try.prog 38 #[.agg #[.int .i64 c, .int .i64 t, .bool f, .int .i64 n]] w fun e w' => e = .returned (.bool (!decide (c = 0 ∧ ¬ t = 16 ∧ ¬ t = 17))) ∧ Below w.heap.size w w' := by
 by_cases hc : c = 0
 ·subst hc
  by_cases h6 : t = 16
  ·subst h6
   go_enter Try.func38, Try.ntmps38
   go_upto_region 1 with (fail)
   have HH : Hid (Row (w.alloc (.cells #[.int .i64 0, .int .i64 16, .bool f, .int .i64 n] 32)) w.heap.size 32 (hdC 0 16 f n)) := Lib.hid (Row.new w 32 (hdC 0 16 f n))
   have HB : Hid (Below w.heap.size w (w.alloc (.cells #[.int .i64 0, .int .i64 16, .bool f, .int .i64 n] 32))) := Lib.hid ((Below.refl _ _).alloc (Nat.le_refl _) _)
   generalize w.alloc (.cells #[.int .i64 0, .int .i64 16, .bool f, .int .i64 n] 32) = W at *
   have hz0 := HB.out.size
   generalize hbx : w.heap.size = bx at *
   obtain ⟨k0, k1, k2, k3, f0, f1, f2, f3⟩ := head_facts HH.out
   clear f0 f1 f2 f3 HH
   go_wp2
   go_returns
   exact ⟨rets1 (congrArg Value.bool (by decide)), by rw [hbx]; exact HB.out⟩
  ·by_cases h7 : t = 17
   ·subst h7
    go_enter Try.func38, Try.ntmps38
    go_upto_region 1 with (fail)
    have HH : Hid (Row (w.alloc (.cells #[.int .i64 0, .int .i64 17, .bool f, .int .i64 n] 32)) w.heap.size 32 (hdC 0 17 f n)) := Lib.hid (Row.new w 32 (hdC 0 17 f n))
    have HB : Hid (Below w.heap.size w (w.alloc (.cells #[.int .i64 0, .int .i64 17, .bool f, .int .i64 n] 32))) := Lib.hid ((Below.refl _ _).alloc (Nat.le_refl _) _)
    generalize w.alloc (.cells #[.int .i64 0, .int .i64 17, .bool f, .int .i64 n] 32) = W at *
    have hz0 := HB.out.size
    generalize hbx : w.heap.size = bx at *
    obtain ⟨k0, k1, k2, k3, f0, f1, f2, f3⟩ := head_facts HH.out
    clear f0 f1 f2 f3 HH
    go_wp2
    go_returns
    exact ⟨rets1 (congrArg Value.bool (by decide)), by rw [hbx]; exact HB.out⟩
   ·have e6 : (t == 16) = false := by simpa using h6
    have e7 : (t == 17) = false := by simpa using h7
    have hR : (false : Bool) = !decide ((0 : Int) = 0 ∧ ¬ t = 16 ∧ ¬ t = 17) := by rw [decide_eq_true ⟨rfl, h6, h7⟩]; rfl
    generalize (!decide ((0 : Int) = 0 ∧ ¬ t = 16 ∧ ¬ t = 17)) = R at *
    clear h6 h7
    have HRr := Lib.hid hR
    clear hR
    go_enter Try.func38, Try.ntmps38
    go_upto_region 1 with (fail)
    have HH : Hid (Row (w.alloc (.cells #[.int .i64 0, .int .i64 t, .bool f, .int .i64 n] 32)) w.heap.size 32 (hdC 0 t f n)) := Lib.hid (Row.new w 32 (hdC 0 t f n))
    have HB : Hid (Below w.heap.size w (w.alloc (.cells #[.int .i64 0, .int .i64 t, .bool f, .int .i64 n] 32))) := Lib.hid ((Below.refl _ _).alloc (Nat.le_refl _) _)
    generalize w.alloc (.cells #[.int .i64 0, .int .i64 t, .bool f, .int .i64 n] 32) = W at *
    have hz0 := HB.out.size
    generalize hbx : w.heap.size = bx at *
    obtain ⟨k0, k1, k2, k3, f0, f1, f2, f3⟩ := head_facts HH.out
    clear f0 f1 f2 f3 HH
    go_wp2
    go_returns
    exact ⟨rets1 (congrArg Value.bool HRr.out), by rw [hbx]; exact HB.out⟩
 ·have e0 : (c != 0) = true := by simpa using hc
  have hR : (true : Bool) = !decide (c = 0 ∧ ¬ t = 16 ∧ ¬ t = 17) := by rw [decide_eq_false (fun h => hc h.1)]; rfl
  generalize (!decide (c = 0 ∧ ¬ t = 16 ∧ ¬ t = 17)) = R at *
  clear hc
  have HRr := Lib.hid hR
  clear hR
  go_enter Try.func38, Try.ntmps38
  go_upto_region 1 with (fail)
  have HH : Hid (Row (w.alloc (.cells #[.int .i64 c, .int .i64 t, .bool f, .int .i64 n] 32)) w.heap.size 32 (hdC c t f n)) := Lib.hid (Row.new w 32 (hdC c t f n))
  have HB : Hid (Below w.heap.size w (w.alloc (.cells #[.int .i64 c, .int .i64 t, .bool f, .int .i64 n] 32))) := Lib.hid ((Below.refl _ _).alloc (Nat.le_refl _) _)
  generalize w.alloc (.cells #[.int .i64 c, .int .i64 t, .bool f, .int .i64 n] 32) = W at *
  have hz0 := HB.out.size
  generalize hbx : w.heap.size = bx at *
  obtain ⟨k0, k1, k2, k3, f0, f1, f2, f3⟩ := head_facts HH.out
  clear f0 f1 f2 f3 HH
  go_wp2
  go_returns
  exact ⟨rets1 (congrArg Value.bool HRr.out), by rw [hbx]; exact HB.out⟩
theorem begin_other (c t : Int) (f : Bool) (n : Int) (hc : ¬ c = 0) (w : World) :
  Calls Try.prog 39 #[.agg #[.int .i64 c, .int .i64 t, .bool f, .int .i64 n]] w fun e w' => e = .returned (.tuple #[anyFn, .bool true]) ∧ Below w.heap.size w w' := by
 have e0 : (c != 0) = true := by simpa using hc
 clear hc
 go_enter Try.func39, Try.ntmps39
 go_upto_region 1 with (fail)
 have HH : Hid (Row (w.alloc (.cells #[.int .i64 c, .int .i64 t, .bool f, .int .i64 n] 32)) w.heap.size 32 (hdC c t f n)) := Lib.hid (Row.new w 32 (hdC c t f n))
 have HB : Hid (Below w.heap.size w (w.alloc (.cells #[.int .i64 c, .int .i64 t, .bool f, .int .i64 n] 32))) := Lib.hid ((Below.refl _ _).alloc (Nat.le_refl _) _)
 generalize w.alloc (.cells #[.int .i64 c, .int .i64 t, .bool f, .int .i64 n] 32) = W at *
 have hz0 := HB.out.size
 generalize hbx : w.heap.size = bx at *
 obtain ⟨k0, k1, k2, k3, f0, f1, f2, f3⟩ := head_facts HH.out
 clear f0 f1 f2 f3 HH
 go_wp2
 go_returns
 exact ⟨rfl, by rw [hbx]; exact HB.out⟩
set_option maxRecDepth 100000 in
set_option maxHeartbeats 16000000 in
theorem begin_v (t : Int) (f : Bool) (n : Int) (hn : 0 ≤ n) (w : World) :
  Calls Try.prog 39 #[.agg #[.int .i64 0, .int .i64 t, .bool f, .int .i64 n]] w fun e w' => ∃ v, e = .returned (.tuple #[v, .bool (!vBad ⟨0, t, n, []⟩)]) ∧ FnV v ∧ (vBad ⟨0, t, n, []⟩ = false → ∃ kb, w.heap.size ≤ kb ∧ Tk w' kb v ⟨0, t, n, []⟩) ∧ Below w.heap.size w w' := by
 by_cases ht : t = 0 ∨ t = 16 ∨ t = 17
 ·rw [vBad_never ht]
  rcases ht with rfl | rfl | rfl
  ·go_enter Try.func39, Try.ntmps39
   go_upto_region 1 with (fail)
   have HH : Hid (Row (w.alloc (.cells #[.int .i64 0, .int .i64 0, .bool f, .int .i64 n] 32)) w.heap.size 32 (hdC 0 0 f n)) := Lib.hid (Row.new w 32 (hdC 0 0 f n))
   have HB : Hid (Below w.heap.size w (w.alloc (.cells #[.int .i64 0, .int .i64 0, .bool f, .int .i64 n] 32))) := Lib.hid ((Below.refl _ _).alloc (Nat.le_refl _) _)
   generalize w.alloc (.cells #[.int .i64 0, .int .i64 0, .bool f, .int .i64 n] 32) = W at *
   have hz0 := HB.out.size
   generalize hbx : w.heap.size = bx at *
   obtain ⟨k0, k1, k2, k3, f0, f1, f2, f3⟩ := head_facts HH.out
   clear f0 f1 f2 f3 HH
   go_wp2
   go_returns
   exact ⟨_, rfl, .inl rfl, (fun h => by cases h), by rw [hbx]; exact HB.out⟩
  ·go_enter Try.func39, Try.ntmps39
   go_upto_region 1 with (fail)
   have HH : Hid (Row (w.alloc (.cells #[.int .i64 0, .int .i64 16, .bool f, .int .i64 n] 32)) w.heap.size 32 (hdC 0 16 f n)) := Lib.hid (Row.new w 32 (hdC 0 16 f n))
   have HB : Hid (Below w.heap.size w (w.alloc (.cells #[.int .i64 0, .int .i64 16, .bool f, .int .i64 n] 32))) := Lib.hid ((Below.refl _ _).alloc (Nat.le_refl _) _)
   generalize w.alloc (.cells #[.int .i64 0, .int .i64 16, .bool f, .int .i64 n] 32) = W at *
   have hz0 := HB.out.size
   generalize hbx : w.heap.size = bx at *
   obtain ⟨k0, k1, k2, k3, f0, f1, f2, f3⟩ := head_facts HH.out
   clear f0 f1 f2 f3 HH
   go_wp2
   go_returns
   exact ⟨_, rfl, .inl rfl, (fun h => by cases h), by rw [hbx]; exact HB.out⟩
  ·go_enter Try.func39, Try.ntmps39
   go_upto_region 1 with (fail)
   have HH : Hid (Row (w.alloc (.cells #[.int .i64 0, .int .i64 17, .bool f, .int .i64 n] 32)) w.heap.size 32 (hdC 0 17 f n)) := Lib.hid (Row.new w 32 (hdC 0 17 f n))
   have HB : Hid (Below w.heap.size w (w.alloc (.cells #[.int .i64 0, .int .i64 17, .bool f, .int .i64 n] 32))) := Lib.hid ((Below.refl _ _).alloc (Nat.le_refl _) _)
   generalize w.alloc (.cells #[.int .i64 0, .int .i64 17, .bool f, .int .i64 n] 32) = W at *
   have hz0 := HB.out.size
   generalize hbx : w.heap.size = bx at *
   obtain ⟨k0, k1, k2, k3, f0, f1, f2, f3⟩ := head_facts HH.out
   clear f0 f1 f2 f3 HH
   go_wp2
   go_returns
   exact ⟨_, rfl, .inl rfl, (fun h => by cases h), by rw [hbx]; exact HB.out⟩
 ·rw [vBad_open ht (by show (0 : Int) ≤ _; omega), Bool.not_not]
  have e0 : (t == 0) = false := by simp; omega
  have e16 : (t == 16) = false := by simp; omega
  have e17 : (t == 17) = false := by simp; omega
  by_cases h1 : isNum t
  ·have h1' := h1
   unfold isNum at h1'
   rcases h1' with rfl | rfl | rfl | rfl
   ·have HS := Lib.hid (numStart_v (n := n) h1)
    have HO := Lib.hid numBe_any
    clear e0 e16 e17 ht
    generalize vOk 1 n [] = B at *
    go_enter Try.func39, Try.ntmps39
    go_upto_region 1 with (fail)
    have HH : Hid (Row (w.alloc (.cells #[.int .i64 0, .int .i64 1, .bool f, .int .i64 n] 32)) w.heap.size 32 (hdC 0 1 f n)) := Lib.hid (Row.new w 32 (hdC 0 1 f n))
    have HB : Hid (Below w.heap.size w (w.alloc (.cells #[.int .i64 0, .int .i64 1, .bool f, .int .i64 n] 32))) := Lib.hid ((Below.refl _ _).alloc (Nat.le_refl _) _)
    generalize w.alloc (.cells #[.int .i64 0, .int .i64 1, .bool f, .int .i64 n] 32) = W at *
    have hz0 := HB.out.size
    generalize hbx : w.heap.size = bx at *
    obtain ⟨k0, k1, k2, k3, f0, f1, f2, f3⟩ := head_facts HH.out
    clear f0 f1 f2 f3 HH
    go_wp2_with fail
    refine (HS.out _).mono ?_
    rintro e w1 ⟨s1, rfl, hs1, hb1⟩
    have hz := hb1.size
    go_wp2_with fail
    refine (HO.out _ _ _).mono ?_
    rintro e w2 ⟨v, rfl, hk2, hn2, hb2⟩
    have hbf : Below bx w w2 := HB.out.trans ((hb1.mono hz0).trans (hb2.mono (by omega)))
    have hkb : ∀ kb, w1.heap.size ≤ kb → bx ≤ kb := fun kb h => by omega
    have HK2 := Lib.hid hk2
    have HN2 := Lib.hid hn2
    clear hb1 hb2 hk2 hn2 HO HS
    go_wp2
    go_returns
    refine ⟨_, rfl, ?_, fun hB => ?_, by rw [hbx]; exact hbf⟩
    ·cases B
     ·exact .inl (HN2.out rfl)
     ·obtain ⟨kb, h, _⟩ := HK2.out rfl
      exact .inr (.inr ⟨_, _, h⟩)
    ·have hB : B = true := by simpa using hB
     obtain ⟨kb, e1, e2, e3⟩ := HK2.out hB
     exact ⟨kb, by rw [hbx]; exact hkb kb e2, .inl ⟨h1, e1, by have := hs1 hB; subst this; exact e3⟩⟩
   ·have HS := Lib.hid (numStart_v (n := n) h1)
    have HO := Lib.hid numBe_any
    clear e0 e16 e17 ht
    generalize vOk 2 n [] = B at *
    go_enter Try.func39, Try.ntmps39
    go_upto_region 1 with (fail)
    have HH : Hid (Row (w.alloc (.cells #[.int .i64 0, .int .i64 2, .bool f, .int .i64 n] 32)) w.heap.size 32 (hdC 0 2 f n)) := Lib.hid (Row.new w 32 (hdC 0 2 f n))
    have HB : Hid (Below w.heap.size w (w.alloc (.cells #[.int .i64 0, .int .i64 2, .bool f, .int .i64 n] 32))) := Lib.hid ((Below.refl _ _).alloc (Nat.le_refl _) _)
    generalize w.alloc (.cells #[.int .i64 0, .int .i64 2, .bool f, .int .i64 n] 32) = W at *
    have hz0 := HB.out.size
    generalize hbx : w.heap.size = bx at *
    obtain ⟨k0, k1, k2, k3, f0, f1, f2, f3⟩ := head_facts HH.out
    clear f0 f1 f2 f3 HH
    go_wp2_with fail
    refine (HS.out _).mono ?_
    rintro e w1 ⟨s1, rfl, hs1, hb1⟩
    have hz := hb1.size
    go_wp2_with fail
    refine (HO.out _ _ _).mono ?_
    rintro e w2 ⟨v, rfl, hk2, hn2, hb2⟩
    have hbf : Below bx w w2 := HB.out.trans ((hb1.mono hz0).trans (hb2.mono (by omega)))
    have hkb : ∀ kb, w1.heap.size ≤ kb → bx ≤ kb := fun kb h => by omega
    have HK2 := Lib.hid hk2
    have HN2 := Lib.hid hn2
    clear hb1 hb2 hk2 hn2 HO HS
    go_wp2
    go_returns
    refine ⟨_, rfl, ?_, fun hB => ?_, by rw [hbx]; exact hbf⟩
    ·cases B
     ·exact .inl (HN2.out rfl)
     ·obtain ⟨kb, h, _⟩ := HK2.out rfl
      exact .inr (.inr ⟨_, _, h⟩)
    ·have hB : B = true := by simpa using hB
     obtain ⟨kb, e1, e2, e3⟩ := HK2.out hB
     exact ⟨kb, by rw [hbx]; exact hkb kb e2, .inl ⟨h1, e1, by have := hs1 hB; subst this; exact e3⟩⟩
   ·have HS := Lib.hid (numStart_v (n := n) h1)
    have HO := Lib.hid numBe_any
    clear e0 e16 e17 ht
    generalize vOk 5 n [] = B at *
    go_enter Try.func39, Try.ntmps39
    go_upto_region 1 with (fail)
    have HH : Hid (Row (w.alloc (.cells #[.int .i64 0, .int .i64 5, .bool f, .int .i64 n] 32)) w.heap.size 32 (hdC 0 5 f n)) := Lib.hid (Row.new w 32 (hdC 0 5 f n))
    have HB : Hid (Below w.heap.size w (w.alloc (.cells #[.int .i64 0, .int .i64 5, .bool f, .int .i64 n] 32))) := Lib.hid ((Below.refl _ _).alloc (Nat.le_refl _) _)
    generalize w.alloc (.cells #[.int .i64 0, .int .i64 5, .bool f, .int .i64 n] 32) = W at *
    have hz0 := HB.out.size
    generalize hbx : w.heap.size = bx at *
    obtain ⟨k0, k1, k2, k3, f0, f1, f2, f3⟩ := head_facts HH.out
    clear f0 f1 f2 f3 HH
    go_wp2_with fail
    refine (HS.out _).mono ?_
    rintro e w1 ⟨s1, rfl, hs1, hb1⟩
    have hz := hb1.size
    go_wp2_with fail
    refine (HO.out _ _ _).mono ?_
    rintro e w2 ⟨v, rfl, hk2, hn2, hb2⟩
    have hbf : Below bx w w2 := HB.out.trans ((hb1.mono hz0).trans (hb2.mono (by omega)))
    have hkb : ∀ kb, w1.heap.size ≤ kb → bx ≤ kb := fun kb h => by omega
    have HK2 := Lib.hid hk2
    have HN2 := Lib.hid hn2
    clear hb1 hb2 hk2 hn2 HO HS
    go_wp2
    go_returns
    refine ⟨_, rfl, ?_, fun hB => ?_, by rw [hbx]; exact hbf⟩
    ·cases B
     ·exact .inl (HN2.out rfl)
     ·obtain ⟨kb, h, _⟩ := HK2.out rfl
      exact .inr (.inr ⟨_, _, h⟩)
    ·have hB : B = true := by simpa using hB
     obtain ⟨kb, e1, e2, e3⟩ := HK2.out hB
     exact ⟨kb, by rw [hbx]; exact hkb kb e2, .inl ⟨h1, e1, by have := hs1 hB; subst this; exact e3⟩⟩
   ·have HS := Lib.hid (numStart_v (n := n) h1)
    have HO := Lib.hid numBe_any
    clear e0 e16 e17 ht
    generalize vOk 10 n [] = B at *
    go_enter Try.func39, Try.ntmps39
    go_upto_region 1 with (fail)
    have HH : Hid (Row (w.alloc (.cells #[.int .i64 0, .int .i64 10, .bool f, .int .i64 n] 32)) w.heap.size 32 (hdC 0 10 f n)) := Lib.hid (Row.new w 32 (hdC 0 10 f n))
    have HB : Hid (Below w.heap.size w (w.alloc (.cells #[.int .i64 0, .int .i64 10, .bool f, .int .i64 n] 32))) := Lib.hid ((Below.refl _ _).alloc (Nat.le_refl _) _)
    generalize w.alloc (.cells #[.int .i64 0, .int .i64 10, .bool f, .int .i64 n] 32) = W at *
    have hz0 := HB.out.size
    generalize hbx : w.heap.size = bx at *
    obtain ⟨k0, k1, k2, k3, f0, f1, f2, f3⟩ := head_facts HH.out
    clear f0 f1 f2 f3 HH
    go_wp2_with fail
    refine (HS.out _).mono ?_
    rintro e w1 ⟨s1, rfl, hs1, hb1⟩
    have hz := hb1.size
    go_wp2_with fail
    refine (HO.out _ _ _).mono ?_
    rintro e w2 ⟨v, rfl, hk2, hn2, hb2⟩
    have hbf : Below bx w w2 := HB.out.trans ((hb1.mono hz0).trans (hb2.mono (by omega)))
    have hkb : ∀ kb, w1.heap.size ≤ kb → bx ≤ kb := fun kb h => by omega
    have HK2 := Lib.hid hk2
    have HN2 := Lib.hid hn2
    clear hb1 hb2 hk2 hn2 HO HS
    go_wp2
    go_returns
    refine ⟨_, rfl, ?_, fun hB => ?_, by rw [hbx]; exact hbf⟩
    ·cases B
     ·exact .inl (HN2.out rfl)
     ·obtain ⟨kb, h, _⟩ := HK2.out rfl
      exact .inr (.inr ⟨_, _, h⟩)
    ·have hB : B = true := by simpa using hB
     obtain ⟨kb, e1, e2, e3⟩ := HK2.out hB
     exact ⟨kb, by rw [hbx]; exact hkb kb e2, .inl ⟨h1, e1, by have := hs1 hB; subst this; exact e3⟩⟩
  ·have n1 : (t == 1) = false := by unfold isNum at h1; simp; omega
   have n2 : (t == 2) = false := by unfold isNum at h1; simp; omega
   have n5 : (t == 5) = false := by unfold isNum at h1; simp; omega
   have n10 : (t == 10) = false := by unfold isNum at h1; simp; omega
   by_cases h6 : t = 6
   ·subst h6
    have HS := Lib.hid (oidStart_v n)
    have HO := Lib.hid oidBe_any
    clear e0 e16 e17 ht n1 n2 n5 n10 h1
    generalize vOk 6 n [] = B at *
    go_enter Try.func39, Try.ntmps39
    go_upto_region 1 with (fail)
    have HH : Hid (Row (w.alloc (.cells #[.int .i64 0, .int .i64 6, .bool f, .int .i64 n] 32)) w.heap.size 32 (hdC 0 6 f n)) := Lib.hid (Row.new w 32 (hdC 0 6 f n))
    have HB : Hid (Below w.heap.size w (w.alloc (.cells #[.int .i64 0, .int .i64 6, .bool f, .int .i64 n] 32))) := Lib.hid ((Below.refl _ _).alloc (Nat.le_refl _) _)
    generalize w.alloc (.cells #[.int .i64 0, .int .i64 6, .bool f, .int .i64 n] 32) = W at *
    have hz0 := HB.out.size
    generalize hbx : w.heap.size = bx at *
    obtain ⟨k0, k1, k2, k3, f0, f1, f2, f3⟩ := head_facts HH.out
    clear f0 f1 f2 f3 HH
    go_wp2_with fail
    refine (HS.out _).mono ?_
    rintro e w1 ⟨x1, rfl, hs1, hb1⟩
    have hz := hb1.size
    go_wp2_with fail
    refine (HO.out _ _ _ _).mono ?_
    rintro e w2 ⟨v, rfl, hk2, hn2, hb2⟩
    have hbf : Below bx w w2 := HB.out.trans ((hb1.mono hz0).trans (hb2.mono (by omega)))
    have hkb : ∀ kb, w1.heap.size ≤ kb → bx ≤ kb := fun kb h => by omega
    have HK2 := Lib.hid hk2
    have HN2 := Lib.hid hn2
    clear hb1 hb2 hk2 hn2 HO HS
    go_wp2
    go_returns
    refine ⟨_, rfl, ?_, fun hB => ?_, by rw [hbx]; exact hbf⟩
    ·cases B
     ·exact .inl (HN2.out rfl)
     ·obtain ⟨kb, h, _⟩ := HK2.out rfl
      exact .inr (.inr ⟨_, _, h⟩)
    ·have hB : B = true := by simpa using hB
     obtain ⟨kb, e1, e2, e3⟩ := HK2.out hB
     exact ⟨kb, by rw [hbx]; exact hkb kb e2, .inr (.inl ⟨rfl, e1, by have := hs1 hB; subst this; exact e3⟩)⟩
   ·have e6 : (t == 6) = false := by simpa using h6
    by_cases h3 : t = 3
    ·subst h3
     have HS := Lib.hid (bsStart_v n)
     have HO := Lib.hid bitsBe_any
     clear e0 e16 e17 ht n1 n2 n5 n10 h1 e6 h6
     generalize vOk 3 n [] = B at *
     go_enter Try.func39, Try.ntmps39
     go_upto_region 1 with (fail)
     have HH : Hid (Row (w.alloc (.cells #[.int .i64 0, .int .i64 3, .bool f, .int .i64 n] 32)) w.heap.size 32 (hdC 0 3 f n)) := Lib.hid (Row.new w 32 (hdC 0 3 f n))
     have HB : Hid (Below w.heap.size w (w.alloc (.cells #[.int .i64 0, .int .i64 3, .bool f, .int .i64 n] 32))) := Lib.hid ((Below.refl _ _).alloc (Nat.le_refl _) _)
     generalize w.alloc (.cells #[.int .i64 0, .int .i64 3, .bool f, .int .i64 n] 32) = W at *
     have hz0 := HB.out.size
     generalize hbx : w.heap.size = bx at *
     obtain ⟨k0, k1, k2, k3, f0, f1, f2, f3⟩ := head_facts HH.out
     clear f0 f1 f2 f3 HH
     go_wp2_with fail
     refine (HS.out _).mono ?_
     rintro e w1 ⟨x1, rfl, hs1, hb1⟩
     have hz := hb1.size
     go_wp2_with fail
     refine (HO.out _ _ _ _ _).mono ?_
     rintro e w2 ⟨v, rfl, hk2, hn2, hb2⟩
     have hbf : Below bx w w2 := HB.out.trans ((hb1.mono hz0).trans (hb2.mono (by omega)))
     have hkb : ∀ kb, w1.heap.size ≤ kb → bx ≤ kb := fun kb h => by omega
     have HK2 := Lib.hid hk2
     have HN2 := Lib.hid hn2
     clear hb1 hb2 hk2 hn2 HO HS
     go_wp2
     go_returns
     refine ⟨_, rfl, ?_, fun hB => ?_, by rw [hbx]; exact hbf⟩
     ·cases B
      ·exact .inl (HN2.out rfl)
      ·obtain ⟨kb, h, _⟩ := HK2.out rfl
       exact .inr (.inr ⟨_, _, h⟩)
     ·have hB : B = true := by simpa using hB
      obtain ⟨kb, e1, e2, e3⟩ := HK2.out hB
      exact ⟨kb, by rw [hbx]; exact hkb kb e2, .inr (.inr (.inl ⟨rfl, e1, by have := hs1 hB; subst this; exact e3⟩))⟩
    ·have e3 : (t == 3) = false := by simpa using h3
     by_cases h4 : isWhen t
     ·have h4' := h4
      unfold isWhen at h4'
      rcases h4' with rfl | rfl
      ·have HS := Lib.hid (whenStart_v (n := n) h4)
       have HO := Lib.hid whenBe_any
       clear e0 e16 e17 ht n1 n2 n5 n10 h1 e6 h6 e3 h3
       generalize vOk 23 n [] = B at *
       go_enter Try.func39, Try.ntmps39
       go_upto_region 1 with (fail)
       have HH : Hid (Row (w.alloc (.cells #[.int .i64 0, .int .i64 23, .bool f, .int .i64 n] 32)) w.heap.size 32 (hdC 0 23 f n)) := Lib.hid (Row.new w 32 (hdC 0 23 f n))
       have HB : Hid (Below w.heap.size w (w.alloc (.cells #[.int .i64 0, .int .i64 23, .bool f, .int .i64 n] 32))) := Lib.hid ((Below.refl _ _).alloc (Nat.le_refl _) _)
       generalize w.alloc (.cells #[.int .i64 0, .int .i64 23, .bool f, .int .i64 n] 32) = W at *
       have hz0 := HB.out.size
       generalize hbx : w.heap.size = bx at *
       obtain ⟨k0, k1, k2, k3, f0, f1, f2, f3⟩ := head_facts HH.out
       clear f0 f1 f2 f3 HH
       go_wp2_with fail
       refine (HS.out _).mono ?_
       rintro e w1 ⟨⟨p1, q1, v1, y1, m1⟩, rfl, hs1, hb1⟩
       have hz := hb1.size
       go_wp2_with fail
       refine (HO.out _ _ _ _ _ _ _).mono ?_
       rintro e w2 ⟨v, rfl, hk2, hn2, hb2⟩
       have hbf : Below bx w w2 := HB.out.trans ((hb1.mono hz0).trans (hb2.mono (by omega)))
       have hkb : ∀ kb, w1.heap.size ≤ kb → bx ≤ kb := fun kb h => by omega
       have HK2 := Lib.hid hk2
       have HN2 := Lib.hid hn2
       clear hb1 hb2 hk2 hn2 HO HS
       go_wp2
       go_returns
       refine ⟨_, rfl, ?_, fun hB => ?_, by rw [hbx]; exact hbf⟩
       ·cases B
        ·exact .inl (HN2.out rfl)
        ·obtain ⟨kb, h, _⟩ := HK2.out rfl
         exact .inr (.inr ⟨_, _, h⟩)
       ·have hB : B = true := by simpa using hB
        obtain ⟨kb, e1, e2, e3⟩ := HK2.out hB
        exact ⟨kb, by rw [hbx]; exact hkb kb e2, .inr (.inr (.inr (.inl ⟨h4, e1, by have := hs1 hB; rw [← this]; exact e3⟩)))⟩
      ·have HS := Lib.hid (whenStart_v (n := n) h4)
       have HO := Lib.hid whenBe_any
       clear e0 e16 e17 ht n1 n2 n5 n10 h1 e6 h6 e3 h3
       generalize vOk 24 n [] = B at *
       go_enter Try.func39, Try.ntmps39
       go_upto_region 1 with (fail)
       have HH : Hid (Row (w.alloc (.cells #[.int .i64 0, .int .i64 24, .bool f, .int .i64 n] 32)) w.heap.size 32 (hdC 0 24 f n)) := Lib.hid (Row.new w 32 (hdC 0 24 f n))
       have HB : Hid (Below w.heap.size w (w.alloc (.cells #[.int .i64 0, .int .i64 24, .bool f, .int .i64 n] 32))) := Lib.hid ((Below.refl _ _).alloc (Nat.le_refl _) _)
       generalize w.alloc (.cells #[.int .i64 0, .int .i64 24, .bool f, .int .i64 n] 32) = W at *
       have hz0 := HB.out.size
       generalize hbx : w.heap.size = bx at *
       obtain ⟨k0, k1, k2, k3, f0, f1, f2, f3⟩ := head_facts HH.out
       clear f0 f1 f2 f3 HH
       go_wp2_with fail
       refine (HS.out _).mono ?_
       rintro e w1 ⟨⟨p1, q1, v1, y1, m1⟩, rfl, hs1, hb1⟩
       have hz := hb1.size
       go_wp2_with fail
       refine (HO.out _ _ _ _ _ _ _).mono ?_
       rintro e w2 ⟨v, rfl, hk2, hn2, hb2⟩
       have hbf : Below bx w w2 := HB.out.trans ((hb1.mono hz0).trans (hb2.mono (by omega)))
       have hkb : ∀ kb, w1.heap.size ≤ kb → bx ≤ kb := fun kb h => by omega
       have HK2 := Lib.hid hk2
       have HN2 := Lib.hid hn2
       clear hb1 hb2 hk2 hn2 HO HS
       go_wp2
       go_returns
       refine ⟨_, rfl, ?_, fun hB => ?_, by rw [hbx]; exact hbf⟩
       ·cases B
        ·exact .inl (HN2.out rfl)
        ·obtain ⟨kb, h, _⟩ := HK2.out rfl
         exact .inr (.inr ⟨_, _, h⟩)
       ·have hB : B = true := by simpa using hB
        obtain ⟨kb, e1, e2, e3⟩ := HK2.out hB
        exact ⟨kb, by rw [hbx]; exact hkb kb e2, .inr (.inr (.inr (.inl ⟨h4, e1, by have := hs1 hB; rw [← this]; exact e3⟩)))⟩
     ·have e23 : (t == 23) = false := by unfold isWhen at h4; simp; omega
      have e24 : (t == 24) = false := by unfold isWhen at h4; simp; omega
      have h7 : isText t := by unfold isText; unfold isNum at h1; unfold isWhen at h4; omega
      generalize hS0 : tSt t n [] = S at *
      have HS := Lib.hid (textStart_v h7 hn)
      have HO := Lib.hid textBe_any
      rw [hS0] at HS
      have HS0 := Lib.hid hS0
      clear hS0
      obtain ⟨p1, q1, v1, y1, m1⟩ := S
      clear h1 h6 h3 h4 ht hn
      generalize vOk t n [] = B at *
      go_enter Try.func39, Try.ntmps39
      go_upto_region 1 with (fail)
      have HH : Hid (Row (w.alloc (.cells #[.int .i64 0, .int .i64 t, .bool f, .int .i64 n] 32)) w.heap.size 32 (hdC 0 t f n)) := Lib.hid (Row.new w 32 (hdC 0 t f n))
      have HB : Hid (Below w.heap.size w (w.alloc (.cells #[.int .i64 0, .int .i64 t, .bool f, .int .i64 n] 32))) := Lib.hid ((Below.refl _ _).alloc (Nat.le_refl _) _)
      generalize w.alloc (.cells #[.int .i64 0, .int .i64 t, .bool f, .int .i64 n] 32) = W at *
      have hz0 := HB.out.size
      generalize hbx : w.heap.size = bx at *
      obtain ⟨k0, k1, k2, k3, f0, f1, f2, f3⟩ := head_facts HH.out
      clear f0 f1 f2 f3 HH
      go_wp2_with fail
      refine (HS.out _).mono ?_
      rintro e w1 ⟨rfl, rfl, hb1⟩
      have hz := hb1.size
      go_wp2_with fail
      refine (HO.out _ _ _ _ _ _ _).mono ?_
      rintro e w2 ⟨v, rfl, hk2, hn2, hb2⟩
      have hbf : Below bx w w2 := HB.out.trans ((hb1.mono hz0).trans (hb2.mono (by omega)))
      have hkb : ∀ kb, w1.heap.size ≤ kb → bx ≤ kb := fun kb h => by omega
      have HK2 := Lib.hid hk2
      have HN2 := Lib.hid hn2
      clear hb1 hb2 hk2 hn2 HO HS
      go_wp2
      go_returns
      refine ⟨_, rfl, ?_, fun hB => ?_, by rw [hbx]; exact hbf⟩
      ·skip
       ·obtain ⟨kb, h, _⟩ := HK2.out trivial
        exact .inr (.inr ⟨_, _, h⟩)
      ·obtain ⟨kb, e1, e2, e3⟩ := HK2.out trivial
       exact ⟨kb, by rw [hbx]; exact hkb kb e2, .inr (.inr (.inr (.inr ⟨h7, e1, by rw [show (⟨0, t, n, []⟩ : VC).t = t from rfl, show (⟨0, t, n, []⟩ : VC).n = n from rfl, show (⟨0, t, n, []⟩ : VC).l = [] from rfl, HS0.out]; exact e3⟩)))⟩
def Nx (w : World) (k : Nat) (F : Nat → Prop) (v : Value) (cur : Option VC) : Prop :=
 ∀ q, cur = some q → IsB q.l ∧ ((¬ q.c = 0 ∧ v = anyFn) ∨ (q.c = 0 ∧ vOk q.t q.n q.l = true ∧ ∃ kb, kb ≠ k ∧ F kb ∧ Tk w kb v q))
theorem chg_lt {k : Nat} {F : Nat → Prop} {w : World} (h : ∀ i, F i → i < w.heap.size) (W : World) (hc : Chg (fun i => i = k) w W) : ∀ i, F i → i < W.heap.size := fun i hi => Nat.lt_of_lt_of_le (h i hi) hc.size
theorem setk_heap (w : World) (k o : Nat) (v : Value) {kb : Nat} (h : kb ≠ k) : (w.setCell ⟨k, o, none⟩ v).heap[kb]? = w.heap[kb]? := Below.heap_setCell w _ v kb h
theorem setk_size (w : World) (k o : Nat) (v : Value) : (w.setCell ⟨k, o, none⟩ v).heap.size = w.heap.size := by simp
theorem chg_call {F : Nat → Prop} {w W X w5 : World} (h : Chg F w W) (hh : X.heap = W.heap) (h1 : X.os = W.os) (h2 : X.tape = W.tape) (h3 : X.output = W.output) (hb : Below X.heap.size X w5) : Chg F w w5 :=
 ⟨hb.os.trans (h1.trans h.os), hb.tape.trans (h2.trans h.tape), hb.output.trans (h3.trans h.output), Nat.le_trans h.size (by rw [← hh]; exact hb.size), fun i hi hn => (hb.block i (by rw [hh]; exact Nat.lt_of_lt_of_le hi h.size)).trans (by rw [hh]; exact h.block i hi hn)⟩
theorem tk_call {w : World} {kb : Nat} {v : Value} {q : VC} (h : Tk w kb v q) (hB : IsB q.l) (hv : vOk q.t q.n q.l = true) (hl : (q.l.length : Int) < q.n) (hn9 : q.n ≤ 9223372036854775807) (b : Int) (hb : 0 ≤ b ∧ b ≤ 255) :
  ∃ K, v = fnPtr K kb ∧ (K = 59 ∨ K = 62 ∨ K = 63 ∨ K = 64 ∨ K = 65) ∧
   (vOk q.t q.n (q.l ++ [b]) = true → ∀ W : World, W.heap = w.heap → Calls Try.prog K #[.int .u8 b, .pointer (some ⟨kb, 0, none⟩)] W fun e w' => ∃ k2, e = .returned (.tuple #[fnPtr K k2, .bool true]) ∧ W.heap.size ≤ k2 ∧ Tk w' k2 (fnPtr K k2) (q.and b) ∧ Below W.heap.size W w') ∧
   (vOk q.t q.n (q.l ++ [b]) = false → ∀ W : World, W.heap = w.heap → Calls Try.prog K #[.int .u8 b, .pointer (some ⟨kb, 0, none⟩)] W fun e w' => e = .returned (.tuple #[.nilFunc, .bool false]) ∧ Below W.heap.size W w') := by
 obtain ⟨c, t, n, l⟩ := q
 simp only at *
 have key : ∀ (W : World), W.heap = w.heap → ∀ T L, Row w kb T L → Row W kb T L := fun W hW T L hR => by unfold Row; rw [hW]; exact hR
 rcases h with ⟨h1, rfl, hR⟩ | ⟨rfl, rfl, hR⟩ | ⟨rfl, rfl, hR⟩ | ⟨h1, rfl, hR⟩ | ⟨h1, rfl, hR⟩
 ·refine ⟨_, rfl, .inl rfl, fun hB2 W hW => (numFn_any h1 hv hl hn9 b hb (key W hW _ _ hR)).mono ?_, fun hB2 W hW => (numFn_any h1 hv hl hn9 b hb (key W hW _ _ hR)).mono ?_⟩
  ·rintro e w' ⟨v2, e1, e2, e3, e4⟩
   obtain ⟨k2, g1, g2, g3⟩ := e2 hB2
   rw [hB2, g1] at e1
   exact ⟨k2, e1, g2, .inl ⟨h1, rfl, g3⟩, e4⟩
  ·rintro e w' ⟨v2, e1, e2, e3, e4⟩
   rw [hB2, e3 hB2] at e1
   exact ⟨e1, e4⟩
 ·refine ⟨_, rfl, .inr (.inl rfl), fun hB2 W hW => (oidFn_any hv hl hn9 b hb (key W hW _ _ hR)).mono ?_, fun hB2 W hW => (oidFn_any hv hl hn9 b hb (key W hW _ _ hR)).mono ?_⟩
  ·rintro e w' ⟨v2, e1, e2, e3, e4⟩
   obtain ⟨k2, g1, g2, g3⟩ := e2 hB2
   rw [hB2, g1] at e1
   exact ⟨k2, e1, g2, .inr (.inl ⟨rfl, rfl, g3⟩), e4⟩
  ·rintro e w' ⟨v2, e1, e2, e3, e4⟩
   rw [hB2, e3 hB2] at e1
   exact ⟨e1, e4⟩
 ·refine ⟨_, rfl, .inr (.inr (.inl rfl)), fun hB2 W hW => (bitsFn_any hB hv hl hn9 b hb (key W hW _ _ hR)).mono ?_, fun hB2 W hW => (bitsFn_any hB hv hl hn9 b hb (key W hW _ _ hR)).mono ?_⟩
  ·rintro e w' ⟨v2, e1, e2, e3, e4⟩
   obtain ⟨k2, g1, g2, g3⟩ := e2 hB2
   rw [hB2, g1] at e1
   exact ⟨k2, e1, g2, .inr (.inr (.inl ⟨rfl, rfl, g3⟩)), e4⟩
  ·rintro e w' ⟨v2, e1, e2, e3, e4⟩
   rw [hB2, e3 hB2] at e1
   exact ⟨e1, e4⟩
 ·refine ⟨_, rfl, .inr (.inr (.inr (.inl rfl))), fun hB2 W hW => (whenFn_any h1 hv hl hn9 b hb (key W hW _ _ hR)).mono ?_, fun hB2 W hW => (whenFn_any h1 hv hl hn9 b hb (key W hW _ _ hR)).mono ?_⟩
  ·rintro e w' ⟨v2, e1, e2, e3, e4⟩
   obtain ⟨k2, g1, g2, g3⟩ := e2 hB2
   rw [hB2, g1] at e1
   exact ⟨k2, e1, g2, .inr (.inr (.inr (.inl ⟨h1, rfl, g3⟩))), e4⟩
  ·rintro e w' ⟨v2, e1, e2, e3, e4⟩
   rw [hB2, e3 hB2] at e1
   exact ⟨e1, e4⟩
 ·refine ⟨_, rfl, .inr (.inr (.inr (.inr rfl))), fun hB2 W hW => (textFn_any h1 hv hl hn9 b hb (key W hW _ _ hR)).mono ?_, fun hB2 W hW => (textFn_any h1 hv hl hn9 b hb (key W hW _ _ hR)).mono ?_⟩
  ·rintro e w' ⟨v2, e1, e2, e3, e4⟩
   obtain ⟨k2, g1, g2, g3⟩ := e2 hB2
   rw [hB2, g1] at e1
   exact ⟨k2, e1, g2, .inr (.inr (.inr (.inr (⟨h1, rfl, g3⟩)))), e4⟩
  ·rintro e w' ⟨v2, e1, e2, e3, e4⟩
   rw [hB2, e3 hB2] at e1
   exact ⟨e1, e4⟩
set_option maxRecDepth 100000 in
set_option maxHeartbeats 16000000 in
theorem take_enter {w : World} {k : Nat} {F : Nat → Prop} {v : Value} {s : VS} (hR : Row w k 57 [v, .int .i64 0]) (hb0 : s.bad = false) (hv : FnV v) (hF : F k) (hl : ∀ i, F i → i < w.heap.size) (hN : Nx w k F v s.cur) (p c t : Int) (f : Bool) (n b : Int) (hok : s.Ok) (hf : s.fits ⟨1, p, c, t, f, n, b⟩) :
  Calls Try.prog 25 #[.pointer (some ⟨k, 0, none⟩), .agg #[.int .i64 1, .int .i64 p, .int .i64 c, .int .i64 t, .bool f, .int .i64 n, .int .u8 b]] w fun r w' => ∃ v' F', r = .returned (.bool (!(s.next ⟨1, p, c, t, f, n, b⟩).bad)) ∧ Row w' k 57 [v', .int .i64 0] ∧ FnV v' ∧ F' k ∧ (∀ i, F' i → i < w'.heap.size) ∧ ((s.next ⟨1, p, c, t, f, n, b⟩).bad = false → Nx w' k F' v' (s.next ⟨1, p, c, t, f, n, b⟩).cur) ∧ (∀ i, F' i → F i ∨ w.heap.size ≤ i) ∧ Chg (fun i => i = k) w w' := by
 have HFl := Lib.hid (chg_lt (k := k) hl)
 have hs : s.next ⟨1, p, c, t, f, n, b⟩ = ⟨false || decide (c = 0 ∧ ¬ t = 16 ∧ ¬ t = 17), none⟩ := by rw [VS.next1 rfl, hb0]
 have h2 : (s.next ⟨1, p, c, t, f, n, b⟩).cur = none := by rw [hs]
 have hbd : (s.next ⟨1, p, c, t, f, n, b⟩).bad = decide (c = 0 ∧ ¬ t = 16 ∧ ¬ t = 17) := by rw [hs, Bool.false_or]
 have HE := Lib.hid (canEnter_v c t f n)
 rw [← hbd] at HE
 clear hs hok hf hN hb0 hl hbd
 generalize s.next ⟨1, p, c, t, f, n, b⟩ = s2 at *
 go_enter Try.func25, Try.ntmps25
 go_upto_region 1 with (fail)
 have HX : Hid (Row (w.alloc (.cells #[.int .i64 1, .int .i64 p, .int .i64 c, .int .i64 t, .bool f, .int .i64 n, .int .u8 b] 34)) w.heap.size 34 (evC ⟨1, p, c, t, f, n, b⟩)) := Lib.hid (Row.new w 34 (evC ⟨1, p, c, t, f, n, b⟩))
 have hbb : Below w.heap.size w (w.alloc (.cells #[.int .i64 1, .int .i64 p, .int .i64 c, .int .i64 t, .bool f, .int .i64 n, .int .u8 b] 34)) := (Below.refl _ _).alloc (Nat.le_refl _) _
 have HK := Lib.hid (hR.below hbb hR.lt)
 have hkw := hR.lt
 have hsz := hbb.size
 have HC1 : Hid (Chg (fun i => i = k) w (w.alloc (.cells #[.int .i64 1, .int .i64 p, .int .i64 c, .int .i64 t, .bool f, .int .i64 n, .int .u8 b] 34))) := Lib.hid (Chg.of_below hbb)
 clear hbb hR
 generalize w.alloc (.cells #[.int .i64 1, .int .i64 p, .int .i64 c, .int .i64 t, .bool f, .int .i64 n, .int .u8 b] 34) = W at *
 generalize hbx : w.heap.size = bx at *
 obtain ⟨y0, y1, y2, y3, y4, y5, y6⟩ := ev_facts HX.out
 have c0 : W.cell? ⟨k, 0, none⟩ = some v := HK.out.cell 0
 have g0 := HK.out.frozen 0
 go_wp2_with fail
 refine (HE.out _).mono ?_
 rintro r w2 ⟨rfl, hb2⟩
 have HK2 := Lib.hid (HK.out.below hb2 HK.out.lt)
 have HC2 := Lib.hid (HC1.out.trans (Chg.of_below (F := fun i => i = k) hb2) (fun i hi => .inl hi))
 clear hb2 HK HE y0 y1 y2 y3 y4 y5 y6 HX c0 g0
 go_wp2
 go_returns
 exact ⟨v, F, rets1 rfl, HK2.out, hv, hF, HFl.out _ HC2.out, (fun _ q hq => by rw [h2] at hq; cases hq), fun i hi => .inl hi, HC2.out⟩
set_option maxRecDepth 100000 in
set_option maxHeartbeats 16000000 in
theorem take_leafOther {w : World} {k : Nat} {F : Nat → Prop} {v : Value} {s : VS} (hR : Row w k 57 [v, .int .i64 0]) (hb0 : s.bad = false) (hv : FnV v) (hF : F k) (hl : ∀ i, F i → i < w.heap.size) (hN : Nx w k F v s.cur) (p c t : Int) (f : Bool) (n b : Int) (hok : s.Ok) (hf : s.fits ⟨2, p, c, t, f, n, b⟩) (hc : ¬ c = 0) :
  Calls Try.prog 25 #[.pointer (some ⟨k, 0, none⟩), .agg #[.int .i64 2, .int .i64 p, .int .i64 c, .int .i64 t, .bool f, .int .i64 n, .int .u8 b]] w fun r w' => ∃ v' F', r = .returned (.bool (!(s.next ⟨2, p, c, t, f, n, b⟩).bad)) ∧ Row w' k 57 [v', .int .i64 0] ∧ FnV v' ∧ F' k ∧ (∀ i, F' i → i < w'.heap.size) ∧ ((s.next ⟨2, p, c, t, f, n, b⟩).bad = false → Nx w' k F' v' (s.next ⟨2, p, c, t, f, n, b⟩).cur) ∧ (∀ i, F' i → F i ∨ w.heap.size ≤ i) ∧ Chg (fun i => i = k) w w' := by
 have HFl := Lib.hid (chg_lt (k := k) hl)
 have hs : s.next ⟨2, p, c, t, f, n, b⟩ = ⟨false || vBad ⟨c, t, n, []⟩, some ⟨c, t, n, []⟩⟩ := by rw [VS.next2 rfl, hb0]
 have h2 : (s.next ⟨2, p, c, t, f, n, b⟩).cur = some ⟨c, t, n, []⟩ := by rw [hs]
 have h1 : (s.next ⟨2, p, c, t, f, n, b⟩).bad = false := by rw [hs, Bool.false_or]; exact vBad_other hc
 have HE := Lib.hid (begin_other c t f n hc)
 clear hs hok hf hN hb0 hl
 generalize s.next ⟨2, p, c, t, f, n, b⟩ = s2 at *
 have H1 := Lib.hid h1
 clear h1
 go_enter Try.func25, Try.ntmps25
 go_upto_region 1 with (fail)
 have HX : Hid (Row (w.alloc (.cells #[.int .i64 2, .int .i64 p, .int .i64 c, .int .i64 t, .bool f, .int .i64 n, .int .u8 b] 34)) w.heap.size 34 (evC ⟨2, p, c, t, f, n, b⟩)) := Lib.hid (Row.new w 34 (evC ⟨2, p, c, t, f, n, b⟩))
 have hbb : Below w.heap.size w (w.alloc (.cells #[.int .i64 2, .int .i64 p, .int .i64 c, .int .i64 t, .bool f, .int .i64 n, .int .u8 b] 34)) := (Below.refl _ _).alloc (Nat.le_refl _) _
 have HK := Lib.hid (hR.below hbb hR.lt)
 have hkw := hR.lt
 have hsz := hbb.size
 have HC1 : Hid (Chg (fun i => i = k) w (w.alloc (.cells #[.int .i64 2, .int .i64 p, .int .i64 c, .int .i64 t, .bool f, .int .i64 n, .int .u8 b] 34))) := Lib.hid (Chg.of_below hbb)
 clear hbb hR
 generalize w.alloc (.cells #[.int .i64 2, .int .i64 p, .int .i64 c, .int .i64 t, .bool f, .int .i64 n, .int .u8 b] 34) = W at *
 generalize hbx : w.heap.size = bx at *
 obtain ⟨y0, y1, y2, y3, y4, y5, y6⟩ := ev_facts HX.out
 have c0 : W.cell? ⟨k, 0, none⟩ = some v := HK.out.cell 0
 have g0 := HK.out.frozen 0
 go_wp2_with fail
 refine (HE.out _).mono ?_
 rintro r w2 ⟨rfl, hb2⟩
 have HK2 := Lib.hid (HK.out.below hb2 HK.out.lt)
 have HC2 := Lib.hid (HC1.out.trans (Chg.of_below (F := fun i => i = k) hb2) (fun i hi => .inl hi))
 have c0 : w2.cell? ⟨k, 0, none⟩ = some v := HK2.out.cell 0
 have g0 := HK2.out.frozen 0
 clear hb2 HK HE y0 y1 y2 y3 y4 y5 y6 HX
 go_wp2
 go_returns
 refine ⟨_, F, rets1 (congrArg Value.bool (by rw [H1.out]; rfl)), HK2.out.set 0 anyFn, .inr (.inl rfl), hF, (fun i hi => by rw [setk_size]; exact HFl.out w2 HC2.out i hi), (fun _ q hq => ?_), fun i hi => .inl hi, HC2.out.setAt rfl 0 anyFn⟩
 rw [h2] at hq
 cases hq
 exact ⟨IsB.nil, .inl ⟨hc, rfl⟩⟩
set_option maxRecDepth 100000 in
set_option maxHeartbeats 16000000 in
theorem take_leaf {w : World} {k : Nat} {F : Nat → Prop} {v : Value} {s : VS} (hR : Row w k 57 [v, .int .i64 0]) (hb0 : s.bad = false) (hv : FnV v) (hF : F k) (hl : ∀ i, F i → i < w.heap.size) (hN : Nx w k F v s.cur) (p t : Int) (f : Bool) (n b : Int) (hok : s.Ok) (hf : s.fits ⟨2, p, 0, t, f, n, b⟩) :
  Calls Try.prog 25 #[.pointer (some ⟨k, 0, none⟩), .agg #[.int .i64 2, .int .i64 p, .int .i64 0, .int .i64 t, .bool f, .int .i64 n, .int .u8 b]] w fun r w' => ∃ v' F', r = .returned (.bool (!(s.next ⟨2, p, 0, t, f, n, b⟩).bad)) ∧ Row w' k 57 [v', .int .i64 0] ∧ FnV v' ∧ F' k ∧ (∀ i, F' i → i < w'.heap.size) ∧ ((s.next ⟨2, p, 0, t, f, n, b⟩).bad = false → Nx w' k F' v' (s.next ⟨2, p, 0, t, f, n, b⟩).cur) ∧ (∀ i, F' i → F i ∨ w.heap.size ≤ i) ∧ Chg (fun i => i = k) w w' := by
 have HFl := Lib.hid (chg_lt (k := k) hl)
 have hs : s.next ⟨2, p, 0, t, f, n, b⟩ = ⟨false || vBad ⟨0, t, n, []⟩, some ⟨0, t, n, []⟩⟩ := by rw [VS.next2 rfl, hb0]
 have h2 : (s.next ⟨2, p, 0, t, f, n, b⟩).cur = some ⟨0, t, n, []⟩ := by rw [hs]
 have hbd : (s.next ⟨2, p, 0, t, f, n, b⟩).bad = vBad ⟨0, t, n, []⟩ := by rw [hs, Bool.false_or]
 have HE := Lib.hid (begin_v t f n hf.n.1)
 rw [← hbd] at HE
 have HBd := Lib.hid hbd
 clear hs hok hf hN hb0 hl hbd
 generalize s.next ⟨2, p, 0, t, f, n, b⟩ = s2 at *
 go_enter Try.func25, Try.ntmps25
 go_upto_region 1 with (fail)
 have HX : Hid (Row (w.alloc (.cells #[.int .i64 2, .int .i64 p, .int .i64 0, .int .i64 t, .bool f, .int .i64 n, .int .u8 b] 34)) w.heap.size 34 (evC ⟨2, p, 0, t, f, n, b⟩)) := Lib.hid (Row.new w 34 (evC ⟨2, p, 0, t, f, n, b⟩))
 have hbb : Below w.heap.size w (w.alloc (.cells #[.int .i64 2, .int .i64 p, .int .i64 0, .int .i64 t, .bool f, .int .i64 n, .int .u8 b] 34)) := (Below.refl _ _).alloc (Nat.le_refl _) _
 have HK := Lib.hid (hR.below hbb hR.lt)
 have hkw := hR.lt
 have hsz := hbb.size
 have HC1 : Hid (Chg (fun i => i = k) w (w.alloc (.cells #[.int .i64 2, .int .i64 p, .int .i64 0, .int .i64 t, .bool f, .int .i64 n, .int .u8 b] 34))) := Lib.hid (Chg.of_below hbb)
 clear hbb hR
 generalize w.alloc (.cells #[.int .i64 2, .int .i64 p, .int .i64 0, .int .i64 t, .bool f, .int .i64 n, .int .u8 b] 34) = W at *
 generalize hbx : w.heap.size = bx at *
 obtain ⟨y0, y1, y2, y3, y4, y5, y6⟩ := ev_facts HX.out
 have c0 : W.cell? ⟨k, 0, none⟩ = some v := HK.out.cell 0
 have g0 := HK.out.frozen 0
 go_wp2_with fail
 refine (HE.out _).mono ?_
 rintro r w2 ⟨v2, rfl, hv2, hT2, hb2⟩
 have HK2 := Lib.hid (HK.out.below hb2 HK.out.lt)
 have HC2 := Lib.hid (HC1.out.trans (Chg.of_below (F := fun i => i = k) hb2) (fun i hi => .inl hi))
 have hW := HK.out.lt
 have hz2 := hb2.size
 have c0 : w2.cell? ⟨k, 0, none⟩ = some v := HK2.out.cell 0
 have g0 := HK2.out.frozen 0
 have HT := Lib.hid hT2
 have HV2 : Hid (FnV v2) := Lib.hid hv2
 clear hb2 hT2 HE HK y0 y1 y2 y3 y4 y5 y6 HX
 rcases hv2 with rfl | rfl | ⟨K2, kb2, rfl⟩
 all_goals
  go_wp2
  go_returns
  have hszk : ∀ u, (w2.setCell ⟨k, 0, none⟩ u).heap.size = w2.heap.size := fun u => setk_size w2 k 0 u
  by_cases hbd2 : s2.bad = false
  ·obtain ⟨kb, hk1, hT3⟩ := HT.out hbd2
   have hne : kb ≠ k := by omega
   obtain ⟨tt, ll, hrow⟩ := hT3.row
   have hlt := hrow.lt
   refine ⟨_, fun i => i = k ∨ i = kb, rets1 rfl, HK2.out.set 0 _, HV2.out, .inl rfl, (fun i hi => by rw [hszk]; rcases hi with h | h <;> omega), (fun _ q hq => ?_), (fun i hi => by rcases hi with h | h; exact .inl (h ▸ hF); exact .inr (by omega)), HC2.out.setAt rfl 0 _⟩
   rw [h2] at hq
   cases hq
   exact ⟨IsB.nil, .inr ⟨rfl, by rw [HBd.out] at hbd2; have h := vBad_false hbd2 rfl; rw [vOk_not (by show (0 : Int) ≤ _; omega), Bool.not_eq_true']; exact decide_eq_false h.2.2.2, kb, hne, .inr rfl, hT3.same (setk_heap w2 k 0 _ hne)⟩⟩
  ·exact ⟨_, fun i => i = k, rets1 rfl, HK2.out.set 0 _, HV2.out, rfl, (fun i hi => by rw [hszk]; omega), (fun h => absurd h hbd2), (fun i hi => .inl (hi ▸ hF)), HC2.out.setAt rfl 0 _⟩
set_option maxRecDepth 100000 in
set_option maxHeartbeats 16000000 in
theorem take_byte {w : World} {k : Nat} {F : Nat → Prop} {v : Value} {s : VS} (hR : Row w k 57 [v, .int .i64 0]) (hb0 : s.bad = false) (hv : FnV v) (hF : F k) (hl : ∀ i, F i → i < w.heap.size) (hN : Nx w k F v s.cur) (p c t : Int) (f : Bool) (n b : Int) (hok : s.Ok) (hf : s.fits ⟨3, p, c, t, f, n, b⟩) :
  Calls Try.prog 25 #[.pointer (some ⟨k, 0, none⟩), .agg #[.int .i64 3, .int .i64 p, .int .i64 c, .int .i64 t, .bool f, .int .i64 n, .int .u8 b]] w fun r w' => ∃ v' F', r = .returned (.bool (!(s.next ⟨3, p, c, t, f, n, b⟩).bad)) ∧ Row w' k 57 [v', .int .i64 0] ∧ FnV v' ∧ F' k ∧ (∀ i, F' i → i < w'.heap.size) ∧ ((s.next ⟨3, p, c, t, f, n, b⟩).bad = false → Nx w' k F' v' (s.next ⟨3, p, c, t, f, n, b⟩).cur) ∧ (∀ i, F' i → F i ∨ w.heap.size ≤ i) ∧ Chg (fun i => i = k) w w' := by
 have HFl := Lib.hid (chg_lt (k := k) hl)
 obtain ⟨q, hq, hlt⟩ := hf.byte rfl
 have hfb := hf.b
 simp only at hfb
 have hs : s.next ⟨3, p, c, t, f, n, b⟩ = ⟨false || vBad (q.and b), some (q.and b)⟩ := by rw [VS.next3 rfl hq, hb0]
 have h2 : (s.next ⟨3, p, c, t, f, n, b⟩).cur = some (q.and b) := by rw [hs]
 have hbd : (s.next ⟨3, p, c, t, f, n, b⟩).bad = vBad (q.and b) := by rw [hs, Bool.false_or]
 have hqb := hok.good q hq hb0
 have hqn : q.n ≤ 2305843009213693951 := hok.top q hq
 have hql := hok.len q hq
 obtain ⟨hI, hcs⟩ := hN q hq
 have hI2 : IsB (q.and b).l := hI.append (IsB.cons hfb.1 hfb.2 IsB.nil)
 clear hs hok hf hN hb0 hq
 rcases hcs with ⟨hc, rfl⟩ | ⟨hc, hvo, kb, hkk, hFk, hT⟩
 ·have h1 : (s.next ⟨3, p, c, t, f, n, b⟩).bad = false := by rw [hbd]; exact vBad_other hc
  generalize s.next ⟨3, p, c, t, f, n, b⟩ = s2 at *
  have H1 := Lib.hid h1
  clear hbd hqb h1 hl
  go_enter Try.func25, Try.ntmps25
  go_upto_region 1 with (fail)
  have HX : Hid (Row (w.alloc (.cells #[.int .i64 3, .int .i64 p, .int .i64 c, .int .i64 t, .bool f, .int .i64 n, .int .u8 b] 34)) w.heap.size 34 (evC ⟨3, p, c, t, f, n, b⟩)) := Lib.hid (Row.new w 34 (evC ⟨3, p, c, t, f, n, b⟩))
  have hbb : Below w.heap.size w (w.alloc (.cells #[.int .i64 3, .int .i64 p, .int .i64 c, .int .i64 t, .bool f, .int .i64 n, .int .u8 b] 34)) := (Below.refl _ _).alloc (Nat.le_refl _) _
  have HK := Lib.hid (hR.below hbb hR.lt)
  have hkw := hR.lt
  have hsz := hbb.size
  have HC1 : Hid (Chg (fun i => i = k) w (w.alloc (.cells #[.int .i64 3, .int .i64 p, .int .i64 c, .int .i64 t, .bool f, .int .i64 n, .int .u8 b] 34))) := Lib.hid (Chg.of_below hbb)
  clear hbb hR
  generalize w.alloc (.cells #[.int .i64 3, .int .i64 p, .int .i64 c, .int .i64 t, .bool f, .int .i64 n, .int .u8 b] 34) = W at *
  generalize hbx : w.heap.size = bx at *
  obtain ⟨y0, y1, y2, y3, y4, y5, y6⟩ := ev_facts HX.out
  have c0 : W.cell? ⟨k, 0, none⟩ = some anyFn := HK.out.cell 0
  have g0 := HK.out.frozen 0
  have HA := Lib.hid (any_any b)
  go_upto_region 8 with (fail)
  go_region_with (first | (go_at_call 15; refine (HA.out _).mono ?_; rintro e w5 ⟨rfl, hw5⟩; subst hw5))
  all_goals
   clear y0 y1 y2 y3 y4 y5 y6 c0 g0 HA HX
   go_wp2
   go_returns
   refine ⟨_, F, rets1 (congrArg Value.bool (by rw [H1.out]; rfl)), HK.out.set 0 anyFn, .inr (.inl rfl), hF, (fun i hi => ?_), (fun _ r hr => ?_), (fun i hi => .inl hi), by have h := HC1.out.setAt rfl 0 anyFn; exact ⟨h.os, h.tape, h.output, h.size, h.block⟩⟩
   ·show i < (W.setCell ⟨k, 0, none⟩ anyFn).heap.size
    rw [setk_size]; exact HFl.out W HC1.out i hi
   ·rw [h2] at hr
    cases hr
    exact ⟨hI2, .inl ⟨hc, rfl⟩⟩
 ·have hob : (s.next ⟨3, p, c, t, f, n, b⟩).bad = !vOk q.t q.n (q.l ++ [b]) := by
   rw [hbd]
   obtain ⟨v1, v2, v3, _⟩ := vBad_false hqb hc
   have e : q.and b = ⟨0, q.t, q.n, q.l ++ [b]⟩ := by unfold VC.and; rw [hc]
   rw [e]
   exact vBad_open (by omega) (by rw [List.length_append, List.length_singleton]; omega)
  generalize s.next ⟨3, p, c, t, f, n, b⟩ = s2 at *
  clear hbd hqb
  obtain ⟨K, rfl, hK, _⟩ := tk_call hT hI hvo hlt (by have := hqn; omega) b hfb
  by_cases hvv : vOk q.t q.n (q.l ++ [b]) = true
  ·rw [hvv] at hob
   have HOb := Lib.hid hob
   clear hob
   rcases hK with rfl | rfl | rfl | rfl | rfl
   all_goals
    go_enter Try.func25, Try.ntmps25
    go_upto_region 1 with (fail)
    have HX : Hid (Row (w.alloc (.cells #[.int .i64 3, .int .i64 p, .int .i64 c, .int .i64 t, .bool f, .int .i64 n, .int .u8 b] 34)) w.heap.size 34 (evC ⟨3, p, c, t, f, n, b⟩)) := Lib.hid (Row.new w 34 (evC ⟨3, p, c, t, f, n, b⟩))
    have hbb : Below w.heap.size w (w.alloc (.cells #[.int .i64 3, .int .i64 p, .int .i64 c, .int .i64 t, .bool f, .int .i64 n, .int .u8 b] 34)) := (Below.refl _ _).alloc (Nat.le_refl _) _
    have HK := Lib.hid (hR.below hbb hR.lt)
    have hkw := hR.lt
    have hsz := hbb.size
    have HC1 : Hid (Chg (fun i => i = k) w (w.alloc (.cells #[.int .i64 3, .int .i64 p, .int .i64 c, .int .i64 t, .bool f, .int .i64 n, .int .u8 b] 34))) := Lib.hid (Chg.of_below hbb)
    clear hbb hR
    generalize w.alloc (.cells #[.int .i64 3, .int .i64 p, .int .i64 c, .int .i64 t, .bool f, .int .i64 n, .int .u8 b] 34) = W at *
    generalize hbx : w.heap.size = bx at *
    obtain ⟨y0, y1, y2, y3, y4, y5, y6⟩ := ev_facts HX.out
    have c0 : W.cell? ⟨k, 0, none⟩ = some _ := HK.out.cell 0
    have g0 := HK.out.frozen 0
    have hkb : kb < bx := hl kb hFk
    have HT2 := hT.same (HC1.out.block kb (by omega) hkk)
    obtain ⟨K', hv', _, hyes, hno⟩ := tk_call HT2 hI hvo hlt (by have := hqn; omega) b hfb
    simp only [fnPtr, Value.func.injEq, Fn.func.injEq, and_true] at hv'
    subst hv'
    have HCl := Lib.hid (hyes hvv)
    have HVv := Lib.hid hvv
    clear hyes hno HT2 hT hvv hvo
    go_upto_region 8 with (fail)
    go_region_with (first | (go_at_call 59; refine (HCl.out _ (by rfl)).mono ?_; rintro e w5 ⟨k2, rfl, hk2, hT5, hb5⟩; have HT5 := Lib.hid hT5; clear hT5; have HK5 := txRow_kept hb5 HK.out rfl; have c5 : w5.cell? ⟨k, 0, none⟩ = some _ := HK5.cell 0; have g5 := HK5.frozen 0; have HC5 := chg_call HC1.out (by rfl) (by rfl) (by rfl) (by rfl) hb5; have hk5 : W.heap.size ≤ k2 := hk2; clear hb5 hk2) | (go_at_call 62; refine (HCl.out _ (by rfl)).mono ?_; rintro e w5 ⟨k2, rfl, hk2, hT5, hb5⟩; have HT5 := Lib.hid hT5; clear hT5; have HK5 := txRow_kept hb5 HK.out rfl; have c5 : w5.cell? ⟨k, 0, none⟩ = some _ := HK5.cell 0; have g5 := HK5.frozen 0; have HC5 := chg_call HC1.out (by rfl) (by rfl) (by rfl) (by rfl) hb5; have hk5 : W.heap.size ≤ k2 := hk2; clear hb5 hk2) | (go_at_call 63; refine (HCl.out _ (by rfl)).mono ?_; rintro e w5 ⟨k2, rfl, hk2, hT5, hb5⟩; have HT5 := Lib.hid hT5; clear hT5; have HK5 := txRow_kept hb5 HK.out rfl; have c5 : w5.cell? ⟨k, 0, none⟩ = some _ := HK5.cell 0; have g5 := HK5.frozen 0; have HC5 := chg_call HC1.out (by rfl) (by rfl) (by rfl) (by rfl) hb5; have hk5 : W.heap.size ≤ k2 := hk2; clear hb5 hk2) | (go_at_call 64; refine (HCl.out _ (by rfl)).mono ?_; rintro e w5 ⟨k2, rfl, hk2, hT5, hb5⟩; have HT5 := Lib.hid hT5; clear hT5; have HK5 := txRow_kept hb5 HK.out rfl; have c5 : w5.cell? ⟨k, 0, none⟩ = some _ := HK5.cell 0; have g5 := HK5.frozen 0; have HC5 := chg_call HC1.out (by rfl) (by rfl) (by rfl) (by rfl) hb5; have hk5 : W.heap.size ≤ k2 := hk2; clear hb5 hk2) | (go_at_call 65; refine (HCl.out _ (by rfl)).mono ?_; rintro e w5 ⟨k2, rfl, hk2, hT5, hb5⟩; have HT5 := Lib.hid hT5; clear hT5; have HK5 := txRow_kept hb5 HK.out rfl; have c5 : w5.cell? ⟨k, 0, none⟩ = some _ := HK5.cell 0; have g5 := HK5.frozen 0; have HC5 := chg_call HC1.out (by rfl) (by rfl) (by rfl) (by rfl) hb5; have hk5 : W.heap.size ≤ k2 := hk2; clear hb5 hk2))
    all_goals
     clear y0 y1 y2 y3 y4 y5 y6 c0 g0 HCl HX HK
     go_wp2
     go_returns
     obtain ⟨tt, ll, hrow⟩ := HT5.out.row
     have hklt := hrow.lt
     have hne : k2 ≠ k := by omega
     refine ⟨_, fun i => i = k ∨ i = k2, rets1 (congrArg Value.bool (by rw [HOb.out]; rfl)), HK5.set 0 _, .inr (.inr ⟨_, _, rfl⟩), .inl rfl, (fun i hi => ?_), (fun hbd q' hq' => ?_), (fun i hi => by rcases hi with h | h; exact .inl (h ▸ hF); exact .inr (by omega)), HC5.setAt rfl 0 _⟩
     ·show i < (w5.setCell ⟨k, 0, none⟩ _).heap.size
      rw [setk_size]
      have := HK5.lt
      rcases hi with h | h <;> omega
     ·rw [h2] at hq'
      cases hq'
      exact ⟨hI2, .inr ⟨hc, HVv.out, k2, hne, .inr rfl, HT5.out.same (setk_heap w5 k 0 _ hne)⟩⟩
  ·have hvv : vOk q.t q.n (q.l ++ [b]) = false := by simpa using hvv
   rw [hvv] at hob
   have HOb := Lib.hid hob
   clear hob
   rcases hK with rfl | rfl | rfl | rfl | rfl
   all_goals
    go_enter Try.func25, Try.ntmps25
    go_upto_region 1 with (fail)
    have HX : Hid (Row (w.alloc (.cells #[.int .i64 3, .int .i64 p, .int .i64 c, .int .i64 t, .bool f, .int .i64 n, .int .u8 b] 34)) w.heap.size 34 (evC ⟨3, p, c, t, f, n, b⟩)) := Lib.hid (Row.new w 34 (evC ⟨3, p, c, t, f, n, b⟩))
    have hbb : Below w.heap.size w (w.alloc (.cells #[.int .i64 3, .int .i64 p, .int .i64 c, .int .i64 t, .bool f, .int .i64 n, .int .u8 b] 34)) := (Below.refl _ _).alloc (Nat.le_refl _) _
    have HK := Lib.hid (hR.below hbb hR.lt)
    have hkw := hR.lt
    have hsz := hbb.size
    have HC1 : Hid (Chg (fun i => i = k) w (w.alloc (.cells #[.int .i64 3, .int .i64 p, .int .i64 c, .int .i64 t, .bool f, .int .i64 n, .int .u8 b] 34))) := Lib.hid (Chg.of_below hbb)
    clear hbb hR
    generalize w.alloc (.cells #[.int .i64 3, .int .i64 p, .int .i64 c, .int .i64 t, .bool f, .int .i64 n, .int .u8 b] 34) = W at *
    generalize hbx : w.heap.size = bx at *
    obtain ⟨y0, y1, y2, y3, y4, y5, y6⟩ := ev_facts HX.out
    have c0 : W.cell? ⟨k, 0, none⟩ = some _ := HK.out.cell 0
    have g0 := HK.out.frozen 0
    have hkb : kb < bx := hl kb hFk
    have HT2 := hT.same (HC1.out.block kb (by omega) hkk)
    obtain ⟨K', hv', _, hyes, hno⟩ := tk_call HT2 hI hvo hlt (by have := hqn; omega) b hfb
    simp only [fnPtr, Value.func.injEq, Fn.func.injEq, and_true] at hv'
    subst hv'
    have HCl := Lib.hid (hno hvv)
    clear hyes hno HT2 hT hvv hvo
    go_upto_region 8 with (fail)
    go_region_with (first | (go_at_call 59; refine (HCl.out _ (by rfl)).mono ?_; rintro e w5 ⟨rfl, hb5⟩; have HK5 := txRow_kept hb5 HK.out rfl; have c5 : w5.cell? ⟨k, 0, none⟩ = some _ := HK5.cell 0; have g5 := HK5.frozen 0; have HC5 := chg_call HC1.out (by rfl) (by rfl) (by rfl) (by rfl) hb5; have hz5 : W.heap.size ≤ w5.heap.size := hb5.size; clear hb5) | (go_at_call 62; refine (HCl.out _ (by rfl)).mono ?_; rintro e w5 ⟨rfl, hb5⟩; have HK5 := txRow_kept hb5 HK.out rfl; have c5 : w5.cell? ⟨k, 0, none⟩ = some _ := HK5.cell 0; have g5 := HK5.frozen 0; have HC5 := chg_call HC1.out (by rfl) (by rfl) (by rfl) (by rfl) hb5; have hz5 : W.heap.size ≤ w5.heap.size := hb5.size; clear hb5) | (go_at_call 63; refine (HCl.out _ (by rfl)).mono ?_; rintro e w5 ⟨rfl, hb5⟩; have HK5 := txRow_kept hb5 HK.out rfl; have c5 : w5.cell? ⟨k, 0, none⟩ = some _ := HK5.cell 0; have g5 := HK5.frozen 0; have HC5 := chg_call HC1.out (by rfl) (by rfl) (by rfl) (by rfl) hb5; have hz5 : W.heap.size ≤ w5.heap.size := hb5.size; clear hb5) | (go_at_call 64; refine (HCl.out _ (by rfl)).mono ?_; rintro e w5 ⟨rfl, hb5⟩; have HK5 := txRow_kept hb5 HK.out rfl; have c5 : w5.cell? ⟨k, 0, none⟩ = some _ := HK5.cell 0; have g5 := HK5.frozen 0; have HC5 := chg_call HC1.out (by rfl) (by rfl) (by rfl) (by rfl) hb5; have hz5 : W.heap.size ≤ w5.heap.size := hb5.size; clear hb5) | (go_at_call 65; refine (HCl.out _ (by rfl)).mono ?_; rintro e w5 ⟨rfl, hb5⟩; have HK5 := txRow_kept hb5 HK.out rfl; have c5 : w5.cell? ⟨k, 0, none⟩ = some _ := HK5.cell 0; have g5 := HK5.frozen 0; have HC5 := chg_call HC1.out (by rfl) (by rfl) (by rfl) (by rfl) hb5; have hz5 : W.heap.size ≤ w5.heap.size := hb5.size; clear hb5))
    all_goals
     clear y0 y1 y2 y3 y4 y5 y6 c0 g0 HCl HX HK
     go_wp2
     go_returns
     refine ⟨_, fun i => i = k, rets1 (congrArg Value.bool (by rw [HOb.out]; rfl)), HK5.set 0 _, .inl rfl, rfl, (fun i hi => ?_), (fun hbd => by rw [HOb.out] at hbd; cases hbd), (fun i hi => .inl (by have h : i = k := hi; rw [h]; exact hF)), HC5.setAt rfl 0 _⟩
     show i < (w5.setCell ⟨k, 0, none⟩ _).heap.size
     rw [setk_size]
     have := HK5.lt
     have h : i = k := hi
     omega
set_option maxRecDepth 100000 in
set_option maxHeartbeats 16000000 in
theorem take_end {w : World} {k : Nat} {F : Nat → Prop} {v : Value} {s : VS} (hR : Row w k 57 [v, .int .i64 0]) (hb0 : s.bad = false) (hv : FnV v) (hF : F k) (hl : ∀ i, F i → i < w.heap.size) (hN : Nx w k F v s.cur) (p c t : Int) (f : Bool) (n b : Int) (hok : s.Ok) (hf : s.fits ⟨4, p, c, t, f, n, b⟩) :
  Calls Try.prog 25 #[.pointer (some ⟨k, 0, none⟩), .agg #[.int .i64 4, .int .i64 p, .int .i64 c, .int .i64 t, .bool f, .int .i64 n, .int .u8 b]] w fun r w' => ∃ v' F', r = .returned (.bool (!(s.next ⟨4, p, c, t, f, n, b⟩).bad)) ∧ Row w' k 57 [v', .int .i64 0] ∧ FnV v' ∧ F' k ∧ (∀ i, F' i → i < w'.heap.size) ∧ ((s.next ⟨4, p, c, t, f, n, b⟩).bad = false → Nx w' k F' v' (s.next ⟨4, p, c, t, f, n, b⟩).cur) ∧ (∀ i, F' i → F i ∨ w.heap.size ≤ i) ∧ Chg (fun i => i = k) w w' := by
 have HFl := Lib.hid (chg_lt (k := k) hl)
 have h1 : (s.next ⟨4, p, c, t, f, n, b⟩).bad = false := by rw [VS.next4 (show (4 : Int) ≠ 1 by decide) (show (4 : Int) ≠ 2 by decide) (show (4 : Int) ≠ 3 by decide)]; exact hb0
 have h2 : (s.next ⟨4, p, c, t, f, n, b⟩).cur = none := by rw [VS.next4 (show (4 : Int) ≠ 1 by decide) (show (4 : Int) ≠ 2 by decide) (show (4 : Int) ≠ 3 by decide)]
 clear hok hf hN hb0 hl
 generalize s.next ⟨4, p, c, t, f, n, b⟩ = s2 at *
 have H1 := Lib.hid h1
 clear h1
 go_enter Try.func25, Try.ntmps25
 go_upto_region 1 with (fail)
 have HX : Hid (Row (w.alloc (.cells #[.int .i64 4, .int .i64 p, .int .i64 c, .int .i64 t, .bool f, .int .i64 n, .int .u8 b] 34)) w.heap.size 34 (evC ⟨4, p, c, t, f, n, b⟩)) := Lib.hid (Row.new w 34 (evC ⟨4, p, c, t, f, n, b⟩))
 have hbb : Below w.heap.size w (w.alloc (.cells #[.int .i64 4, .int .i64 p, .int .i64 c, .int .i64 t, .bool f, .int .i64 n, .int .u8 b] 34)) := (Below.refl _ _).alloc (Nat.le_refl _) _
 have HK := Lib.hid (hR.below hbb hR.lt)
 have hkw := hR.lt
 have hsz := hbb.size
 have HC1 : Hid (Chg (fun i => i = k) w (w.alloc (.cells #[.int .i64 4, .int .i64 p, .int .i64 c, .int .i64 t, .bool f, .int .i64 n, .int .u8 b] 34))) := Lib.hid (Chg.of_below hbb)
 clear hbb hR
 generalize w.alloc (.cells #[.int .i64 4, .int .i64 p, .int .i64 c, .int .i64 t, .bool f, .int .i64 n, .int .u8 b] 34) = W at *
 generalize hbx : w.heap.size = bx at *
 obtain ⟨y0, y1, y2, y3, y4, y5, y6⟩ := ev_facts HX.out
 have c0 : W.cell? ⟨k, 0, none⟩ = some v := HK.out.cell 0
 have g0 := HK.out.frozen 0
 go_wp2
 go_returns
 exact ⟨_, F, rets1 (congrArg Value.bool (by rw [H1.out]; rfl)), HK.out.set 0 anyFn, .inr (.inl rfl), hF, (fun i hi => by rw [setk_size]; exact HFl.out W HC1.out i hi), (fun _ q hq => by rw [h2] at hq; cases hq), fun i hi => .inl hi, HC1.out.setAt rfl 0 anyFn⟩
set_option maxRecDepth 100000 in
set_option maxHeartbeats 16000000 in
theorem take_exit {w : World} {k : Nat} {F : Nat → Prop} {v : Value} {s : VS} (hR : Row w k 57 [v, .int .i64 0]) (hb0 : s.bad = false) (hv : FnV v) (hF : F k) (hl : ∀ i, F i → i < w.heap.size) (hN : Nx w k F v s.cur) (p c t : Int) (f : Bool) (n b : Int) (hok : s.Ok) (hf : s.fits ⟨5, p, c, t, f, n, b⟩) :
  Calls Try.prog 25 #[.pointer (some ⟨k, 0, none⟩), .agg #[.int .i64 5, .int .i64 p, .int .i64 c, .int .i64 t, .bool f, .int .i64 n, .int .u8 b]] w fun r w' => ∃ v' F', r = .returned (.bool (!(s.next ⟨5, p, c, t, f, n, b⟩).bad)) ∧ Row w' k 57 [v', .int .i64 0] ∧ FnV v' ∧ F' k ∧ (∀ i, F' i → i < w'.heap.size) ∧ ((s.next ⟨5, p, c, t, f, n, b⟩).bad = false → Nx w' k F' v' (s.next ⟨5, p, c, t, f, n, b⟩).cur) ∧ (∀ i, F' i → F i ∨ w.heap.size ≤ i) ∧ Chg (fun i => i = k) w w' := by
 have HFl := Lib.hid (chg_lt (k := k) hl)
 have h1 : (s.next ⟨5, p, c, t, f, n, b⟩).bad = false := by rw [VS.next4 (show (5 : Int) ≠ 1 by decide) (show (5 : Int) ≠ 2 by decide) (show (5 : Int) ≠ 3 by decide)]; exact hb0
 have h2 : (s.next ⟨5, p, c, t, f, n, b⟩).cur = none := by rw [VS.next4 (show (5 : Int) ≠ 1 by decide) (show (5 : Int) ≠ 2 by decide) (show (5 : Int) ≠ 3 by decide)]
 clear hok hf hN hb0 hl
 generalize s.next ⟨5, p, c, t, f, n, b⟩ = s2 at *
 have H1 := Lib.hid h1
 clear h1
 go_enter Try.func25, Try.ntmps25
 go_upto_region 1 with (fail)
 have HX : Hid (Row (w.alloc (.cells #[.int .i64 5, .int .i64 p, .int .i64 c, .int .i64 t, .bool f, .int .i64 n, .int .u8 b] 34)) w.heap.size 34 (evC ⟨5, p, c, t, f, n, b⟩)) := Lib.hid (Row.new w 34 (evC ⟨5, p, c, t, f, n, b⟩))
 have hbb : Below w.heap.size w (w.alloc (.cells #[.int .i64 5, .int .i64 p, .int .i64 c, .int .i64 t, .bool f, .int .i64 n, .int .u8 b] 34)) := (Below.refl _ _).alloc (Nat.le_refl _) _
 have HK := Lib.hid (hR.below hbb hR.lt)
 have hkw := hR.lt
 have hsz := hbb.size
 have HC1 : Hid (Chg (fun i => i = k) w (w.alloc (.cells #[.int .i64 5, .int .i64 p, .int .i64 c, .int .i64 t, .bool f, .int .i64 n, .int .u8 b] 34))) := Lib.hid (Chg.of_below hbb)
 clear hbb hR
 generalize w.alloc (.cells #[.int .i64 5, .int .i64 p, .int .i64 c, .int .i64 t, .bool f, .int .i64 n, .int .u8 b] 34) = W at *
 generalize hbx : w.heap.size = bx at *
 obtain ⟨y0, y1, y2, y3, y4, y5, y6⟩ := ev_facts HX.out
 have c0 : W.cell? ⟨k, 0, none⟩ = some v := HK.out.cell 0
 have g0 := HK.out.frozen 0
 go_wp2
 go_returns
 exact ⟨v, F, rets1 (congrArg Value.bool (by rw [H1.out]; rfl)), HK.out, hv, hF, HFl.out W HC1.out, (fun _ q hq => by rw [h2] at hq; cases hq), fun i hi => .inl hi, HC1.out⟩
theorem take_v {w : World} {k : Nat} {F : Nat → Prop} {v : Value} {s : VS} (hR : Row w k 57 [v, .int .i64 0]) (hb0 : s.bad = false) (hv : FnV v) (hF : F k) (hl : ∀ i, F i → i < w.heap.size) (hN : Nx w k F v s.cur) (e : Ev) (hok : s.Ok) (hf : s.fits e) :
  Calls Try.prog 25 #[.pointer (some ⟨k, 0, none⟩), evV e] w fun r w' => ∃ v' F', r = .returned (.bool (!(s.next e).bad)) ∧ Row w' k 57 [v', .int .i64 0] ∧ FnV v' ∧ F' k ∧ (∀ i, F' i → i < w'.heap.size) ∧ ((s.next e).bad = false → Nx w' k F' v' (s.next e).cur) ∧ (∀ i, F' i → F i ∨ w.heap.size ≤ i) ∧ Chg (fun i => i = k) w w' := by
 obtain ⟨kk, p, c, t, f, n, b⟩ := e
 have hk := hf.k
 simp only at hk
 rcases hk with rfl | rfl | rfl | rfl | rfl
 ·exact take_enter hR hb0 hv hF hl hN p c t f n b hok hf
 ·by_cases hc : c = 0
  ·subst hc
   exact take_leaf hR hb0 hv hF hl hN p t f n b hok hf
  ·exact take_leafOther hR hb0 hv hF hl hN p c t f n b hok hf hc
 ·exact take_byte hR hb0 hv hF hl hN p c t f n b hok hf
 ·exact take_end hR hb0 hv hF hl hN p c t f n b hok hf
 ·exact take_exit hR hb0 hv hF hl hN p c t f n b hok hf
end Go.Proofs.Ytiiimhamfibdbaa
