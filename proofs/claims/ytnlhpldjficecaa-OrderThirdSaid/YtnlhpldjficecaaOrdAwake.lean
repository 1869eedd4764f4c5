/- The document's fixed answers of layer 16: they come out. -/
import Derived.Test.YtnlhpldjficecaaOrdReset
namespace Go.Proofs.Ytnlhpldjficecaa
open Go.RowKit Go.PlainAid
set_option linter.unusedVariables false
/-- A sorter that a call has made, in a world in which nothing else has changed. -/
structure SOn (OA : OrdPred) (a w : World) (k : Nat) (F : Nat → Prop) (m : OM) : Prop where
  at_ : OA w k F m
  bel : Below a.heap.size a w
  own : ∀ i, F i → a.heap.size ≤ i
  ok : m.Ok
section
variable {OA : OrdPred} {fN fP fE : Nat}
theorem OrdSpec.new_on (H : OrdSpec fN fP fE OA) (most : Int) (hm : InI most) {a w : World} (hB : Below a.heap.size a w) :
    Calls Try.prog fN #[.int .i64 most] w fun e w' => ∃ k F, e = .returned (.pointer (some ⟨k, 0, none⟩)) ∧ SOn OA a w' k F (OM.new most) ∧ Below w.heap.size w w' ∧ (∀ i, F i → w.heap.size ≤ i) := by
  refine (H.new w most hm).mono ?_
  rintro e w' ⟨k, F, rfl, h1, h2, h3⟩
  exact ⟨k, F, rfl, ⟨h2, hB.trans (h3.mono hB.size), fun i hi => Nat.le_trans hB.size (h1 i hi), OM.new_ok most⟩, h3, h1⟩
theorem OrdSpec.push_on (H : OrdSpec fN fP fE OA) {a w : World} {k : Nat} {F : Nat → Prop} {m : OM} (hA : SOn OA a w k F m) (b : Int) (hb : 0 ≤ b ∧ b ≤ 255) (hn : m.n ≤ 1000000) {m' : OM} (hm : m.push b = m') :
    Calls Try.prog fP #[.pointer (some ⟨k, 0, none⟩), .int .u8 b] w fun r w' => ∃ F', r = .returned (.int .i64 m'.e) ∧ SOn OA a w' k F' m' ∧ (∀ i, F' i → F i ∨ w.heap.size ≤ i) ∧ Chg F w w' := by
  refine (H.push b hA.at_ hA.ok hn hb).mono ?_
  rintro r w' ⟨F', rfl, h1, h2, h3⟩
  rw [hm] at h2 ⊢
  refine ⟨F', rfl, ⟨h2, Chg.to_below hA.bel h3 hA.own, fun i hi => ?_, by rw [← hm]; exact OM.push_ok hA.ok hb⟩, h1, h3⟩
  rcases h1 i hi with h | h
  · exact hA.own i h
  · exact Nat.le_trans hA.bel.size h
theorem OrdSpec.fin_on (H : OrdSpec fN fP fE OA) {a w : World} {k : Nat} {F : Nat → Prop} {m : OM} (hA : SOn OA a w k F m) (hn : m.n ≤ 1000000) {m' : OM} (hm : m.fin = m') :
    Calls Try.prog fE #[.pointer (some ⟨k, 0, none⟩)] w fun r w' => ∃ F', r = .returned (.int .i64 m'.e) ∧ SOn OA a w' k F' m' ∧ (∀ i, F' i → F i ∨ w.heap.size ≤ i) ∧ Chg F w w' := by
  refine (H.fin hA.at_ hA.ok hn).mono ?_
  rintro r w' ⟨F', rfl, h1, h2, h3⟩
  rw [hm] at h2 ⊢
  refine ⟨F', rfl, ⟨h2, Chg.to_below hA.bel h3 hA.own, fun i hi => ?_, by rw [← hm]; exact OM.fin_ok hA.ok⟩, h1, h3⟩
  rcases h1 i hi with h | h
  · exact hA.own i h
  · exact Nat.le_trans hA.bel.size h
theorem resets_on (H : OrdResets OA) {a w : World} {k : Nat} {F : Nat → Prop} {m : OM} (hA : SOn OA a w k F m) {m' : OM} (hm : m.reset = m') :
    Calls Try.prog 17 #[.pointer (some ⟨k, 0, none⟩)] w fun r w' => ∃ F', r = .returned (.tuple #[]) ∧ SOn OA a w' k F' m' ∧ (∀ i, F' i → F i ∨ w.heap.size ≤ i) ∧ Chg F w w' := by
  refine (H hA.at_ hA.ok).mono ?_
  rintro r w' ⟨F', rfl, h1, h2, h3⟩
  rw [hm] at h2
  refine ⟨F', rfl, ⟨h2, Chg.to_below hA.bel h3 hA.own, fun i hi => ?_, by rw [← hm]; exact OM.reset_ok hA.ok⟩, h1, h3⟩
  rcases h1 i hi with h | h
  · exact hA.own i h
  · exact Nat.le_trans hA.bel.size h
end
set_option maxRecDepth 100000 in
set_option maxHeartbeats 8000000 in
theorem awake16_any (w : World) :
    Calls Try.prog 8 #[] w fun e w' => e = .returned (.bool true) ∧ Below w.heap.size w w' := by
  have e0 : OM.new 2 = ⟨2, [], [], 0, 0⟩ := rfl
  have e1 : (OM.mk 2 [] [] 0 0).push 2 = ⟨2, [], [2], 0, 0⟩ := rfl
  have e2 : (OM.mk 2 [] [2] 0 0).fin = ⟨2, [2], [], 1, 0⟩ := OM.fin_on rfl (by show ¬ 0 < cmpL [] [2]; simp [cmpL, cmp1])
  have e3 : (OM.mk 2 [2] [] 1 0).push 1 = ⟨2, [2], [1], 1, 0⟩ := rfl
  have e4 : (OM.mk 2 [2] [1] 1 0).fin = ⟨2, [2], [1], 1, 9⟩ := OM.fin_over rfl (by show 0 < cmpL [2] [1]; simp [cmpL, cmp1])
  have e5 : (OM.mk 2 [2] [1] 1 9).push 9 = ⟨2, [2], [1], 1, 9⟩ := rfl
  have e6 : (OM.mk 2 [2] [1] 1 9).reset = ⟨2, [], [], 0, 0⟩ := rfl
  have e7 : (OM.mk 2 [] [] 0 0).push 1 = ⟨2, [], [1], 0, 0⟩ := rfl
  have e8 : (OM.mk 2 [] [1] 0 0).push 1 = ⟨2, [], [1, 1], 0, 0⟩ := rfl
  have e9 : (OM.mk 2 [] [1, 1] 0 0).push 1 = ⟨2, [], [1, 1], 0, 11⟩ := rfl
  have hc1 : cmpL (bl ⟨#[1]⟩) (bl ⟨#[1, 0]⟩) = 0 := by show cmpL [1] [1, 0] = 0; simp [cmpL, cmp1]
  have hc2 : cmpL (bl ⟨#[1, 1]⟩) (bl ⟨#[1]⟩) = 1 := by show cmpL [1, 1] [1] = 1; simp [cmpL, cmp1]
  have HC1 : Hid (∀ W, Calls Try.prog 9 #[.string ⟨#[1]⟩, .string ⟨#[1, 0]⟩] W fun e w' => e = .returned (.int .i64 0) ∧ w' = W) := Lib.hid (fun W => by have := ordCompare_any ⟨#[1]⟩ ⟨#[1, 0]⟩ (by decide +kernel) (by decide +kernel) W; rw [hc1] at this; exact this)
  have HC2 : Hid (∀ W, Calls Try.prog 9 #[.string ⟨#[1, 1]⟩, .string ⟨#[1]⟩] W fun e w' => e = .returned (.int .i64 1) ∧ w' = W) := Lib.hid (fun W => by have := ordCompare_any ⟨#[1, 1]⟩ ⟨#[1]⟩ (by decide +kernel) (by decide +kernel) W; rw [hc2] at this; exact this)
  clear hc1 hc2
  go_enter Try.func8, Try.ntmps8
  go_wp2_with fail
  refine (soSpec.new_on 2 (by unfold InI; decide) (Below.refl w.heap.size w)).mono ?_
  rintro r w1 ⟨k, F, rfl, h, _, _⟩
  rw [e0] at h
  have H0 := Lib.hid h
  clear h e0
  go_wp2_with fail
  refine (soSpec.push_on H0.out 2 (by decide) (by decide) e1).mono ?_
  rintro r w2 ⟨F1, rfl, h, _, _⟩
  have H1 := Lib.hid h
  clear h H0 e1
  go_wp2_with fail
  refine (soSpec.fin_on H1.out (by decide) e2).mono ?_
  rintro r w3 ⟨F2, rfl, h, _, _⟩
  have H2 := Lib.hid h
  clear h H1 e2
  go_wp2_with fail
  refine (soSpec.push_on H2.out 1 (by decide) (by decide) e3).mono ?_
  rintro r w4 ⟨F3, rfl, h, _, _⟩
  have H3 := Lib.hid h
  clear h H2 e3
  go_wp2_with fail
  refine (soSpec.fin_on H3.out (by decide) e4).mono ?_
  rintro r w5 ⟨F4, rfl, h, _, _⟩
  have H4 := Lib.hid h
  clear h H3 e4
  go_wp2_with fail
  refine (soSpec.push_on H4.out 9 (by decide) (by decide) e5).mono ?_
  rintro r w6 ⟨F5, rfl, h, _, _⟩
  have H5 := Lib.hid h
  clear h H4 e5
  go_wp2_with fail
  refine (resets_on soResets H5.out e6).mono ?_
  rintro r w7 ⟨F6, rfl, h, _, _⟩
  have H6 := Lib.hid h
  clear h H5 e6
  go_wp2_with fail
  refine (soSpec.push_on H6.out 1 (by decide) (by decide) e7).mono ?_
  rintro r w8 ⟨F7, rfl, h, _, _⟩
  have H7 := Lib.hid h
  clear h H6 e7
  go_wp2_with fail
  refine (soSpec.push_on H7.out 1 (by decide) (by decide) e8).mono ?_
  rintro r w9 ⟨F8, rfl, h, _, _⟩
  have H8 := Lib.hid h
  clear h H7 e8
  go_wp2_with fail
  refine (soSpec.push_on H8.out 1 (by decide) (by decide) e9).mono ?_
  rintro r w10 ⟨F9, rfl, h, _, _⟩
  have hB := h.bel
  clear h H8 e9
  go_wp2_with fail
  refine (HC1.out _).mono ?_
  rintro r w11 ⟨rfl, rfl⟩
  go_wp2_with fail
  refine (HC2.out _).mono ?_
  rintro r w12 ⟨rfl, rfl⟩
  go_wp2
  go_returns
  exact ⟨rfl, hB⟩
/-- What stands ahead of a place. -/
def ahd (l : List ByteArray) (i : Nat) : List Int := match i with | 0 => [] | i + 1 => bl (l.getD i ⟨#[]⟩)
theorem ahd_succ {l : List ByteArray} {i : Nat} (hi : i < l.length) : ahd l (i + 1) = bl l[i] := by simp [ahd, List.getD, hi]
theorem ahd_isB (l : List ByteArray) (i : Nat) : IsB (ahd l i) := by
  cases i with
  | zero => intro x hx; cases hx
  | succ i => exact bl_isB _
end Go.Proofs.Ytnlhpldjficecaa
