/- A sorter of the code's and one of the reference's side by side. -/
import Derived.Test.YtnlhpldjficecaaOrdAwake
import Derived.Test.YtnlhpldjficecaaRefOrd5
import Derived.Deep.RegionHeld3
namespace Go.Proofs.Ytnlhpldjficecaa
open Go.RowKit Go.PlainAid
set_option linter.unusedVariables false
theorem OM.push_most (m : OM) (b : Int) : (m.push b).most = m.most := by unfold OM.push; split; rfl; split <;> rfl
theorem OM.push_n (m : OM) (b : Int) : (m.push b).n = m.n := by unfold OM.push; split; rfl; split <;> rfl
theorem OM.fin_most (m : OM) : m.fin.most = m.most := by unfold OM.fin; split; rfl; split <;> rfl
theorem OM.fin_n (m : OM) : m.fin.n ≤ m.n + 1 := by
  unfold OM.fin
  split
  · omega
  · split
    · show m.n ≤ m.n + 1; omega
    · exact Nat.le_refl _
theorem OM.reset_new {m : OM} {most : Int} (h : m.most = (OM.new most).most) : m.reset = OM.new most := by
  unfold OM.reset
  rw [h]
  rfl
structure Pair (w wr : World) (k : Nat) (F : Nat → Prop) (m : OM) (g : Nat) (G : Nat → Prop) (mR : OM) : Prop where
  c : SOn SoAt w wr k F m
  r : SOn RefSo w wr g G mR
  dj : ∀ i, F i → ¬ G i
theorem SOn.below {OA : OrdPred} {fN fP fE : Nat} (H : OrdSpec fN fP fE OA) {a w w' : World} {k : Nat} {F : Nat → Prop} {m : OM} (h : SOn OA a w k F m) (hb : Below w.heap.size w w') : SOn OA a w' k F m :=
  ⟨H.aside h.at_ (Chg.of_below (F := fun _ => False) hb) (fun _ _ h => h), h.bel.trans (hb.mono h.bel.size), h.own, h.ok⟩
theorem SOn.beside {OA : OrdPred} {fN fP fE : Nat} (H : OrdSpec fN fP fE OA) {a w w' : World} {k : Nat} {F F' : Nat → Prop} {m : OM} (h : SOn OA a w k F m) (hc : Chg F' w w') (hF : ∀ i, F i → ¬ F' i) (hB : Below a.heap.size a w') : SOn OA a w' k F m :=
  ⟨H.aside h.at_ hc hF, hB, h.own, h.ok⟩
section
variable {w wr : World} {k g : Nat} {F G : Nat → Prop} {m mR : OM}
theorem Pair.below (h : Pair w wr k F m g G mR) {w' : World} (hb : Below wr.heap.size wr w') : Pair w w' k F m g G mR := ⟨h.c.below soSpec hb, h.r.below refSoSpec hb, h.dj⟩
theorem Pair.new (hC : SOn SoAt w wr k F m) {w' : World} (hR : SOn RefSo w w' g G mR) (hb : Below wr.heap.size wr w') (hG : ∀ i, G i → wr.heap.size ≤ i) : Pair w w' k F m g G mR :=
  ⟨hC.below soSpec hb, hR, fun i hi hg => by have := soSpec.lt hC.at_ i hi; have := hG i hg; omega⟩
theorem Pair.aside (h : Pair w wr k F m g G mR) {b : Nat} (hb : wr.heap.size ≤ b) : ¬ F b ∧ ¬ G b := ⟨fun f => by have := soSpec.lt h.c.at_ b f; omega, fun f => by have := refSoSpec.lt h.r.at_ b f; omega⟩
theorem Pair.pushC (h : Pair w wr k F m g G mR) (b : Int) (hb : 0 ≤ b ∧ b ≤ 255) (hn : m.n ≤ 1000000) : Calls Try.prog 13 #[.pointer (some ⟨k, 0, none⟩), .int .u8 b] wr fun r w' => ∃ F', r = .returned (.int .i64 (m.push b).e) ∧ Pair w w' k F' (m.push b) g G mR ∧ (∀ i, F' i → F i ∨ wr.heap.size ≤ i) ∧ Chg F wr w' := by
  refine (soSpec.push_on h.c b hb hn rfl).mono ?_
  rintro r w' ⟨F', rfl, h1, h2, h3⟩
  refine ⟨F', rfl, ⟨h1, h.r.beside refSoSpec h3 (fun i hg hf => h.dj i hf hg) h1.bel, fun i hi hg => ?_⟩, h2, h3⟩
  rcases h2 i hi with q | q
  · exact h.dj i q hg
  · have := refSoSpec.lt h.r.at_ i hg; omega
theorem Pair.pushR (h : Pair w wr k F m g G mR) (b : Int) (hb : 0 ≤ b ∧ b ≤ 255) (hn : mR.n ≤ 1000000) : Calls Try.prog 14 #[.pointer (some ⟨g, 0, none⟩), .int .u8 b] wr fun r w' => ∃ G', r = .returned (.int .i64 (mR.push b).e) ∧ Pair w w' k F m g G' (mR.push b) ∧ (∀ i, G' i → G i ∨ wr.heap.size ≤ i) ∧ Chg G wr w' := by
  refine (refSoSpec.push_on h.r b hb hn rfl).mono ?_
  rintro r w' ⟨G', rfl, h1, h2, h3⟩
  refine ⟨G', rfl, ⟨h.c.beside soSpec h3 h.dj h1.bel, h1, fun i hi hg => ?_⟩, h2, h3⟩
  rcases h2 i hg with q | q
  · exact h.dj i hi q
  · have := soSpec.lt h.c.at_ i hi; omega
theorem Pair.finC (h : Pair w wr k F m g G mR) (hn : m.n ≤ 1000000) : Calls Try.prog 15 #[.pointer (some ⟨k, 0, none⟩)] wr fun r w' => ∃ F', r = .returned (.int .i64 m.fin.e) ∧ Pair w w' k F' m.fin g G mR := by
  refine (soSpec.fin_on h.c hn rfl).mono ?_
  rintro r w' ⟨F', rfl, h1, h2, h3⟩
  refine ⟨F', rfl, ⟨h1, h.r.beside refSoSpec h3 (fun i hg hf => h.dj i hf hg) h1.bel, fun i hi hg => ?_⟩⟩
  rcases h2 i hi with q | q
  · exact h.dj i q hg
  · have := refSoSpec.lt h.r.at_ i hg; omega
theorem Pair.finR (h : Pair w wr k F m g G mR) (hn : mR.n ≤ 1000000) : Calls Try.prog 16 #[.pointer (some ⟨g, 0, none⟩)] wr fun r w' => ∃ G', r = .returned (.int .i64 mR.fin.e) ∧ Pair w w' k F m g G' mR.fin := by
  refine (refSoSpec.fin_on h.r hn rfl).mono ?_
  rintro r w' ⟨G', rfl, h1, h2, h3⟩
  refine ⟨G', rfl, ⟨h.c.beside soSpec h3 h.dj h1.bel, h1, fun i hi hg => ?_⟩⟩
  rcases h2 i hg with q | q
  · exact h.dj i hi q
  · have := soSpec.lt h.c.at_ i hi; omega
/-- Reset, and the reference's made anew. -/
theorem Pair.resetC (h : Pair w wr k F m g G mR) : Calls Try.prog 17 #[.pointer (some ⟨k, 0, none⟩)] wr fun r w' => ∃ F', r = .returned (.tuple #[]) ∧ SOn SoAt w w' k F' m.reset := by
  refine (resets_on soResets h.c rfl).mono ?_
  rintro r w' ⟨F', rfl, h1, _, _⟩
  exact ⟨F', rfl, h1⟩
theorem Pair.newR (hC : SOn SoAt w wr k F m) (most : Int) (hm : InI most) : Calls Try.prog 12 #[.int .i64 most] wr fun r w' => ∃ g G, r = .returned (.pointer (some ⟨g, 0, none⟩)) ∧ Pair w w' k F m g G (OM.new most) := by
  refine (refSoSpec.new_on most hm hC.bel).mono ?_
  rintro r w' ⟨g, G, rfl, h1, h2, h3⟩
  exact ⟨g, G, rfl, Pair.new hC h1 h2 h3⟩
end
end Go.Proofs.Ytnlhpldjficecaa
