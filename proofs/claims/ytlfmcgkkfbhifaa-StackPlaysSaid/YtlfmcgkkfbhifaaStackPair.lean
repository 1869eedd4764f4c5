/- A stack of the code's and one of the reference's side by side: each call on one leaves the other as it was. -/
import Derived.Test.YtlfmcgkkfbhifaaStackSpec
import Derived.Test.YtlfmcgkkfbhifaaRefStack
import Derived.Lib.Hide
import Derived.Deep.RegionHeld3
import Derived.Deep.QuietTactic
import Derived.BigQuiet
namespace Go.Proofs.Ytlfmcgkkfbhifaa
open Go.RowKit
set_option linter.unusedVariables false
theorem add_field2 (a : Addr) (i : Nat) : a.add (2 * i + 1) = ⟨(a.add (i * 2)).block, (a.add (i * 2)).off + 1, none⟩ := by
  unfold Addr.add
  rw [if_neg (by omega)]
  by_cases h : i * 2 = 0
  · rw [if_pos h, show 2 * i + 1 = 1 by omega]
  · rw [if_neg h, show a.off + (2 * i + 1) = a.off + i * 2 + 1 by omega]
structure StPair (SA : StPred) (a w : World) (k : Nat) (F : Nat → Prop) (s : SS) (g b : Nat) (m : SS) : Prop where
  on : StOn SA a w k F s
  ref : StkAt w g b m
  dg : ¬ F g
  db : ¬ F b
  own : a.heap.size ≤ g
  ok : m.ok
section
variable {SA : StPred} {a w : World} {k : Nat} {F : Nat → Prop} {s m : SS} {g b : Nat}
theorem StPair.below (H : StSpec SA) {w' : World} (h : StPair SA a w k F s g b m) (hb : Below w.heap.size w w') : StPair SA a w' k F s g b m :=
  ⟨h.on.step H hb, h.ref.below hb, h.dg, h.db, h.own, h.ok⟩
theorem StPair.drew (H : StSpec SA) (h : StPair SA a w k F s g b m) : StPair SA a w.drew k F s g b m := h.below H (draws_below w 1)
theorem StPair.code (h : StPair SA a w k F s g b m) {w' : World} {s' : SS} (h1 : StOn SA a w' k F s') (h2 : Chg F w w') : StPair SA a w' k F s' g b m :=
  ⟨h1, h.ref.chg h2 h.dg h.db, h.dg, h.db, h.own, h.ok⟩
theorem StPair.other (H : StSpec SA) (h : StPair SA a w k F s g b m) {w' : World} {b' : Nat} {m' : SS} (h1 : StkAt w' g b' m') (h2 : b' = b ∨ w.heap.size ≤ b') (h3 : w.grownBy w' (some g)) (hok : m'.ok) : StPair SA a w' k F s g b' m' := by
  have hc : Chg (fun i => i = g) w w' := ⟨h3.os, h3.tape, h3.output, h3.size, fun i hi hn => h3.block i hi (by intro e; cases e; exact hn rfl)⟩
  refine ⟨⟨H.aside h.on.at_ hc (fun i hi e => h.dg (e ▸ hi)), h.on.own, hc.to_below h.on.bel (fun i e => by subst e; exact h.own)⟩, h1, h.dg, ?_, h.own, hok⟩
  rcases h2 with rfl | h2
  · exact h.db
  · intro f; have := H.lt h.on.at_ b' f; omega
theorem Chg.wide {w w' : World} {F : Nat → Prop} {g : Nat} (h : Chg F w w') : Chg (fun i => F i ∨ i = g) w w' := ⟨h.os, h.tape, h.output, h.size, fun i hi hn => h.block i hi (fun f => hn (.inl f))⟩
theorem chg_ref {w w' : World} {F : Nat → Prop} {g : Nat} (h3 : w.grownBy w' (some g)) : Chg (fun i => F i ∨ i = g) w w' := ⟨h3.os, h3.tape, h3.output, h3.size, fun i hi hn => h3.block i hi (by intro e; cases e; exact hn (.inr rfl))⟩
/-- A block that was just laid is neither's. -/
theorem StPair.aside (H : StSpec SA) (h : StPair SA a w k F s g b m) {i : Nat} (hi : w.heap.size ≤ i) : ¬ (F i ∨ i = g) := by
  rintro (f | rfl)
  · have := H.lt h.on.at_ i f; omega
  · have := h.ref.lt.1; omega
/-- What writes blocks that are neither's leaves both. -/
theorem StPair.skip (H : StSpec SA) (h : StPair SA a w k F s g b m) {w' : World} {G : Nat → Prop} (hc : Chg G w w') (hb : Below a.heap.size a w') (hF : ∀ i, G i → ¬ F i) (hg : ¬ G g) (hbb : ¬ G b) : StPair SA a w' k F s g b m :=
  ⟨⟨H.aside h.on.at_ hc (fun i hi hG => hF i hG hi), h.on.own, hb⟩, h.ref.chg hc hg hbb, h.dg, h.db, h.own, h.ok⟩
theorem StPair.copyC (H : StSpec SA) (h : StPair SA a w k F s g b m) :
    Calls Try.prog 17 #[.pointer (some ⟨k, 0, none⟩)] w fun e w' => ∃ k' F', e = .returned (.pointer (some ⟨k', 0, none⟩)) ∧ StOn SA a w' k F s ∧ StPair SA a w' k' F' s g b m ∧ ∀ i, F i → ¬ F' i := by
  refine (H.copy_on h.on).mono ?_
  rintro e w' ⟨k', F', h1, h2, h3, h4, h5, h6⟩
  have hl := h.ref.lt
  exact ⟨k', F', h1, h2, ⟨h3, h.ref.below h6, fun f => by have := h5 g f; omega, fun f => by have := h5 b f; omega, h.own, h.ok⟩, h4⟩
/-- The calls that only read. -/
theorem StPair.depthQ (H : StSpec SA) (h : StPair SA a w k F s g b m) (n : Nat) :
    Calls Try.prog 18 #[.pointer (some ⟨k, 0, none⟩)] (w.drewN n) fun e w' => e = .returned (.int .i64 (s.st.length : Int)) ∧ ∃ m, w' = (w.drewN n).drewN m := H.depth (h.below H (draws_below w n)).on.at_
theorem StPair.leftQ (H : StSpec SA) (h : StPair SA a w k F s g b m) (n : Nat) :
    Calls Try.prog 19 #[.pointer (some ⟨k, 0, none⟩)] (w.drewN n) fun e w' => e = .returned (.int .i64 s.last) ∧ ∃ m, w' = (w.drewN n).drewN m := H.left (h.below H (draws_below w n)).on.at_
theorem StPair.lastQ (H : StSpec SA) (h : StPair SA a w k F s g b m) (n : Nat) :
    Calls Try.prog 20 #[.pointer (some ⟨g, 0, none⟩)] (w.drewN n) fun e w' => e = .returned (.int .i64 m.last) ∧ ∃ m, w' = (w.drewN n).drewN m := refLast_any (h.ref.drewN n) h.ok
theorem StPair.list (h : StPair SA a w k F s g b m) : ∃ oa c, w.cell? ⟨g, 1, none⟩ = some (.slice oa m.st.length c) := by
  obtain ⟨v, hr, hv⟩ := h.ref
  obtain ⟨oa, c, rfl⟩ := stk_len hv
  exact ⟨oa, c, hr.cell 1⟩
theorem StPair.enterC (H : StSpec SA) (h : StPair SA a w k F s g b m) (n : Int) (hn : InI n) :
    Calls Try.prog 11 #[.pointer (some ⟨k, 0, none⟩), .int .i64 n] w fun e w' => e = .returned (.int .i64 (s.enterE n)) ∧ StPair SA a w' k F (s.enter n) g b m ∧ Chg (fun i => F i ∨ i = g) w w' := by
  refine (H.enter_on n h.on hn rfl rfl).mono ?_
  rintro e w' ⟨h1, h2, h3⟩
  exact ⟨h1, h.code h2 h3, h3.wide⟩
theorem StPair.takeC (H : StSpec SA) (h : StPair SA a w k F s g b m) :
    Calls Try.prog 13 #[.pointer (some ⟨k, 0, none⟩)] w fun e w' => e = .returned (.int .i64 s.takeE) ∧ StPair SA a w' k F s.take g b m ∧ Chg (fun i => F i ∨ i = g) w w' := by
  refine (H.take_on h.on rfl rfl).mono ?_
  rintro e w' ⟨h1, h2, h3⟩
  exact ⟨h1, h.code h2 h3, h3.wide⟩
theorem StPair.leaveC (H : StSpec SA) (h : StPair SA a w k F s g b m) :
    Calls Try.prog 15 #[.pointer (some ⟨k, 0, none⟩)] w fun e w' => e = .returned (.bool s.leaveB) ∧ StPair SA a w' k F s.leave g b m ∧ Chg (fun i => F i ∨ i = g) w w' := by
  refine (H.leave_on h.on rfl rfl).mono ?_
  rintro e w' ⟨h1, h2, h3⟩
  exact ⟨h1, h.code h2 h3, h3.wide⟩
theorem StPair.enterR (H : StSpec SA) (h : StPair SA a w k F s g b m) (n : Int) (hn : InI n) :
    Calls Try.prog 12 #[.pointer (some ⟨g, 0, none⟩), .int .i64 n] w fun e w' => e = .returned (.int .i64 (m.enterE n)) ∧ ∃ b', StPair SA a w' k F s g b' (m.enter n) ∧ Chg (fun i => F i ∨ i = g) w w' := by
  refine (refEnter_any h.ref h.ok n hn).mono ?_
  rintro e w' ⟨h1, b', h2, h3, h4⟩
  exact ⟨h1, b', h.other H h2 h3 h4 (SS.enter_ok h.ok n hn.2), chg_ref h4⟩
theorem StPair.takeR (H : StSpec SA) (h : StPair SA a w k F s g b m) :
    Calls Try.prog 14 #[.pointer (some ⟨g, 0, none⟩)] w fun e w' => e = .returned (.int .i64 m.takeE) ∧ ∃ b', StPair SA a w' k F s g b' m.take ∧ Chg (fun i => F i ∨ i = g) w w' := by
  refine (refTake_any h.ref h.ok).mono ?_
  rintro e w' ⟨h1, b', h2, h3, h4⟩
  exact ⟨h1, b', h.other H h2 h3 h4 (SS.take_ok h.ok), chg_ref h4⟩
theorem StPair.leaveR (H : StSpec SA) (h : StPair SA a w k F s g b m) :
    Calls Try.prog 16 #[.pointer (some ⟨g, 0, none⟩)] w fun e w' => e = .returned (.bool m.leaveB) ∧ ∃ b', StPair SA a w' k F s g b' m.leave ∧ Chg (fun i => F i ∨ i = g) w w' := by
  refine (refLeave_any h.ref h.ok).mono ?_
  rintro e w' ⟨h1, b', h2, h3, h4⟩
  exact ⟨h1, b', h.other H h2 h3 h4 (SS.leave_ok h.ok), chg_ref h4⟩
end
end Go.Proofs.Ytlfmcgkkfbhifaa
