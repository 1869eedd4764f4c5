/- A capture of the code's and one of the reference's side by side. -/
import Derived.Test.YtemdeopghkcpbaaCapLoop
import Derived.Test.YtemdeopghkcpbaaRefCap
namespace Go.Proofs.Ytemdeopghkcpbaa
open Go.RowKit Go.PlainAid
set_option linter.unusedVariables false
structure KRef (a w : World) (k : Nat) (F : Nat → Prop) (c : KM) (g : Nat) (d : KM) : Prop where
  x : KOn KAt a w k F c
  r : RK w g d
  ok : d.Ok
  dg : ¬ F g
  gw : a.heap.size ≤ g
section
variable {a w w' : World} {k g : Nat} {F F' : Nat → Prop} {c d c' : KM}
theorem KRef.below (h : KRef a w k F c g d) (hb : Below w.heap.size w w') : KRef a w' k F c g d := ⟨h.x.below capSpec hb, h.r.below hb (Row.lt h.r), h.ok, h.dg, h.gw⟩
theorem KRef.drewN (h : KRef a w k F c g d) (n : Nat) : KRef a (w.drewN n) k F c g d := h.below ⟨rfl, rfl, rfl, Nat.le_refl _, fun _ _ => rfl⟩
theorem KRef.aside (h : KRef a w k F c g d) {b : Nat} (hb : w.heap.size ≤ b) : ¬ F b ∧ ¬ b = g := ⟨fun f => by have := capSpec.lt h.x.at_ b f; omega, fun e => by have := Row.lt h.r; omega⟩
theorem KRef.stepX (h : KRef a w k F c g d) (hx : KOn KAt a w' k F' c') (hF : ∀ i, F' i → F i ∨ w.heap.size ≤ i) (hc : Chg F w w') : KRef a w' k F' c' g d :=
  ⟨hx, Row.chg h.r hc h.dg, h.ok, fun f => by
    rcases hF g f with q | q
    · exact h.dg q
    · have := Row.lt h.r; omega, h.gw⟩
theorem KRef.stepR (h : KRef a w k F c g d) {d' : KM} (hr : RK w' g d') (hok : d'.Ok) (hc : Chg (fun i => i = g) w w') : KRef a w' k F c g d' :=
  ⟨h.x.beside capSpec hc (fun i hf e => h.dg (by rw [← e]; exact hf)) (Chg.to_below h.x.bel hc (fun i e => by rw [e]; exact h.gw)), hr, hok, h.dg, h.gw⟩
theorem KRef.beginX (h : KRef a w k F c g d) (b : ByteArray) (hb : b.size ≤ 100000) :
    Calls Try.prog 10 #[.pointer (some ⟨k, 0, none⟩), .string b] w fun r w' => ∃ F', r = .returned (.int .i64 (c.beginE (bl b))) ∧ KRef a w' k F' (c.begin (bl b)) g d ∧ Chg F w w' := by
  refine (capSpec.begin_on h.x b hb rfl rfl).mono ?_
  rintro r w' ⟨F', rfl, h1, h2, h3⟩
  exact ⟨F', rfl, h.stepX h1 h2 h3, h3⟩
theorem KRef.pushX (h : KRef a w k F c g d) (b : Int) (hb : 0 ≤ b ∧ b ≤ 255) :
    Calls Try.prog 12 #[.pointer (some ⟨k, 0, none⟩), .int .u8 b] w fun r w' => ∃ F', r = .returned (.int .i64 c.pushE) ∧ KRef a w' k F' (c.push b) g d ∧ Chg F w w' := by
  refine (capSpec.push_on h.x b hb rfl rfl).mono ?_
  rintro r w' ⟨F', rfl, h1, h2, h3⟩
  exact ⟨F', rfl, h.stepX h1 h2 h3, h3⟩
theorem KRef.finX (h : KRef a w k F c g d) :
    Calls Try.prog 14 #[.pointer (some ⟨k, 0, none⟩)] w fun r w' => ∃ F', r = .returned (.tuple #[]) ∧ KRef a w' k F' c.fin g d := by
  refine (capSpec.fin_on h.x rfl).mono ?_
  rintro r w' ⟨F', rfl, h1, h2, h3⟩
  exact ⟨F', rfl, h.stepX h1 h2 h3⟩
theorem KRef.beginR (h : KRef a w k F c g d) (b : ByteArray) (hb : b.size ≤ 100000) :
    Calls Try.prog 11 #[.pointer (some ⟨g, 0, none⟩), .string b] w fun r w' => r = .returned (.int .i64 (d.beginE (bl b))) ∧ KRef a w' k F c g (d.begin (bl b)) ∧ Chg (fun i => i = g) w w' := by
  refine (refCap_begin b h.r h.ok hb).mono ?_
  rintro r w' ⟨rfl, h1, h2⟩
  exact ⟨rfl, h.stepR h1 (KM.begin_ok h.ok (bl_isB b)) h2, h2⟩
theorem KRef.pushR (h : KRef a w k F c g d) (b : Int) (hb : 0 ≤ b ∧ b ≤ 255) :
    Calls Try.prog 13 #[.pointer (some ⟨g, 0, none⟩), .int .u8 b] w fun r w' => r = .returned (.int .i64 d.pushE) ∧ KRef a w' k F c g (d.push b) ∧ Chg (fun i => i = g) w w' := by
  refine (refCap_push b h.r h.ok hb).mono ?_
  rintro r w' ⟨rfl, h1, h2⟩
  exact ⟨rfl, h.stepR h1 (KM.push_ok h.ok hb) h2, h2⟩
/-- It isn't on any more, as the law has it of the reference's. -/
theorem KRef.finR (h : KRef a w k F c g d) : KRef a (w.setCell ⟨g, 2, none⟩ (.bool false)) k F c g d.fin := by
  have hs : RK (w.setCell ⟨g, 2, none⟩ (.bool false)) g d.fin := by
    have := Row.set h.r 2 (.bool false)
    exact this
  exact h.stepR hs (KM.fin_ok h.ok) (kset (kchg0 w g) 2 (.bool false))
theorem KRef.newR (hx : KOn KAt a w k F c) (most : Int) (hm : InI most) : Calls Try.prog 9 #[.int .i64 most] w fun r w' => ∃ g, r = .returned (.pointer (some ⟨g, 0, none⟩)) ∧ KRef a w' k F c g (KM.new most) := by
  refine (refCap_new w most hm).mono ?_
  rintro r w' ⟨g, rfl, h1, h2, h3⟩
  exact ⟨g, rfl, hx.below capSpec h3, h2, KM.new_ok most, fun f => by have := capSpec.lt hx.at_ g f; omega, Nat.le_trans hx.bel.size h1⟩
theorem KRef.cells (h : KRef a w k F c g d) : w.cell? ⟨g, 0, none⟩ = some (.int .i64 d.most) ∧ w.cell? ⟨g, 1, none⟩ = some (.string (strOfNums d.kept)) ∧ w.cell? ⟨g, 2, none⟩ = some (.bool d.on) ∧ w.frozen? ⟨g, 2, none⟩ = false := ⟨Row.cell h.r 0, Row.cell h.r 1, Row.cell h.r 2, Row.frozen h.r 2⟩
end
end Go.Proofs.Ytemdeopghkcpbaa
