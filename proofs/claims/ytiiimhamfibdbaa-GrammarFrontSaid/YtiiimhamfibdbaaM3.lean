/- What the laws of layer 20 (and later ones) need of a grammar's calls, whatever its memory is: GA says that block k holds a grammar in which these parts are open (none: something was wrong), that writes the blocks F alone; and the document's fixed answers. -/
import Derived.Test.YtiiimhamfibdbaaM1
import Derived.Test.YtiiimhamfibdbaaE1
import Derived.Test.YtiiimhamfibdbaaV2
import Derived.Test.YtiiimhamfibdbaaB0
namespace Go.Proofs.Ytiiimhamfibdbaa
open Go.RowKit Go.PlainAid
set_option linter.unusedVariables false
abbrev GramPred := World → Nat → (Nat → Prop) → Option GS → Prop
def GS.after (s : GS) (e : Ev) : Option GS := if (s.push e).part = 0 then none else some (s.push e)
structure GramSpec (GA : GramPred) : Prop where
 lt : ∀ {w k F s}, GA w k F s → ∀ i, F i → i < w.heap.size
 aside : ∀ {w w' k F F' s}, GA w k F s → Chg F' w w' → (∀ i, F i → ¬ F' i) → GA w' k F s
 new : ∀ (w : World), Calls Try.prog 6 #[] w fun e w' => ∃ k F, e = .returned (.pointer (some ⟨k, 0, none⟩)) ∧ (∀ i, F i → w.heap.size ≤ i) ∧ GA w' k F (some GS.new) ∧ Below w.heap.size w w'
 push : ∀ {w k F s} (e : Ev), GA w k F (some s) → s.op ≠ [] → (s.op.length : Int) ≤ 65 → ((s.push e).op.length : Int) ≤ 65 → 1 ≤ e.k ∧ e.k ≤ 5 → EvB e → s.can e →
  Calls Try.prog 7 #[.pointer (some ⟨k, 0, none⟩), evV e] w fun r w' => ∃ F', r = .returned (.tuple #[.int .i64 (s.push e).part, .int .i64 (if (s.push e).part = 0 then 8 else 0)]) ∧ (∀ i, F' i → F i ∨ w.heap.size ≤ i) ∧ GA w' k F' (s.after e) ∧ Chg F w w'
 dead : ∀ {w k F} (e : Ev), GA w k F none → 1 ≤ e.k ∧ e.k ≤ 5 → EvB e →
  Calls Try.prog 7 #[.pointer (some ⟨k, 0, none⟩), evV e] w fun r w' => ∃ F', r = .returned (.tuple #[.int .i64 0, .int .i64 8]) ∧ (∀ i, F' i → F i ∨ w.heap.size ≤ i) ∧ GA w' k F' none ∧ Chg F w w'
 whole : ∀ (b : ByteArray) (depth : Int) (w : World), b.size ≤ 900000 → -9223372036854775808 ≤ depth ∧ depth ≤ 9223372036854775807 →
  Calls Try.prog 5 #[.string b, .int .i64 depth] w fun e w' => e = .returned (.tuple #[.int .i64 (gramW b depth).1, .int .i64 (gramW b depth).2]) ∧ Below w.heap.size w w'
theorem GramSpec.whole_is {GA : GramPred} (H : GramSpec GA) (b : ByteArray) (depth : Int) (hs : b.size ≤ 900000) (hd : -9223372036854775808 ≤ depth ∧ depth ≤ 9223372036854775807) {e a : Int} (hw : gramW b depth = (e, a)) (w : World) :
  Calls Try.prog 5 #[.string b, .int .i64 depth] w fun r w' => r = .returned (.tuple #[.int .i64 e, .int .i64 a]) ∧ Below w.heap.size w w' := by
 have h := H.whole b depth w hs hd
 rw [hw] at h
 exact h
theorem gram_k1 : gramW ⟨#[2, 1, 1]⟩ 9 = (8, 1) := by kernel_rfl
theorem gram_k2 : gramW ⟨#[48, 0]⟩ 9 = (8, 1) := by kernel_rfl
def gE1 : Ev := ⟨1, 1, 0, 16, true, 9, 0⟩
def gE2 : Ev := ⟨1, 3, 0, 16, true, 7, 0⟩
def gE3 : Ev := ⟨2, 5, 0, 2, false, 2, 0⟩
theorem gram_e1 : (GS.new.push gE1).part = 1 ∧ GS.new.op ≠ [] ∧ (GS.new.op.length : Int) ≤ 65 ∧ ((GS.new.push gE1).op.length : Int) ≤ 65 := by decide
theorem gram_e2 : ((GS.new.push gE1).push gE2).part = 2 ∧ (GS.new.push gE1).op ≠ [] ∧ (((GS.new.push gE1).push gE2).op.length : Int) ≤ 65 := by decide
theorem gram_e3 : (((GS.new.push gE1).push gE2).push gE3).part = 0 ∧ ((GS.new.push gE1).push gE2).op ≠ [] ∧ ((((GS.new.push gE1).push gE2).push gE3).op.length : Int) ≤ 65 := by decide
set_option maxRecDepth 100000 in
set_option maxHeartbeats 8000000 in
theorem awake20_any {GA : GramPred} (H : GramSpec GA) (w : World) :
  Calls Try.prog 4 #[] w fun e w' => e = .returned (.bool true) ∧ Below w.heap.size w w' := by
 have H1 := Lib.hid (H.whole_is _ 9 (by decide +kernel) (by decide) gram_k1)
 have H2 := Lib.hid (H.whole_is _ 9 (by decide +kernel) (by decide) gram_k2)
 have HN := Lib.hid (fun w => H.new w)
 have hE1 : evV gE1 = .agg #[.int .i64 1, .int .i64 1, .int .i64 0, .int .i64 16, .bool true, .int .i64 9, .int .u8 0] := rfl
 have hE2 : evV gE2 = .agg #[.int .i64 1, .int .i64 3, .int .i64 0, .int .i64 16, .bool true, .int .i64 7, .int .u8 0] := rfl
 have hE3 : evV gE3 = .agg #[.int .i64 2, .int .i64 5, .int .i64 0, .int .i64 2, .bool false, .int .i64 2, .int .u8 0] := rfl
 have HP1 := Lib.hid (fun w k F h => H.push (w := w) (k := k) (F := F) gE1 h gram_e1.2.1 gram_e1.2.2.1 gram_e1.2.2.2 (by decide) ⟨by decide, by decide, by decide, by decide⟩ ⟨by decide, by decide⟩)
 have HP2 := Lib.hid (fun w k F h => H.push (w := w) (k := k) (F := F) gE2 h gram_e2.2.1 gram_e1.2.2.2 gram_e2.2.2 (by decide) ⟨by decide, by decide, by decide, by decide⟩ ⟨by decide, by decide⟩)
 have HP3 := Lib.hid (fun w k F h => H.push (w := w) (k := k) (F := F) gE3 h gram_e3.2.1 gram_e2.2.2 gram_e3.2.2 (by decide) ⟨by decide, by decide, by decide, by decide⟩ ⟨by decide, by decide⟩)
 rw [hE1, gram_e1.1] at HP1
 rw [hE2, gram_e2.1] at HP2
 rw [hE3, gram_e3.1] at HP3
 have ha1 : GS.new.after gE1 = some (GS.new.push gE1) := by unfold GS.after; rw [if_neg (by rw [gram_e1.1]; decide)]
 have ha2 : (GS.new.push gE1).after gE2 = some ((GS.new.push gE1).push gE2) := by unfold GS.after; rw [if_neg (by rw [gram_e2.1]; decide)]
 rw [ha1] at HP1
 rw [ha2] at HP2
 clear hE1 hE2 hE3 ha1 ha2
 go_enter Try.func4, Try.ntmps4
 go_wp2_with fail
 refine (H1.out _).mono ?_
 rintro r w1 ⟨rfl, hB1⟩
 clear H1
 go_wp2_with fail
 refine (H2.out _).mono ?_
 rintro r w2 ⟨rfl, hb⟩
 have hB2 := hB1.trans (hb.mono hB1.size)
 clear hb H2 hB1
 go_wp2_with fail
 refine (HN.out _).mono ?_
 rintro r w3 ⟨k, F, rfl, hF, hG, hb⟩
 have hB3 := Lib.hid (hB2.trans (hb.mono hB2.size))
 have HF : Hid (∀ i, F i → w.heap.size ≤ i) := Lib.hid (fun i hi => by have := hF i hi; have := hB2.size; omega)
 have HQ1 := Lib.hid (HP1.out _ _ _ hG)
 clear hb HN hB2 hF hG HP1
 go_wp2_with fail
 refine HQ1.out.mono ?_
 rintro r w4 ⟨F4, rfl, hF4, hG, hc⟩
 have hB4 := Lib.hid (hc.to_below hB3.out HF.out)
 have HF4 : Hid (∀ i, F4 i → w.heap.size ≤ i) := Lib.hid (fun i hi => by rcases hF4 i hi with h | h; exact HF.out i h; have := hB3.out.size; omega)
 have HQ2 := Lib.hid (HP2.out _ _ _ hG)
 clear hc hF4 hG HF hB3 HQ1 HP2
 go_wp2_with fail
 refine HQ2.out.mono ?_
 rintro r w5 ⟨F5, rfl, hF5, hG, hc⟩
 have hB5 := Lib.hid (hc.to_below hB4.out HF4.out)
 have HF5 : Hid (∀ i, F5 i → w.heap.size ≤ i) := Lib.hid (fun i hi => by rcases hF5 i hi with h | h; exact HF4.out i h; have := hB4.out.size; omega)
 have HQ3 := Lib.hid (HP3.out _ _ _ hG)
 clear hc hF5 hG HF4 hB4 HQ2 HP3
 go_wp2_with fail
 refine HQ3.out.mono ?_
 rintro r w6 ⟨F6, rfl, hF6, hG, hc⟩
 have hB6 := hc.to_below hB5.out HF5.out
 clear hc hF6 hG HF5 hB5 HQ3
 go_wp2
 go_returns
 exact ⟨rfl, hB6⟩
end Go.Proofs.Ytiiimhamfibdbaa
/- Event by event: what a grammar holds behind the first i, and what Push answers then, over any specification. -/
namespace Go.Proofs.Ytiiimhamfibdbaa
open Go.RowKit Go.PlainAid
set_option linter.unusedVariables false
theorem GS.steps {M : Int} : ∀ (L : List Ev) (s : GS), s.fine M L → (s.op.length : Int) ≤ M + 1 → ∀ (i : Nat) (hi : i < L.length), i ≤ (s.parts L).length →
  (s.run (L.take i)).op ≠ [] ∧ ((s.run (L.take i)).op.length : Int) ≤ M + 1 ∧ (((s.run (L.take i)).push L[i]).op.length : Int) ≤ M + 1 ∧
  (i = (s.parts L).length → ((s.run (L.take i)).push L[i]).part = 0) ∧ (∀ h : i < (s.parts L).length, ((s.run (L.take i)).push L[i]).part = (s.parts L)[i] ∧ (s.parts L)[i] ≠ 0) ∧ (s.cans L → (s.run (L.take i)).can L[i])
 |[], _, _, _, i, hi, _ => absurd hi (Nat.not_lt_zero _)
 |e :: r, s, hf, hm, 0, hi, hp => by
  refine ⟨hf.1, hm, hf.2.1, fun h => ?_, fun h => ?_, fun h => h.1⟩
  ·show (s.push e).part = 0
   by_cases h0 : (s.push e).part = 0
   ·exact h0
   ·have : s.parts (e :: r) = (s.push e).part :: (s.push e).parts r := by rw [GS.parts, if_neg h0]
    rw [this] at h
    simp at h
  ·by_cases h0 : (s.push e).part = 0
   ·have : s.parts (e :: r) = [] := by rw [GS.parts, if_pos h0]
    rw [this] at h
    simp at h
   ·have hq : s.parts (e :: r) = (s.push e).part :: (s.push e).parts r := by rw [GS.parts, if_neg h0]
    have hv : (s.parts (e :: r))[0] = (s.push e).part := by simp only [hq, List.getElem_cons_zero]
    rw [hv]
    exact ⟨rfl, h0⟩
 |e :: r, s, hf, hm, i + 1, hi, hp => by
  by_cases h0 : (s.push e).part = 0
  ·have : s.parts (e :: r) = [] := by rw [GS.parts, if_pos h0]
   rw [this] at hp
   simp at hp
  ·have hq : s.parts (e :: r) = (s.push e).part :: (s.push e).parts r := by rw [GS.parts, if_neg h0]
   have hl : (s.parts (e :: r)).length = ((s.push e).parts r).length + 1 := by rw [hq]; rfl
   obtain ⟨g1, g2, g3, g4, g5, g6⟩ := GS.steps r (s.push e) (hf.2.2 h0) hf.2.1 i (by simpa using hi) (by omega)
   refine ⟨g1, g2, g3, fun h => g4 (by omega), fun h => ?_, fun h => g6 (h.2 h0)⟩
   have h1 := g5 (by omega)
   have hv : (s.parts (e :: r))[i + 1] = ((s.push e).parts r)[i]'(by omega) := by simp only [hq, List.getElem_cons_succ]
   rw [hv]
   exact h1
end Go.Proofs.Ytiiimhamfibdbaa
