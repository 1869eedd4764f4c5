/- Package order's sorter: Reset. -/
import Derived.Test.YtnlhpldjficecaaOrdCode
namespace Go.Proofs.Ytnlhpldjficecaa
open Go.RowKit Go.PlainAid
set_option linter.unusedVariables false
set_option maxRecDepth 100000 in
set_option maxHeartbeats 8000000 in
theorem soResets : OrdResets SoAt := by
  intro w k F m hA hOk
  obtain ⟨v, came, first, l, hR, hH, hE⟩ := hA
  obtain ⟨most, prev, last, n, e⟩ := m
  have q0 : w.cell? ⟨k, 0, none⟩ = some (.int .i64 (most : Int)) := hR.cell 0
  have q1 : w.cell? ⟨k, 1, none⟩ = some v := hR.cell 1
  have q2 : w.cell? ⟨k, 2, none⟩ = some (.int .i64 came) := hR.cell 2
  have q3 : w.cell? ⟨k, 3, none⟩ = some (.bool first) := hR.cell 3
  have q4 : w.cell? ⟨k, 4, none⟩ = some (.int .i64 e) := hR.cell 4
  have f0 := hR.frozen 0
  have f1 := hR.frozen 1
  have f2 := hR.frozen 2
  have f3 := hR.frozen 3
  have f4 := hR.frozen 4
  have hkw := hR.lt
  have hT : ∀ (v' : Value), Hi w k F v' [] → SoAt (((((w.setCell ⟨k, 0, none⟩ (.int .i64 (most : Int))).setCell ⟨k, 1, none⟩ v').setCell ⟨k, 2, none⟩ (.int .i64 0)).setCell ⟨k, 3, none⟩ (.bool false)).setCell ⟨k, 4, none⟩ (.int .i64 0)).drew k F ⟨most, [], [], 0, 0⟩ ∧ Chg F w (((((w.setCell ⟨k, 0, none⟩ (.int .i64 (most : Int))).setCell ⟨k, 1, none⟩ v').setCell ⟨k, 2, none⟩ (.int .i64 0)).setCell ⟨k, 3, none⟩ (.bool false)).setCell ⟨k, 4, none⟩ (.int .i64 0)).drew := by
    intro v' hv
    have h2 := ((((hR.set 0 (.int .i64 (most : Int))).set 1 v').set 2 (.int .i64 0)).set 3 (.bool false)).set 4 (.int .i64 0)
    have hv2 := hi_set (hi_set (hi_set (hi_set (hi_set hv 0 (.int .i64 (most : Int))) 1 v') 2 (.int .i64 0)) 3 (.bool false)) 4 (.int .i64 0)
    have hc := chg_set2 hH.self (chg_set2 hH.self (chg_set2 hH.self (chg_set2 hH.self (chg_set2 hH.self (chg_none F w) 0 (.int .i64 (most : Int))) 1 v') 2 (.int .i64 0)) 3 (.bool false)) 4 (.int .i64 0)
    generalize ((((w.setCell ⟨k, 0, none⟩ (.int .i64 (most : Int))).setCell ⟨k, 1, none⟩ v').setCell ⟨k, 2, none⟩ (.int .i64 0)).setCell ⟨k, 3, none⟩ (.bool false)).setCell ⟨k, 4, none⟩ (.int .i64 0) = Z at *
    exact ⟨⟨v', 0, false, [], h2.below (Below.refl _ _).drew h2.lt, hi_drew hv2 1, fun _ => ⟨rfl, keeps_new most 0 0⟩⟩, ⟨hc.os, hc.tape, hc.output, hc.size, hc.block⟩⟩
  have HT := Lib.hid hT
  clear hT hR hE hOk
  rcases hH with ⟨rfl, rfl, hF⟩ | ⟨g, hS, hkg, hF⟩
  · have HH : Hid (Hi w k F (.slice none 0 0) []) := Lib.hid (.inl ⟨rfl, rfl, hF⟩)
    clear hF
    go_enter Try.func17, Try.ntmps17
    go_wp2_with fail
    go_region
    all_goals
      go_wp2
      go_returns
      exact ⟨F, rfl, fun i hi => .inl hi, (HT.out _ HH.out).1, (HT.out _ HH.out).2⟩
  · obtain ⟨cap, rfl, hlc, hcm⟩ := hS.open (n := l.length) (u8s_length l)
    have HH : Hid (Hi w k F (.slice (some ⟨g, 0, none⟩) 0 cap) []) := Lib.hid (.inr ⟨g, hS.front (k := 0) (Nat.zero_le _), hkg, hF⟩)
    generalize l.length = L at *
    clear hF hS
    go_enter Try.func17, Try.ntmps17
    go_wp2_with fail
    go_region
    all_goals
      go_wp2
      go_returns
      exact ⟨F, rfl, fun i hi => .inl hi, (HT.out _ HH.out).1, (HT.out _ HH.out).2⟩
end Go.Proofs.Ytnlhpldjficecaa
