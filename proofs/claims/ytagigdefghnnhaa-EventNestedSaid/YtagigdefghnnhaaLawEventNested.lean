/- Of every text of at most 300 bytes (of others the law asks only for the fixed answers) and every depth: elements begin, and are over, one within the other, never more open than the depth says; places never fall; behind a whole element all are over. No condition but the form of the row. -/
import Derived.Test.YtagigdefghnnhaaEvAwake
import Derived.Test.YtagigdefghnnhaaEvNest
import Derived.Test.YtagigdefghnnhaaRows
import Derived.Deep.CutRange
import Derived.Deep.QuietTactic
import Derived.BigQuiet
import Derived.WalkKit
import Derived.ProofKit
import Derived.OpenShut
import Derived.ShutString
import Derived.ChangeOld
import Derived.Below
namespace Go.Proofs.Ytagigdefghnnhaa
open Go.ChangeShapes Go.WideShapes Go.ChangeAt Go.RowKit
open Go.ChangeMaps (open_string shut_string)
set_option linter.unusedSimpArgs false
open Go.PlainAid (bt get_bt bt_nonneg bt_le)
set_option linter.unusedVariables false
set_option maxRecDepth 100000 in
set_option maxHeartbeats 4000000 in
theorem walkEventNested (a0 : ByteArray) (a1 : Int) (b0 : a0.size ≤ maxLen) (b1 : -9223372036854775808 ≤ a1 ∧ a1 ≤ 9223372036854775807) (w : World) :
    Calls Try.prog 6 #[.string a0, .int .i64 a1] w fun e w' => e = .returned (.bool true) ∧ Below w.heap.size w w' := by
  have HG := Lib.hid (great_any a0 b0)
  by_cases hl : (300 : Int) < (a0.size : Int)
  · rw [show decide ((300 : Int) < (a0.size : Int)) = true by simpa using hl] at HG
    clear hl b0 b1
    go_enter Try.func6, Try.ntmps6
    go_wp2_with fail
    refine (awake09_any _).mono ?_
    rintro e w1 ⟨rfl, hB1⟩
    go_wp2_with fail
    refine (HG.out _).mono ?_
    rintro e w2 ⟨rfl, rfl⟩
    go_wp2_with fail
    refine (awake09_any _).mono ?_
    rintro e w3 ⟨rfl, hb⟩
    have hB2 := hB1.trans (hb.mono hB1.size)
    go_wp2
    go_returns
    exact ⟨rfl, hB2⟩
  · rw [show decide ((300 : Int) < (a0.size : Int)) = false by simpa using hl] at HG
    have hs : a0.size ≤ 300 := by omega
    obtain ⟨L, E, P, hw⟩ : ∃ L e p, evW a0 a1 = (L, e, p) := ⟨_, _, _, rfl⟩
    obtain ⟨hna, hnf⟩ := evW_nest hw
    obtain ⟨M, hMd⟩ : ∃ M : Int, ((evMost a1 : Nat) : Int) = M := ⟨_, rfl⟩
    rw [hMd] at hna
    have hM64 : M ≤ 64 := by rw [← hMd]; have := evMost_le a1; omega
    have hMm : M ≤ max a1 0 := by rw [← hMd]; unfold evMost; omega
    obtain ⟨FIN, hFIN⟩ : ∃ FIN, NS.run ⟨0, false, 0⟩ L = FIN := ⟨_, rfl⟩
    rw [hFIN] at hnf
    have HA0 : Hid (NS.all a0 M ⟨0, false, 0⟩ (L.drop 0)) := Lib.hid hna
    have HR0 : Hid (NS.run ⟨0, false, 0⟩ (L.drop 0) = FIN) := Lib.hid hFIN
    have HNF := Lib.hid hnf
    have HC := Lib.hid (fun w => evSpec.whole_is a0 a1 (by omega) b1 hw w)
    have hLn : L.length ≤ 300 := by have := evW_len a0 a1; rw [hw] at this; simp only at this; omega
    clear hl b0 b1 hw hna hnf hFIN hMd
    go_enter Try.func6, Try.ntmps6
    go_wp2_with fail
    refine (awake09_any _).mono ?_
    rintro e w1 ⟨rfl, hB1⟩
    go_wp2_with fail
    refine (HG.out _).mono ?_
    rintro e' w0 ⟨rfl, hw0⟩
    subst hw0
    go_wp2_with fail
    refine (HC.out _).mono ?_
    rintro r w3 ⟨o1, n1, c1, rfl, he1, hn1, hb⟩
    have hB3 := hB1.trans (hb.mono hB1.size)
    have HE1 := Lib.hid he1
    clear hb he1 hB1
    subst hn1
    go_wp2_with fail
    go_loopg [8, 9, 10, 29] L.length (fun gk ov fv pv iv wr => ∃ (i : Nat) (S : NS), ov = .int .i64 S.o ∧ fv = .bool S.f ∧ pv = .int .i64 S.p ∧ iv = .int .i64 (i : Int) ∧ i ≤ L.length ∧ L.length - i ≤ gk ∧ Hid (NS.all a0 M S (L.drop i)) ∧ Hid (NS.run S (L.drop i) = FIN) ∧ Hid (0 ≤ S.o ∧ S.o ≤ 64) ∧ Hid (Below w3.heap.size w3 wr))
    case atStart => exact ⟨0, ⟨0, false, 0⟩, rfl, rfl, rfl, rfl, by omega, by omega, HA0, HR0, Lib.hid ⟨by decide, by decide⟩, Lib.hid (Below.refl _ _)⟩
    case round =>
      obtain ⟨i, S, rfl, rfl, rfl, rfl, hi, hgk, HA, HR, HS, HB⟩ := hrel
      by_cases hlt : i < L.length
      · have hlt2 : (i : Int) < (L.length : Int) := by omega
        have hL := HE1.out.below HB.out
        obtain ⟨g, c, hv, hc1, hcm, hgw⟩ : ∃ g c, Value.slice o1 L.length c1 = .slice (some ⟨g, 0, none⟩) L.length c ∧ L.length ≤ c ∧ c ≤ maxLen ∧ g < wr.heap.size := by
          rcases hL.shape with ⟨_, hh⟩ | hh
          · rw [hh] at hlt; simp at hlt
          · obtain ⟨g, c, q1, q2, q3, _, q4⟩ := hh
            exact ⟨g, c, q1, q2, q3, q4⟩
        injection hv with v1 _ v3
        subst v1 v3
        obtain ⟨e, he⟩ : ∃ e, L[i] = e := ⟨_, rfl⟩
        have hD : L.drop i = e :: L.drop (i + 1) := by rw [List.drop_eq_getElem_cons hlt, he]
        have hA := HA.out
        have hR := HR.out
        rw [hD] at hA hR
        obtain ⟨hgood, hA⟩ := hA
        have hR : NS.run (S.next e) (L.drop (i + 1)) = FIN := hR
        obtain ⟨y0, y1, y2, y3, y4, y5, y6⟩ := hL.evAt i hlt he
        have hc1' : i < c1 := by omega
        obtain ⟨g1, g2, g3, g4, g5, g6, g7⟩ := hgood
        clear hL he hD HA HR
        obtain ⟨x0, x1, x2, x3, x4, x5, x6⟩ := e
        simp only at g1 g2 g3 g4 y0 y1 y2 y3 y4 y5 y6
        obtain ⟨p, rfl⟩ := Int.eq_ofNat_of_zero_le g3
        have hp : p < a0.size := by omega
        have hbt := get_bt a0 p hp
        obtain ⟨so, sf, sp⟩ := S
        simp only at g1 g4
        obtain ⟨S', hS'⟩ : ∃ S', NS.next ⟨so, sf, sp⟩ ⟨x0, (p : Int), x2, x3, x4, x5, x6⟩ = S' := ⟨_, rfl⟩
        rw [hS'] at g5 g6 g7 hA hR
        have HA2 := Lib.hid hA
        have HR2 := Lib.hid hR
        have HS2 : Hid (0 ≤ S'.o ∧ S'.o ≤ 64) := Lib.hid ⟨g5, Int.le_trans g6 hM64⟩
        have hmx : S'.o ≤ max a1 0 := Int.le_trans g6 hMm
        obtain ⟨s0, s1⟩ := HS.out
        simp only at s0 s1
        unfold NS.next at hS'
        simp only at hS'
        have HB4 : Hid (Below w3.heap.size w3 (wr.alloc (evO ⟨x0, (p : Int), x2, x3, x4, x5, x6⟩))) := Lib.hid (HB.out.alloc HB.out.size _)
        have hX : wr.alloc (.cells #[.int .i64 x0, .int .i64 (p : Int), .int .i64 x2, .int .i64 x3, .bool x4, .int .i64 x5, .int .u8 x6] 42) = wr.alloc (evO ⟨x0, (p : Int), x2, x3, x4, x5, x6⟩) := rfl
        have HE4 : Hid (Row (wr.alloc (evO ⟨x0, (p : Int), x2, x3, x4, x5, x6⟩)) wr.heap.size 42 (evC ⟨x0, (p : Int), x2, x3, x4, x5, x6⟩)) := Lib.hid (Row.new wr 42 (evC ⟨x0, (p : Int), x2, x3, x4, x5, x6⟩))
        clear hA hR HS
        go_upto_region 8 with (fail)
        clear hX y0 y1 y2 y3 y4 y5 y6
        generalize wr.alloc (evO ⟨x0, (p : Int), x2, x3, x4, x5, x6⟩) = W at *
        generalize wr.heap.size = kx at *
        obtain ⟨z0, z1, z2, z3, z4, z5, z6⟩ := ev_facts HE4.out
        have hplt : ¬ (p : Int) < sp := by omega
        have hpsz : (p : Int) < (a0.size : Int) := by omega
        by_cases h1 : x0 = 1
        · subst h1
          simp only [if_pos, show ((1 : Int) = 2 ∨ (1 : Int) = 4) ↔ False by decide, if_false] at hS'
          subst hS'
          simp only [show decide ((1 : Int) = 2) = false from rfl, show decide ((1 : Int) = 3) = false from rfl, Bool.or_self, Bool.or_false, Bool.false_or, Bool.true_or, Bool.or_true] at g5 g6 g7 hmx
          subst g7
          clear hR g4
          go_wp2_with fail
          go_roundg (L.length - (i + 1))
          case measure => omega
          case rel => exact ⟨i + 1, _, rfl, rfl, rfl, by simp, by omega, by omega, HA2, HR2, HS2, HB4⟩
        by_cases h5 : x0 = 5
        · subst h5
          simp only [show ((5 : Int) = 1) ↔ False by decide, if_pos, show ((5 : Int) = 2 ∨ (5 : Int) = 4) ↔ False by decide, if_false] at hS'
          subst hS'
          simp only [show decide ((5 : Int) = 2) = false from rfl, show decide ((5 : Int) = 3) = false from rfl, Bool.or_self, Bool.or_false, Bool.false_or, Bool.true_or, Bool.or_true] at g5 g6 g7 hmx
          subst g7
          clear hR g4
          go_wp2_with fail
          go_roundg (L.length - (i + 1))
          case measure => omega
          case rel => exact ⟨i + 1, _, rfl, rfl, rfl, by simp, by omega, by omega, HA2, HR2, HS2, HB4⟩
        by_cases h2 : x0 = 2
        · subst h2
          simp only [show ((2 : Int) = 1) ↔ False by decide, show ((2 : Int) = 5) ↔ False by decide, show ((2 : Int) = 2 ∨ (2 : Int) = 4) ↔ True by decide, if_false, if_true] at hS'
          subst hS'
          simp only [show decide ((2 : Int) = 2) = true from rfl, show decide ((2 : Int) = 3) = false from rfl, Bool.or_self, Bool.or_false, Bool.false_or, Bool.true_or, Bool.or_true] at g5 g6 g7 hmx
          obtain rfl : sf = false := by simpa using g7
          clear g7
          clear hR g4
          go_wp2_with fail
          go_roundg (L.length - (i + 1))
          case measure => omega
          case rel => exact ⟨i + 1, _, rfl, rfl, rfl, by simp, by omega, by omega, HA2, HR2, HS2, HB4⟩
        by_cases h4 : x0 = 4
        · subst h4
          simp only [show ((4 : Int) = 1) ↔ False by decide, show ((4 : Int) = 5) ↔ False by decide, show ((4 : Int) = 2 ∨ (4 : Int) = 4) ↔ True by decide, if_false, if_true] at hS'
          subst hS'
          simp only [show decide ((4 : Int) = 2) = false from rfl, show decide ((4 : Int) = 3) = false from rfl, Bool.or_self, Bool.or_false, Bool.false_or, Bool.true_or, Bool.or_true] at g5 g6 g7 hmx
          obtain rfl : sf = true := by simpa using g7
          clear g7
          clear hR g4
          go_wp2_with fail
          go_roundg (L.length - (i + 1))
          case measure => omega
          case rel => exact ⟨i + 1, _, rfl, rfl, rfl, by simp, by omega, by omega, HA2, HR2, HS2, HB4⟩
        by_cases h3 : x0 = 3
        · subst h3
          simp only [show ((3 : Int) = 1) ↔ False by decide, show ((3 : Int) = 5) ↔ False by decide, show ((3 : Int) = 2 ∨ (3 : Int) = 4) ↔ False by decide, if_false] at hS'
          subst hS'
          simp only [show decide ((3 : Int) = 2) = false from rfl, show decide ((3 : Int) = 3) = true from rfl, Bool.or_self, Bool.or_false, Bool.false_or, Bool.true_or, Bool.or_true] at g5 g6 g7 hmx
          obtain ⟨rfl, hx6⟩ := g4 rfl
          have hx6 : x6 = bt a0 p := hx6
          subst hx6
          clear g7
          clear hR
          go_wp2_with fail
          go_quiet (fail)
          go_wp2_with fail
          go_roundg (L.length - (i + 1))
          case measure => omega
          case rel => exact ⟨i + 1, _, rfl, rfl, rfl, by simp, by omega, by omega, HA2, HR2, HS2, Lib.hid (HB4.out.trans (draws_below' _ _ HB4.out.size))⟩
        simp only [h1, h2, h4, h5, if_false, or_self] at hS'
        subst hS'
        simp only [h2, h3, decide_false, Bool.or_self] at g5 g6 g7 hmx
        subst g7
        clear hR g4
        go_wp2_with fail
        go_roundg (L.length - (i + 1))
        case measure => omega
        case rel => exact ⟨i + 1, _, rfl, rfl, rfl, by simp, by omega, by omega, HA2, HR2, HS2, HB4⟩
      · have hlt2 : ¬ (i : Int) < (L.length : Int) := by omega
        have hie : i = L.length := by omega
        have hR := HR.out
        rw [hie, List.drop_length] at hR
        have hR : S = FIN := hR
        subst hR
        have hBel := hB3.trans (HB.out.mono hB3.size)
        by_cases hE : E = 0
        · obtain ⟨q, hq⟩ := HNF.out hE
          subst hE
          subst hq
          clear HA HR HS HB HNF HA0 HR0 HC HE1
          go_wp2_with fail
          go_returns
          exact ⟨rfl, hBel⟩
        · have hEb : (E != 0) = true := by simpa using hE
          clear HA HR HS HB HNF HA0 HR0 HC HE1
          go_wp2_with fail
          go_returns
          exact ⟨rfl, hBel⟩


/-! ### EventNested: the step from the walk to the statement -/
namespace eventNested
theorem own : ownKnob Try.prog.godebug = none := by kernel_rfl
set_option maxRecDepth 100000 in
theorem lifted (os : Os) (started : os.Started) (H : Type) (enc : TypeId × Value → H) :
    ReturnsInHanded {} Try.checked os 6 .any (Rows.eventNestedSpec.pre6 enc Try.prog Try.f6 Rows.eventNestedRow.domain false) (Rows.eventNestedSpec.post enc Try.prog Try.f6 false true false false) := by
  refine returnsInHanded_of_change (C := Try.checked) own started (by kernel_rfl) Try.func6
    (ChangeSpec.witness6 (enc := enc) (C := Try.checked) false ⟨#[], #[.string ByteArray.empty, .int .i64 0], []⟩ 8 (by kernel_rfl) (by kernel_rfl) (by kernel_rfl) (by kernel_rfl)) ?_
  intro W base args ds gs before hval0 hW hcnd _
  have hval : ∀ (j : Nat) t v, Try.f6.params[j]? = some t → args[j]? = some v → Value.okWide Try.prog W .any base t v := hval0
  have hW' := hW
  obtain ⟨p, q, hA0, hV, rfl, hfz, hnd⟩ := hW
  have hA : DataW.TrodAll enc Try.prog W 0 (fun _ => true) true Try.f6.params.toList args.toList ds p := hA0
  rw [Try.params6] at hA hval
  obtain ⟨v0, vs0, d0, ds0, p0, q0, hargs, rfl, rfl, h0, r0⟩ := trodAll_cons hA
  obtain ⟨v1, vs1, d1, ds1, p1, q1, rfl, rfl, rfl, h1, r1⟩ := trodAll_cons r0
  obtain ⟨rfl, rfl, rfl⟩ := trodAll_nil r1
  obtain rfl : args = #[v0, v1] := by cases args; simp_all
  obtain ⟨rfl, rfl⟩ := trodVars_none hV
  obtain ⟨a0, rfl, rfl, rfl, w0⟩ := open_string Try.underlying9 (hval 0 9 v0 rfl rfl) h0
  obtain ⟨a1, rfl, rfl, rfl, w1⟩ := open_int Try.underlying3 (hval 1 3 v1 rfl rfl) h1
  clear hA0 hval0
  simp only [List.append_nil] at hW'
  refine (walkEventNested a0 a1 w0 (bounds_i64 w1) W).mono fun e W' ⟨he, bel⟩ => ?_
  subst he
  exact ⟨_, rfl, _, _, _, [], [], [], hW', trodAll_mk1 (shut_bool Try.underlying4 _), (trodAll_cons_mk (shut_string Try.underlying9 w0) (trodAll_cons_mk (shut_int Try.underlying3 w1) trodAll_mk0)), rfl, bel.frame _, fun h => by cases h⟩
theorem over : Rows.eventNestedRow.holds Try.pinned (OpenSpec.ofChange Rows.eventNestedSpec) :=
  OpenClaim.holds_of_wide 6 Try.f6 rfl rfl rfl rfl rfl rfl rfl ⟨rfl, rfl, rfl, rfl, rfl⟩ rfl rfl rfl rfl rfl (by kernel_rfl) Try.func6 (by kernel_rfl)
    (of_decide_eq_true (by kernel_rfl)) (by unfold Func.isWrapper; first | (rw [if_pos (by decide +kernel)]; kernel_rfl) | (rw [if_neg (by decide +kernel)]; exact ⟨rfl, rfl⟩))
    (fun os started H enc _ => lifted os started H enc)
/-- THE STATEMENT. -/
theorem proved : Rows.EventNestedSaid := over
end eventNested
end Go.Proofs.Ytagigdefghnnhaa
