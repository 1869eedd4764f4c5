/- Of every text and depth (of texts of more than 500 bytes the law asks only for the fixed answers): event by event the part is told, up to the first event that is wrong; and from then on that it is. No condition but the form of the row. -/
import Derived.Test.YtiiimhamfibdbaaGreatM7
import Derived.Test.YtiiimhamfibdbaaGreatM3
import Derived.Test.YtiiimhamfibdbaaGreatQ4
import Derived.Test.YtiiimhamfibdbaaGreatE4
import Derived.Test.YtiiimhamfibdbaaGreatRows
import Derived.Deep.Cut
import Derived.Deep.QuietTactic
import Derived.BigQuiet
import Derived.WalkKit
import Derived.ProofKit
import Derived.OpenShut
import Derived.ShutString
import Derived.ChangeOld
import Derived.Below
namespace Go.Proofs.YtiiimhamfibdbaaGreat
open Go.ChangeShapes Go.WideShapes Go.ChangeAt Go.RowKit
open Go.ChangeMaps (open_string shut_string)
set_option linter.unusedVariables false
open Go.PlainAid in
set_option maxRecDepth 100000 in
set_option maxHeartbeats 16000000 in
theorem walkGrammarParts (a0 : ByteArray) (a1 : Int) (b0 : a0.size ≤ maxLen) (b1 : -9223372036854775808 ≤ a1 ∧ a1 ≤ 9223372036854775807) (w : World) :
  Calls Tryz.prog 3 #[.string a0, .int .i64 a1] w fun e w' => e = .returned (.bool true) ∧ Below w.heap.size w w' := by
 by_cases hl : (500 : Int) < (a0.size : Int)
 ·go_enter Tryz.func3, Tryz.ntmps3
  go_wp2_with fail
  refine (gramSpec.new _).mono ?_
  rintro r w1 ⟨kc, F, rfl, _, _, hB1⟩
  go_wp2_with fail
  refine (awake20_is _).mono ?_
  rintro e w2 ⟨rfl, hb⟩
  have hB2 := hB1.trans (hb.mono hB1.size)
  clear hb hB1
  go_wp2_with fail
  refine (awake20_is _).mono ?_
  rintro e w3 ⟨rfl, hb⟩
  have hB3 := hB2.trans (hb.mono hB2.size)
  clear hb hB2
  go_wp2
  go_returns
  exact ⟨rfl, hB3⟩
 ·obtain ⟨L, E, Q, hw⟩ : ∃ L e p, evW a0 a1 = (L, e, p) := ⟨_, _, _, rfl⟩
  have HR := Lib.hid (fun w => refEvWhole_is a0 a1 (by omega) b1 hw w)
  have hln := evW_len a0 a1
  rw [hw] at hln
  have HLN : Hid (L.length ≤ 500) := Lib.hid (by have h : L.length ≤ a0.size := hln; omega)
  have HBd := Lib.hid (VS.bounds (evW_fits b0 hw))
  have HFine := Lib.hid (evW_fine b0 hw).1
  have HKind := Lib.hid (evW_fine b0 hw).2
  have HCans := Lib.hid (evW_cans hw (evW_fine b0 hw).2)
  clear hw hln b0 b1
  go_enter Tryz.func3, Tryz.ntmps3
  go_wp2_with fail
  refine (gramSpec.new _).mono ?_
  rintro r w1 ⟨kc, F, rfl, hF, hV, hB1⟩
  have HF := Lib.hid hF
  have HV1 := Lib.hid hV
  clear hF hV
  go_wp2_with fail
  refine (awake20_is _).mono ?_
  rintro r w2 ⟨rfl, hb⟩
  have hB2 := Lib.hid (hB1.trans (hb.mono hB1.size))
  have HV2 := Lib.hid (gramSpec.aside HV1.out (Chg.of_below hb) (F' := fun _ => False) (fun _ _ h => h))
  have hlt2 : w1.heap.size ≤ w2.heap.size := hb.size
  have HFL : Hid (∀ j, F j → j < w2.heap.size) := Lib.hid (fun j hj => gramSpec.lt HV2.out j hj)
  clear hb hB1 HV1
  go_wp2_with fail
  refine (HR.out _).mono ?_
  rintro r w3 ⟨o1, n1, c1, rfl, he1, hn1, hb⟩
  subst hn1
  have hB3 := Lib.hid (hB2.out.trans (hb.mono hB2.out.size))
  have HE3 := Lib.hid he1
  have HV3 := Lib.hid (gramSpec.aside HV2.out (Chg.of_below hb) (F' := fun _ => False) (fun _ _ h => h))
  have hlt3 : w2.heap.size ≤ w3.heap.size := hb.size
  have hfd : ∀ (W : World), (Instr.field 27 (.agg #[.slice o1 L.length c1, .int .i64 E, .int .i64 (Q : Int)]) 0).run Tryz.prog W = .ok (.slice o1 L.length c1) W := fun _ => rfl
  clear he1 hb hB2 HV2 HR
  have HG := Lib.hid (refGParts_any HE3.out (by have := HLN.out; omega) HFine.out HKind.out)
  go_wp2_with fail
  refine HG.out.mono ?_
  rintro r w4 ⟨v6, g6, rfl, hsl, hg6, hb⟩
  obtain ⟨PL, hPL⟩ : ∃ n, (partsG L).length = n := ⟨_, rfl⟩
  obtain ⟨cl, hcl, hcl1, hcl2⟩ := hsl.open (n := PL) (by rw [i64s_length]; exact hPL)
  subst hcl
  have HPL := Lib.hid hPL
  have HB4 := Lib.hid (hB3.out.trans (hb.mono hB3.out.size))
  have HE4 := Lib.hid (HE3.out.below hb)
  have HS4 := Lib.hid hsl
  have HV4 := Lib.hid (gramSpec.aside HV3.out (Chg.of_below hb) (F' := fun _ => False) (fun _ _ h => h))
  have HV4 : Hid (GAt w4 kc F (gramAt L 0)) := Lib.hid (by rw [gramAt_zero]; exact HV4.out)
  have hlt4 : w3.heap.size ≤ w4.heap.size := hb.size
  have hg4 : g6 < w4.heap.size := HS4.out.lt
  have HDS : Hid (¬ F g6) := Lib.hid (fun h => by have := HFL.out g6 h; omega)
  clear hb hsl hB3 HV3 HE3 HG hPL hg6
  have HFl : Hid (∀ j, F j → j < w2.heap.size) := HFL
  clear HFL
  have hL500 : L.length ≤ 500 := HLN.out
  go_wp2_with fail
  go_loopg [33] L.length (fun gk iv wr => ∃ (i : Nat) (G : Nat → Prop), iv = .int .i64 (i : Int) ∧ i ≤ L.length ∧ L.length - i ≤ gk ∧ Hid (GAt wr kc G (gramAt L i)) ∧ Hid (Evs wr w2.heap.size (.slice o1 L.length c1) L) ∧ Hid (Sl wr 3 (.slice (some ⟨g6, 0, none⟩) PL cl) (i64s (partsG L)) g6) ∧ Hid (∀ j, G j → w.heap.size ≤ j) ∧ Hid (∀ j, (Value.slice o1 L.length c1).ownBlock = some j → ¬ G j) ∧ Hid (¬ G g6) ∧ Hid (Below w.heap.size w wr))
  case atStart =>
   refine ⟨0, F, rfl, by omega, by omega, HV4, HE4, HS4, HF, Lib.hid (fun j hj hF => ?_), HDS, HB4⟩
   have h1 := HFl.out j hF
   have h2 := (HE4.out.lt j hj).1
   omega
  case round =>
   clear HV4 HE4 HS4 HF HFl HDS HB4
   obtain ⟨i, G, rfl, hi, hgk, HV, HE, HS, HG, HD, HDS, HB⟩ := hrel
   by_cases hlt : i < L.length
   ·have hlt2 : (i : Int) < (L.length : Int) := by omega
    obtain ⟨g, c, hv, hc1, hcm, hgw⟩ : ∃ g c, Value.slice o1 L.length c1 = .slice (some ⟨g, 0, none⟩) L.length c ∧ L.length ≤ c ∧ c ≤ maxLen ∧ g < wr.heap.size := by
     rcases HE.out.shape with ⟨_, hh⟩ | hh
     ·rw [hh] at hlt; simp at hlt
     ·obtain ⟨g, c, q1, q2, q3, _, q4⟩ := hh
      exact ⟨g, c, q1, q2, q3, q4⟩
    injection hv with v1 _ v3
    subst v1 v3
    obtain ⟨⟨x0, x1, x2, x3, x4, x5, x6⟩, he⟩ : ∃ e, L[i] = e := ⟨_, rfl⟩
    have HPU := Lib.hid (fun W K (h : GAt W kc K (gramAt L i)) => gramSpec.push_at HFine.out HCans.out HKind.out HBd.out i hlt h)
    rw [he] at HPU
    obtain ⟨y0, y1, y2, y3, y4, y5, y6⟩ := HE.out.evAt i hlt he
    have hc1' : i < c1 := by omega
    have hgs : g6 < wr.heap.size := HS.out.lt
    clear he
    go_upto_region 9 with (fail)
    have HX : Hid (Row (wr.alloc (.cells #[.int .i64 x0, .int .i64 x1, .int .i64 x2, .int .i64 x3, .bool x4, .int .i64 x5, .int .u8 x6] 34)) wr.heap.size 34 (evC ⟨x0, x1, x2, x3, x4, x5, x6⟩)) := Lib.hid (Row.new wr 34 (evC ⟨x0, x1, x2, x3, x4, x5, x6⟩))
    have hbb : Below wr.heap.size wr (wr.alloc (.cells #[.int .i64 x0, .int .i64 x1, .int .i64 x2, .int .i64 x3, .bool x4, .int .i64 x5, .int .u8 x6] 34)) := (Below.refl _ _).alloc (Nat.le_refl _) _
    have HV5 := Lib.hid (gramSpec.aside HV.out (Chg.of_below hbb) (F' := fun _ => False) (fun _ _ h => h))
    have HE5 := Lib.hid (HE.out.below hbb)
    have HS5 := Lib.hid (HS.out.keep hbb)
    have HB5 := Lib.hid (HB.out.trans (hbb.mono HB.out.size))
    have hgW : g < (wr.alloc (.cells #[.int .i64 x0, .int .i64 x1, .int .i64 x2, .int .i64 x3, .bool x4, .int .i64 x5, .int .u8 x6] 34)).heap.size := Nat.lt_of_lt_of_le hgw hbb.size
    have hsW : g6 < (wr.alloc (.cells #[.int .i64 x0, .int .i64 x1, .int .i64 x2, .int .i64 x3, .bool x4, .int .i64 x5, .int .u8 x6] 34)).heap.size := Nat.lt_of_lt_of_le hgs hbb.size
    clear hbb HV HE HS HB y0 y1 y2 y3 y4 y5 y6
    generalize wr.alloc (.cells #[.int .i64 x0, .int .i64 x1, .int .i64 x2, .int .i64 x3, .bool x4, .int .i64 x5, .int .u8 x6] 34) = W at *
    generalize wr.heap.size = bx at *
    obtain ⟨k0, k1, k2, k3, k4, k5, k6⟩ := ev_facts HX.out
    have HP := Lib.hid (HPU.out W G HV5.out)
    clear HPU HV5
    go_wp2_with fail
    refine HP.out.mono ?_
    rintro r w5 ⟨F5, rfl, hF5, hV5, hc5⟩
    have HE6 := Lib.hid (HE5.out.chg hc5 HD.out)
    have HS6 := Lib.hid (HS5.out.chg20 hc5 HDS.out)
    have HB6 := Lib.hid (hc5.to_below HB5.out HG.out)
    have HG6 : Hid (∀ j, F5 j → w.heap.size ≤ j) := Lib.hid (fun j hj => by
     rcases hF5 j hj with h | h
     ·exact HG.out j h
     ·exact Nat.le_trans HB5.out.size h)
    have HD6 : Hid (∀ j, (Value.slice (some ⟨g, 0, none⟩) L.length c1).ownBlock = some j → ¬ F5 j) := Lib.hid (fun j hj hF => by
     rcases hF5 j hF with h | h
     ·exact HD.out j hj h
     ·have hj2 : g = j := by injection hj
      omega)
    have HDS6 : Hid (¬ F5 g6) := Lib.hid (fun hF => by
     rcases hF5 g6 hF with h | h
     ·exact HDS.out h
     ·omega)
    have HV6 := Lib.hid hV5
    clear hc5 hF5 hV5 HE5 HS5 HB5 HG HD HDS HP k0 k1 k2 k3 k4 k5 k6 HX
    by_cases hp : i < PL
    ·have hp2 : (i : Int) < (PL : Int) := by omega
     have hp3 : ¬ (PL : Int) ≤ (i : Int) := by omega
     have hp4 : i < (partsG L).length := by rw [HPL.out]; exact hp
     have hcl3 : i < cl := by omega
     obtain ⟨e1, e2⟩ := partAt_lt hp4
     rw [e1, e2]
     obtain ⟨P, hP⟩ : ∃ P, (partsG L)[i] = P := ⟨_, rfl⟩
     have z : w5.cell? ⟨g6, i, none⟩ = some (.int .i64 P) := by
      have h := HS6.out.cell (i := i) (by rw [i64s_length]; exact hp4)
      rw [i64s_get, hP] at h
      exact h
     rw [hP]
     clear e1 e2 hP
     go_wp2_with fail
     go_roundg (L.length - (i + 1))
     case measure => omega
     case rel => exact ⟨i + 1, F5, by simp, by omega, by omega, HV6, HE6, HS6, HG6, HD6, HDS6, HB6⟩
    ·have hp2 : ¬ (i : Int) < (PL : Int) := by omega
     have hp3 : (PL : Int) ≤ (i : Int) := by omega
     have hp4 : (partsG L).length ≤ i := by rw [HPL.out]; omega
     obtain ⟨e1, e2⟩ := partAt_ge hp4
     rw [e1, e2]
     clear e1 e2
     go_wp2_with fail
     go_roundg (L.length - (i + 1))
     case measure => omega
     case rel => exact ⟨i + 1, F5, by simp, by omega, by omega, HV6, HE6, HS6, HG6, HD6, HDS6, HB6⟩
   ·have hlt2 : ¬ (i : Int) < (L.length : Int) := by omega
    have hBf := HB.out
    clear HFine HKind HBd HV HE HS HG HD HDS HB
    go_wp2
    go_returns
    exact ⟨rfl, hBf⟩


/-! ### GrammarParts: the step from the walk to the statement -/
namespace grammarParts
theorem own : ownKnob Tryz.prog.godebug = none := by kernel_rfl
set_option maxRecDepth 100000 in
theorem lifted (os : Os) (started : os.Started) (H : Type) (enc : TypeId × Value → H) :
  ReturnsInHanded {} Tryz.checked os 3 .any (Rows.grammarPartsSpec.pre6 enc Tryz.prog Tryz.f3 Rows.grammarPartsRow.domain false) (Rows.grammarPartsSpec.post enc Tryz.prog Tryz.f3 false true false false) := by
 refine returnsInHanded_of_change (C := Tryz.checked) own started (by kernel_rfl) Tryz.func3
  (ChangeSpec.witness6 (enc := enc) (C := Tryz.checked) false ⟨#[], #[.string ByteArray.empty, .int .i64 0], []⟩ 8 (by kernel_rfl) (by kernel_rfl) (by kernel_rfl) (by kernel_rfl)) ?_
 intro W base args ds gs before hval0 hW hcnd _
 have hval : ∀ (j : Nat) t v, Tryz.f3.params[j]? = some t → args[j]? = some v → Value.okWide Tryz.prog W .any base t v := hval0
 have hW' := hW
 obtain ⟨p, q, hA0, hV, rfl, hfz, hnd⟩ := hW
 have hA : DataW.TrodAll enc Tryz.prog W 0 (fun _ => true) true Tryz.f3.params.toList args.toList ds p := hA0
 rw [Tryz.params3] at hA hval
 obtain ⟨v0, vs0, d0, ds0, p0, q0, hargs, rfl, rfl, h0, r0⟩ := trodAll_cons hA
 obtain ⟨v1, vs1, d1, ds1, p1, q1, rfl, rfl, rfl, h1, r1⟩ := trodAll_cons r0
 obtain ⟨rfl, rfl, rfl⟩ := trodAll_nil r1
 obtain rfl : args = #[v0, v1] := by cases args; simp_all
 obtain ⟨rfl, rfl⟩ := trodVars_none hV
 obtain ⟨a0, rfl, rfl, rfl, w0⟩ := open_string Tryz.underlying9 (hval 0 9 v0 rfl rfl) h0
 obtain ⟨a1, rfl, rfl, rfl, w1⟩ := open_int Tryz.underlying3 (hval 1 3 v1 rfl rfl) h1
 clear hA0 hval0
 simp only [List.append_nil] at hW'
 refine (walkGrammarParts a0 a1 w0 (bounds_i64 w1) W).mono fun e W' ⟨he, bel⟩ => ?_
 subst he
 exact ⟨_, rfl, _, _, _, [], [], [], hW', trodAll_mk1 (shut_bool Tryz.underlying4 _), (trodAll_cons_mk (shut_string Tryz.underlying9 w0) (trodAll_cons_mk (shut_int Tryz.underlying3 w1) trodAll_mk0)), rfl, bel.frame _, fun h => by cases h⟩
theorem over : Rows.grammarPartsRow.holds Tryz.pinned (OpenSpec.ofChange Rows.grammarPartsSpec) :=
 OpenClaim.holds_of_wide 3 Tryz.f3 rfl rfl rfl rfl rfl rfl rfl ⟨rfl, rfl, rfl, rfl, rfl⟩ rfl rfl rfl rfl rfl (by kernel_rfl) Tryz.func3 (by kernel_rfl)
  (of_decide_eq_true (by kernel_rfl)) (by unfold Func.isWrapper; first | (rw [if_pos (by decide +kernel)]; kernel_rfl) | (rw [if_neg (by decide +kernel)]; exact ⟨rfl, rfl⟩))
  (fun os started H enc _ => lifted os started H enc)
theorem proved : Rows.GrammarPartsSaid := over
end grammarParts
end Go.Proofs.YtiiimhamfibdbaaGreat
