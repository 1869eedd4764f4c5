/- Of every arcs and one more (of more than 100 the law asks only for the fixed answers): the content with it is the content, and what it has of its own. No condition but the form of the row. -/
import Derived.Test.YtjdkpdaekmogkaaOidAwake
import Derived.Test.YtjdkpdaekmogkaaRows
import Derived.WalkKit
import Derived.ProofKit
import Derived.OpenShut
import Derived.ShutString
import Derived.ChangeOld
import Derived.Below
import Derived.Carry
namespace Go.Proofs.Ytjdkpdaekmogkaa
open Go.ChangeShapes Go.WideShapes Go.ChangeAt Go.RowKit
open Go.ChangeMaps (open_string shut_string)
set_option linter.unusedVariables false
open Go.PlainAid in
set_option maxRecDepth 100000 in
set_option maxHeartbeats 4000000 in
theorem walkOidParts (o0 : Option Addr) (c0 : Nat) (a0 : List Int) (a1 : Int) (lc0 : a0.length ≤ c0) (cm0 : c0 ≤ maxLen) (el0 : ∀ x ∈ a0, inK .u64 x) (b1 : 0 ≤ a1 ∧ a1 ≤ 18446744073709551615) (w : World) (ca0 : Came w o0 (ivs .u64 a0)) :
    Calls Try.prog 7 #[.slice o0 a0.length c0, .int .u64 a1] w fun e w' => e = .returned (.bool true) ∧ Below w.heap.size w w' := by
  have hc9 : (c0 : Int) ≤ 9223372036854775807 := by unfold maxLen at cm0; omega
  by_cases hl : (100 : Int) < (a0.length : Int)
  · clear el0 ca0
    go_enter Try.func7, Try.ntmps7
    go_wp2_with fail
    refine (awake11_any _).mono ?_
    rintro e w1 ⟨rfl, hB1⟩
    go_wp2_with fail
    refine (awake11_any _).mono ?_
    rintro e w2 ⟨rfl, hb⟩
    have hB2 := hB1.trans (hb.mono hB1.size)
    go_wp2
    go_returns
    exact ⟨rfl, hB2⟩
  · have hl2 : (a0.length : Int) ≤ 100 := by omega
    have HC := Lib.hid ca0
    have hel1 : ∀ x ∈ a0 ++ [a1], inK .u64 x := by
      intro x hx
      rcases List.mem_append.1 hx with h | h
      · exact el0 x h
      · have : x = a1 := by simpa using h
        rw [this]; exact b1
    have hll : (a0 ++ [a1]).length = a0.length + 1 := by simp
    have HP := Lib.hid (fun o c hlc hcm w hc => oidPut_any o c a0 (by omega) hlc hcm el0 w hc)
    have HP2 := Lib.hid (fun o c hlc hcm w hc => oidPut_any o c (a0 ++ [a1]) (by omega) hlc hcm hel1 w hc)
    rw [hll] at HP2
    have hsz := opS_size a0 el0
    have HBAD := Lib.hid (arcs_bad a0 a1)
    have HMORE := Lib.hid (fun h => op_more a0 a1 h b1.2)
    clear el0 ca0 hel1 hll
    go_enter Try.func7, Try.ntmps7
    go_wp2_with fail
    refine (awake11_any _).mono ?_
    rintro e w1 ⟨rfl, hB1⟩
    go_wp2_with (at_builtin; refine wpList_append_u64 rfl (.tmp 18) (.tmp 19) rfl (l := []) (g := w1.heap.size) rfl (sl_new_u64 w1 [] (by simp [maxLen])) o0 a0.length c0 a0 rfl rfl (((HC.out.below hB1).alloc _)) (by simp; omega) ?_)
    intro v2 w2 g2 hs hg hgr
    obtain ⟨d2, rfl, hd2, hm2⟩ := hs.open (n := a0.length) (by simp [ivs])
    have hB2 := ((hB1.alloc hB1.size (.cells #[] 40))).grown hgr (by have := hB1.size; simp; omega) (by intro k hk; cases hk; exact hB1.size)
    have HN2 : Hid (Came w2 (some ⟨g2, 0, none⟩) (ivs .u64 a0)) := Lib.hid (Came.sl hs)
    clear hs hg hgr hB1
    go_wp2_with fail
    refine (HP.out _ _ hd2 hm2 _ HN2.out).mono ?_
    rintro e w3 ⟨rfl, hb⟩
    have hB3 := hB2.trans (hb.mono hB2.size)
    clear hb hB2
    clear hd2 hm2 HN2
    go_wp2_with (at_builtin; refine wpList_append_u64 rfl (.tmp 25) (.tmp 26) rfl (l := []) (g := w3.heap.size) rfl (sl_new_u64 w3 [] (by simp [maxLen])) o0 a0.length c0 a0 rfl rfl (((HC.out.below hB3).alloc _)) (by simp; omega) ?_)
    intro v4 w4 g4 hs hg hgr
    obtain ⟨d4, rfl, hd4, hm4⟩ := hs.open (n := a0.length) (by simp [ivs])
    have hB4 := ((hB3.alloc hB3.size (.cells #[] 40))).grown hgr (by have := hB3.size; simp; omega) (by intro k hk; cases hk; exact hB3.size)
    have hg4 : w.heap.size ≤ g4 := by have := hB3.size; rcases hg with h | h <;> first | omega | (simp at h; omega)
    have HS4 : Hid (Sl w4 40 (.slice (some ⟨g4, 0, none⟩) a0.length d4) (ivs .u64 a0) g4) := Lib.hid hs
    clear hs hg hgr hB3
    go_wp2_with (at_builtin; refine wpList_append_u64 rfl (.tmp 27) (.tmp 29) rfl (l := a0) (g := g4) rfl (HS4.out.alloc _) (some ⟨w4.heap.size, 0, none⟩) 1 1 [a1] rfl rfl (Came.sl (sl_new_u64 w4 [a1] (by simp [maxLen]))) (by simp; omega) ?_)
    intro v5 w5 g5 hs hg hgr
    obtain ⟨d5, rfl, hd5, hm5⟩ := hs.open (n := a0.length + 1) (by simp [ivs])
    have hsz4 := hB4.size
    have hB5 := ((hB4.alloc hB4.size (.cells (ivs .u64 [a1]).toArray 40))).grown hgr (by simp; omega) (by intro k hk; cases hk; exact hg4)
    have HN5 : Hid (Came w5 (some ⟨g5, 0, none⟩) (ivs .u64 (a0 ++ [a1]))) := Lib.hid (Came.sl hs)
    clear hs hg hgr hB4 hsz4
    go_wp2_with fail
    refine (HP2.out _ _ hd5 hm5 _ HN5.out).mono ?_
    rintro e w6 ⟨rfl, hb⟩
    have hB6 := hB5.trans (hb.mono hB5.size)
    clear hb hB5
    cases hok : arcsOk a0
    · have hw : a0.length < 2 ∨ (¬ a0.length < 2 ∧ arcsOk (a0 ++ [a1]) = false) := by
        rcases HBAD.out hok with h | h
        · exact .inl h
        · by_cases h2 : a0.length < 2
          · exact .inl h2
          · exact .inr ⟨h2, h⟩
      generalize opS a0 = s at *
      generalize opS (a0 ++ [a1]) = t at *
      rcases hw with h2 | ⟨h2, h3⟩
      · have h2i : (a0.length : Int) < 2 := by omega
        generalize arcsOk (a0 ++ [a1]) = z at *
        clear HBAD HMORE
        go_wp2
        go_returns
        exact ⟨rfl, hB6⟩
      · rw [h3]
        have h2i : ¬ (a0.length : Int) < 2 := by omega
        clear HBAD HMORE
        go_wp2
        go_returns
        exact ⟨rfl, hB6⟩
    · obtain ⟨p1, p2, p3, p4⟩ := HMORE.out hok
      rw [p1, p2]
      have hs9 : (opS a0).size ≤ 1000 := by omega
      generalize opS a0 = s at *
      generalize strOfNums (oB a1) = t at *
      have hp3 : (1 : Int) ≤ (t.size : Int) := by omega
      have hp4 : (t.size : Int) ≤ 10 := by omega
      have hta : (s ++ t).size = s.size + t.size := by rw [ByteArray.size_append]
      have htk : (s ++ t).extract 0 s.size = s := by
        apply bl_inj
        rw [bl_extract _ _ _ (by rw [ByteArray.size_append]; omega), bl_append, List.drop_zero, Nat.sub_zero, List.take_left' (bl_length s)]
      clear HBAD HMORE p1 p2 hok
      go_wp2
      go_returns
      exact ⟨rfl, hB6⟩


/-! ### OidParts: the step from the walk to the statement -/
namespace oidParts
theorem own : ownKnob Try.prog.godebug = none := by kernel_rfl
theorem laidOut : laidOutB Try.prog = true := by kernel_rfl
set_option maxRecDepth 100000 in
theorem lifted (os : Os) (started : os.Started) (H : Type) (enc : TypeId × Value → H) :
    ReturnsInHanded {} Try.checked os 7 .any (Rows.oidPartsSpec.pre6 enc Try.prog Try.f7 Rows.oidPartsRow.domain false) (Rows.oidPartsSpec.post enc Try.prog Try.f7 false true false false) := by
  refine returnsInHanded_of_change (C := Try.checked) own started (by kernel_rfl) Try.func7
    (ChangeSpec.witness6 (enc := enc) (C := Try.checked) false ⟨#[], #[.slice none 0 0, .int .u64 0], []⟩ 8 (by kernel_rfl) (by kernel_rfl) (by kernel_rfl) (by kernel_rfl)) ?_
  intro W base args ds gs before hval0 hW hcnd _
  have hval : ∀ (j : Nat) t v, Try.f7.params[j]? = some t → args[j]? = some v → Value.okWide Try.prog W .any base t v := hval0
  have hW' := hW
  obtain ⟨p, q, hA0, hV, rfl, hfz, hnd⟩ := hW
  have hA : DataW.TrodAll enc Try.prog W 0 (fun _ => true) true Try.f7.params.toList args.toList ds p := hA0
  rw [Try.params7] at hA hval
  obtain ⟨v0, vs0, d0, ds0, p0, q0, hargs, rfl, rfl, h0, r0⟩ := trodAll_cons hA
  obtain ⟨v1, vs1, d1, ds1, p1, q1, rfl, rfl, rfl, h1, r1⟩ := trodAll_cons r0
  obtain ⟨rfl, rfl, rfl⟩ := trodAll_nil r1
  obtain rfl : args = #[v0, v1] := by cases args; simp_all
  obtain ⟨rfl, rfl⟩ := trodVars_none hV
  obtain ⟨o0, len0, c0, rfl⟩ := okWide_slice Try.underlying30 (hval 0 30 v0 rfl rfl)
  have k0 := h0
  have lt0 : ∀ x ∈ p0, x.block < W.heap.size := by obtain ⟨m, hm⟩ := k0; exact DataW.trod_lt m _ _ _ hm
  obtain ⟨a0, rfl, lc0, cm0, ca0, el0⟩ := (came_ints Try.underlying30 Try.underlying40 (by kernel_rfl) h0)
  obtain ⟨a1, rfl, rfl, rfl, w1⟩ := open_int Try.underlying40 (hval 1 40 v1 rfl rfl) h1
  clear hA0 hval0
  refine (walkOidParts o0 c0 a0 a1 lc0 cm0 el0 (bounds_u64 w1) W ca0).mono fun e W' ⟨he, bel⟩ => ?_
  subst he
  exact ⟨_, rfl, _, _, _, [], _, [], hW', trodAll_mk1 (shut_bool Try.underlying4 _), (trodAll_cons_mk (Below.trod laidOut (by kernel_rfl) (of_decide_eq_true (by kernel_rfl)) k0 bel lt0) (trodAll_cons_mk (shut_int Try.underlying40 w1) trodAll_mk0)), rfl, bel.frame _, fun h => by cases h⟩
theorem over : Rows.oidPartsRow.holds Try.pinned (OpenSpec.ofChange Rows.oidPartsSpec) :=
  OpenClaim.holds_of_wide 7 Try.f7 rfl rfl rfl rfl rfl rfl rfl ⟨rfl, rfl, rfl, rfl, rfl⟩ rfl rfl rfl rfl rfl (by kernel_rfl) Try.func7 (by kernel_rfl)
    (of_decide_eq_true (by kernel_rfl)) (by unfold Func.isWrapper; first | (rw [if_pos (by decide +kernel)]; kernel_rfl) | (rw [if_neg (by decide +kernel)]; exact ⟨rfl, rfl⟩))
    (fun os started H enc _ => lifted os started H enc)
/-- THE STATEMENT. -/
theorem proved : Rows.OidPartsSaid := over
end oidParts
end Go.Proofs.Ytjdkpdaekmogkaa
