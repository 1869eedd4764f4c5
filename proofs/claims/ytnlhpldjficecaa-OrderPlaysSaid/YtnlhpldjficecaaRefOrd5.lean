/- The reference's sorter in memory: End. Of at most 1000000 elements. -/
import Derived.Test.YtnlhpldjficecaaRefOrd4
namespace Go.Proofs.Ytnlhpldjficecaa
open Go.RowKit Go.PlainAid
set_option linter.unusedVariables false
theorem below_drewN (w : World) (n : Nat) : Below w.heap.size w (w.drewN n) := ⟨rfl, rfl, rfl, Nat.le_refl _, fun _ _ => rfl⟩
set_option maxRecDepth 100000 in
set_option maxHeartbeats 8000000 in
theorem refSo_fin {w : World} {k : Nat} {F : Nat → Prop} {m : OM} (hA : RefSo w k F m) (hOk : m.Ok) (hn : m.n ≤ 1000000) :
    Calls Try.prog 16 #[.pointer (some ⟨k, 0, none⟩)] w fun r w' => ∃ F', r = .returned (.int .i64 m.fin.e) ∧ (∀ i, F' i → F i ∨ w.heap.size ≤ i) ∧ RefSo w' k F' m.fin ∧ Chg F w w' := by
  obtain ⟨all, g, v, hR, hS, hkg, hF, hAll⟩ := hA
  obtain ⟨most, prev, last, n, e⟩ := m
  have HF := Lib.hid hF
  clear hF
  obtain ⟨c, rfl, hc1, hc2⟩ := sl_open_at hS hAll.len
  have q0 : w.cell? ⟨k, 0, none⟩ = some (.int .i64 most) := hR.cell 0
  have q1 : w.cell? ⟨k, 1, none⟩ = some (.slice (some ⟨g, 0, none⟩) (n + 1) c) := hR.cell 1
  have q2 : w.cell? ⟨k, 2, none⟩ = some (.int .i64 e) := hR.cell 2
  have f2 := hR.frozen 2
  replace hn : n ≤ 1000000 := hn
  by_cases he : e = 0
  · subst he
    have HR := Lib.hid hR
    have HS := Lib.hid hS
    have HA := Lib.hid hAll
    have hlB : IsB last := hOk.last
    have hpl : prev.length ≤ 65536 := Nat.le_trans hOk.plen hOk.most
    have hll : last.length ≤ 65536 := Nat.le_trans hOk.len hOk.most
    clear hR hS hAll hOk
    by_cases hn0 : n = 0
    · subst hn0
      have hp0 : prev = [] := HA.out.none rfl
      have HP : Hid ((OM.mk most prev last 0 0).fin = ⟨most, last, [], 0 + 1, 0⟩) := Lib.hid (OM.fin_on rfl (by show ¬ 0 < cmpL prev last; rw [hp0]; exact cmpL_none_ahead hlB))
      clear hlB hp0 hpl hll
      go_enter Try.func16, Try.ntmps16
      go_wp2
      go_quiet (fail)
      have HR1 : Hid (Row (w.drewN nq) k 50 [.int .i64 most, .slice (some ⟨g, 0, none⟩) (0 + 1) c, .int .i64 0]) := Lib.hid (HR.out.below (below_drewN w nq) HR.out.lt)
      have HS1 : Hid (Sl (w.drewN nq) 9 (.slice (some ⟨g, 0, none⟩) (0 + 1) c) (svs all) g) := Lib.hid (HS.out.drewN nq)
      have HB1 : Hid (Below w.heap.size w (w.drewN nq)) := Lib.hid (below_drewN w nq)
      clear q0 q1 q2 f2 HR HS
      generalize w.drewN nq = W at *
      have p1 : W.cell? ⟨k, 1, none⟩ = some (.slice (some ⟨g, 0, none⟩) (0 + 1) c) := HR1.out.cell 1
      have p2 : W.cell? ⟨k, 2, none⟩ = some (.int .i64 0) := HR1.out.cell 2
      have hkW := HR1.out.lt
      have a1 : (W.alloc (.cells #[] 9)).cell? ⟨k, 1, none⟩ = some (.slice (some ⟨g, 0, none⟩) (0 + 1) c) := (HR1.out.alloc _).cell 1
      have a2 : (W.alloc (.cells #[.string ⟨#[]⟩] 9)).cell? ⟨k, 1, none⟩ = some (.slice (some ⟨g, 0, none⟩) (0 + 1) c) := (HR1.out.alloc _).cell 1
      have a3 : ((W.alloc (.cells #[] 9)).alloc (.cells #[.string ⟨#[]⟩] 9)).cell? ⟨k, 1, none⟩ = some (.slice (some ⟨g, 0, none⟩) (0 + 1) c) := ((HR1.out.alloc _).alloc _).cell 1
      have a4 : ((W.alloc (.cells #[.string ⟨#[]⟩] 9)).alloc (.cells #[] 9)).cell? ⟨k, 1, none⟩ = some (.slice (some ⟨g, 0, none⟩) (0 + 1) c) := ((HR1.out.alloc _).alloc _).cell 1
      have hCm : Hid (Came W (some ⟨g, 0, none⟩) (svs all)) := Lib.hid (Came.sl HS1.out)
      have hnl : Hid (all.length = 0 + 1) := Lib.hid HA.out.len
      have hnl8 : Hid (all.length ≤ 100000000) := Lib.hid (by rw [hnl.out]; omega)
      have HEm : Hid (Sl (W.alloc (.cells #[] 9)) 9 (.slice (some ⟨W.heap.size, 0, none⟩) 0 0) (svs []) W.heap.size) := Lib.hid (sl_new_strs W [] (Nat.zero_le _))
      have HCa : Hid (Came (W.alloc (.cells #[] 9)) (some ⟨g, 0, none⟩) (svs all)) := Lib.hid (hCm.out.alloc _)
      have hl9 : ([] : List ByteArray).length + all.length ≤ 1000000000000 := by rw [hnl.out, List.length_nil]; omega
      clear a2 a3 a4
      go_wp2_with (at_builtin; refine wpList_append_strs rfl (.tmp 47) (.tmp 51) rfl (l := []) (g := W.heap.size) rfl HEm.out (some ⟨g, 0, none⟩) (0 + 1) c all rfl hnl.out HCa.out hl9 ?_)
      intro v3 w3 g3 hs3 hg3 hgr3
      have hs3 : Sl w3 9 v3 (svs all) g3 := hs3
      obtain ⟨c3, rfl, hc3, hcm3⟩ := sl_open_at hs3 hnl.out
      have hB3 : Below W.heap.size W w3 := Below.grown ((Below.refl _ _).alloc (Nat.le_refl _) _) hgr3 (by simp) (by intro q hq; injection hq with hq; omega)
      have hg3w : W.heap.size ≤ g3 := by
        rcases hg3 with h | h
        · omega
        · omega
      have HS4 : Hid (Sl (w3.alloc (.cells #[.string ⟨#[]⟩] 9)) 9 (.slice (some ⟨g3, 0, none⟩) (0 + 1) c3) (svs all) g3) := Lib.hid (hs3.alloc _)
      have HO : Hid (Came (w3.alloc (.cells #[.string ⟨#[]⟩] 9)) (some ⟨w3.heap.size, 0, none⟩) (svs [⟨#[]⟩])) := Lib.hid (Came.sl (sl_new_strs w3 [⟨#[]⟩] (by show 1 ≤ maxLen; unfold maxLen; omega)))
      have hl8 : all.length + ([⟨#[]⟩] : List ByteArray).length ≤ 1000000000000 := by rw [hnl.out]; show 0 + 1 + 1 ≤ _; omega
      have HB4 : Hid (Below W.heap.size W (w3.alloc (.cells #[.string ⟨#[]⟩] 9))) := Lib.hid (hB3.alloc hB3.size _)
      clear hs3 hg3 hgr3 HEm HCa
      go_wp2_with (at_builtin; refine wpList_append_strs rfl (.tmp 52) (.tmp 53) rfl (l := all) (g := g3) rfl HS4.out (some ⟨w3.heap.size, 0, none⟩) 1 1 [⟨#[]⟩] rfl rfl HO.out hl8 ?_)
      intro v2 X2 g2 ho2 hg2' hgr2
      have hB2 : Below W.heap.size W X2 := HB4.out.grown hgr2 HB4.out.size (by intro q hq; injection hq with hq; omega)
      have hg2 : W.heap.size ≤ g2 := by
        rcases hg2' with h | h
        · omega
        · have := hB3.size
          omega
      obtain ⟨c9, rfl, hc9, hc9m⟩ := sl_open_at ho2 (n := 0 + 1 + 1) (by rw [List.length_append, hnl.out]; rfl)
      have hR2 := HR1.out.below hB2 hkW
      have c2 : X2.cell? ⟨k, 1, none⟩ = some (.slice (some ⟨g, 0, none⟩) (0 + 1) c) := hR2.cell 1
      have z2 := hR2.frozen 1
      have hD := so_put (m := ⟨most, last, [], 0 + 1, 0⟩) HF.out HB1.out HR1.out hB2 ho2 hg2 (rall_fin HA.out)
      have q9 : (X2.setCell ⟨k, 1, none⟩ (.slice (some ⟨g2, 0, none⟩) (0 + 1 + 1) c9)).cell? ⟨k, 2, none⟩ = some (.int .i64 0) := (hR2.set 1 (.slice (some ⟨g2, 0, none⟩) (0 + 1 + 1) c9)).cell 2
      have HD := Lib.hid hD
      clear hD hR2 ho2 hB2 hg2' hgr2 HB4 hB3 p1 a1 hCm hnl hnl8 HS4 HO
      go_wp2
      go_returns
      rw [HP.out]
      first
        | exact ⟨_, rfl, HD.out.1, HD.out.2.1, HD.out.2.2⟩
        | exact ⟨rfl, _, HD.out.1, HD.out.2.1, HD.out.2.2⟩
    · obtain ⟨n', rfl⟩ : ∃ n', n = n' + 1 := ⟨n - 1, by omega⟩
      obtain ⟨x, hx, hxl⟩ := HA.out.last
      obtain ⟨y, hy, hyl⟩ := HA.out.prev n' rfl
      replace hxl : bl x = last := hxl
      replace hyl : bl y = prev := hyl
      have hxc : w.cell? ⟨g, n' + 1, none⟩ = some (.string x) := sl_str HS.out hx
      have hyc : w.cell? ⟨g, n', none⟩ = some (.string y) := sl_str HS.out hy
      have hsx : x.size ≤ 65536 := by rw [← bl_length, hxl]; exact hll
      have hsy : y.size ≤ 65536 := by rw [← bl_length, hyl]; exact hpl
      have hC : ∀ q, Calls Try.prog 10 #[.string y, .string x] (w.drewN q) fun e w' => e = .returned (.int .i64 (cmpL prev last)) ∧ w' = w.drewN q := fun q => by
        have := refCompare_any y x (by omega) (by omega) (w.drewN q)
        rw [hxl, hyl] at this; exact this
      have hi1 : ((n' : Int) + 1 + 1 - 2) = (n' : Int) := by omega
      have hi2 : ((n' : Int) + 1 + 1 - 1) = (n' : Int) + 1 := by omega
      have h1n : (1 : Int) < (n' : Int) + 1 + 1 := by omega
      by_cases hq : 0 < cmpL prev last
      · have HP : Hid ((OM.mk most prev last (n' + 1) 0).fin = ⟨most, prev, last, n' + 1, 9⟩) := Lib.hid (OM.fin_over rfl hq)
        have hd : decide (0 < cmpL prev last) = true := decide_eq_true hq
        generalize cmpL prev last = R at *
        have HC := Lib.hid hC
        clear hC hx hy hxl hyl hlB hpl hll hsx hsy
        go_enter Try.func16, Try.ntmps16
        go_wp2
        go_quiet (first | (go_at_call 10; exact Calls.quiet_of_same (HC.out _)))
        have HR1 : Hid (Row (w.drewN nq) k 50 [.int .i64 most, .slice (some ⟨g, 0, none⟩) (n' + 1 + 1) c, .int .i64 0]) := Lib.hid (HR.out.below (below_drewN w nq) HR.out.lt)
        have hr9 := HR1.out.set 2 (.int .i64 9)
        have f9 := HR1.out.frozen 2
        have q9 : ((w.drewN nq).setCell ⟨k, 2, none⟩ (.int .i64 9)).cell? ⟨k, 2, none⟩ = some (.int .i64 9) := hr9.cell 2
        have c9 : (w.drewN nq).cell? ⟨k, 2, none⟩ = some (.int .i64 0) := HR1.out.cell 2
        have HD : Hid (RefSo ((w.drewN nq).setCell ⟨k, 2, none⟩ (.int .i64 9)) k F ⟨most, prev, last, n' + 1, 9⟩ ∧ Chg F w ((w.drewN nq).setCell ⟨k, 2, none⟩ (.int .i64 9))) := Lib.hid ⟨⟨all, g, _, hr9, (HS.out.drewN nq).far (by show g ≠ k; omega) _, hkg, HF.out, ⟨HA.out.len, HA.out.last, HA.out.none, HA.out.prev⟩⟩, ⟨rfl, rfl, rfl, by simp, fun i hi hn => Below.heap_setCell (w.drewN nq) _ _ i (by show i ≠ k; intro e; exact hn ((HF.out i).2 (.inl e)))⟩⟩
        clear hr9 HR1 HR HS q0 q1 q2 f2
        go_wp2
        go_returns
        rw [HP.out]
        first
          | exact ⟨F, rfl, fun i hi => .inl hi, HD.out.1, HD.out.2⟩
          | exact ⟨rfl, F, fun i hi => .inl hi, HD.out.1, HD.out.2⟩
      · have HP : Hid ((OM.mk most prev last (n' + 1) 0).fin = ⟨most, last, [], n' + 1 + 1, 0⟩) := Lib.hid (OM.fin_on rfl hq)
        have hd : decide (0 < cmpL prev last) = false := decide_eq_false hq
        generalize cmpL prev last = R at *
        have HC := Lib.hid hC
        clear hC hx hy hxl hyl hlB hpl hll hsx hsy
        go_enter Try.func16, Try.ntmps16
        go_wp2
        go_quiet (first | (go_at_call 10; exact Calls.quiet_of_same (HC.out _)))
        clear HC hxc hyc
        have HR1 : Hid (Row (w.drewN nq) k 50 [.int .i64 most, .slice (some ⟨g, 0, none⟩) (n' + 1 + 1) c, .int .i64 0]) := Lib.hid (HR.out.below (below_drewN w nq) HR.out.lt)
        have HS1 : Hid (Sl (w.drewN nq) 9 (.slice (some ⟨g, 0, none⟩) (n' + 1 + 1) c) (svs all) g) := Lib.hid (HS.out.drewN nq)
        have HB1 : Hid (Below w.heap.size w (w.drewN nq)) := Lib.hid (below_drewN w nq)
        clear q0 q1 q2 f2 HR HS
        generalize w.drewN nq = W at *
        have p1 : W.cell? ⟨k, 1, none⟩ = some (.slice (some ⟨g, 0, none⟩) (n' + 1 + 1) c) := HR1.out.cell 1
        have p2 : W.cell? ⟨k, 2, none⟩ = some (.int .i64 0) := HR1.out.cell 2
        have hkW := HR1.out.lt
        have a1 : (W.alloc (.cells #[] 9)).cell? ⟨k, 1, none⟩ = some (.slice (some ⟨g, 0, none⟩) (n' + 1 + 1) c) := (HR1.out.alloc _).cell 1
        have a2 : (W.alloc (.cells #[.string ⟨#[]⟩] 9)).cell? ⟨k, 1, none⟩ = some (.slice (some ⟨g, 0, none⟩) (n' + 1 + 1) c) := (HR1.out.alloc _).cell 1
        have a3 : ((W.alloc (.cells #[] 9)).alloc (.cells #[.string ⟨#[]⟩] 9)).cell? ⟨k, 1, none⟩ = some (.slice (some ⟨g, 0, none⟩) (n' + 1 + 1) c) := ((HR1.out.alloc _).alloc _).cell 1
        have a4 : ((W.alloc (.cells #[.string ⟨#[]⟩] 9)).alloc (.cells #[] 9)).cell? ⟨k, 1, none⟩ = some (.slice (some ⟨g, 0, none⟩) (n' + 1 + 1) c) := ((HR1.out.alloc _).alloc _).cell 1
        have hCm : Hid (Came W (some ⟨g, 0, none⟩) (svs all)) := Lib.hid (Came.sl HS1.out)
        have hnl : Hid (all.length = n' + 1 + 1) := Lib.hid HA.out.len
        have hnl8 : Hid (all.length ≤ 100000000) := Lib.hid (by rw [hnl.out]; omega)
        have HEm : Hid (Sl (W.alloc (.cells #[] 9)) 9 (.slice (some ⟨W.heap.size, 0, none⟩) 0 0) (svs []) W.heap.size) := Lib.hid (sl_new_strs W [] (Nat.zero_le _))
        have HCa : Hid (Came (W.alloc (.cells #[] 9)) (some ⟨g, 0, none⟩) (svs all)) := Lib.hid (hCm.out.alloc _)
        have hl9 : ([] : List ByteArray).length + all.length ≤ 1000000000000 := by rw [hnl.out, List.length_nil]; omega
        clear a2 a3 a4
        go_wp2_with (at_builtin; refine wpList_append_strs rfl (.tmp 47) (.tmp 51) rfl (l := []) (g := W.heap.size) rfl HEm.out (some ⟨g, 0, none⟩) (n' + 1 + 1) c all rfl hnl.out HCa.out hl9 ?_)
        intro v3 w3 g3 hs3 hg3 hgr3
        have hs3 : Sl w3 9 v3 (svs all) g3 := hs3
        obtain ⟨c3, rfl, hc3, hcm3⟩ := sl_open_at hs3 hnl.out
        have hB3 : Below W.heap.size W w3 := Below.grown ((Below.refl _ _).alloc (Nat.le_refl _) _) hgr3 (by simp) (by intro q hq; injection hq with hq; omega)
        have hg3w : W.heap.size ≤ g3 := by
          rcases hg3 with h | h
          · omega
          · omega
        have HS4 : Hid (Sl (w3.alloc (.cells #[.string ⟨#[]⟩] 9)) 9 (.slice (some ⟨g3, 0, none⟩) (n' + 1 + 1) c3) (svs all) g3) := Lib.hid (hs3.alloc _)
        have HO : Hid (Came (w3.alloc (.cells #[.string ⟨#[]⟩] 9)) (some ⟨w3.heap.size, 0, none⟩) (svs [⟨#[]⟩])) := Lib.hid (Came.sl (sl_new_strs w3 [⟨#[]⟩] (by show 1 ≤ maxLen; unfold maxLen; omega)))
        have hl8 : all.length + ([⟨#[]⟩] : List ByteArray).length ≤ 1000000000000 := by rw [hnl.out]; show n' + 1 + 1 + 1 ≤ _; omega
        have HB4 : Hid (Below W.heap.size W (w3.alloc (.cells #[.string ⟨#[]⟩] 9))) := Lib.hid (hB3.alloc hB3.size _)
        clear hs3 hg3 hgr3 HEm HCa
        go_wp2_with (at_builtin; refine wpList_append_strs rfl (.tmp 52) (.tmp 53) rfl (l := all) (g := g3) rfl HS4.out (some ⟨w3.heap.size, 0, none⟩) 1 1 [⟨#[]⟩] rfl rfl HO.out hl8 ?_)
        intro v2 X2 g2 ho2 hg2' hgr2
        have hB2 : Below W.heap.size W X2 := HB4.out.grown hgr2 HB4.out.size (by intro q hq; injection hq with hq; omega)
        have hg2 : W.heap.size ≤ g2 := by
          rcases hg2' with h | h
          · omega
          · have := hB3.size
            omega
        obtain ⟨c9, rfl, hc9, hc9m⟩ := sl_open_at ho2 (n := n' + 1 + 1 + 1) (by rw [List.length_append, hnl.out]; rfl)
        have hR2 := HR1.out.below hB2 hkW
        have c2 : X2.cell? ⟨k, 1, none⟩ = some (.slice (some ⟨g, 0, none⟩) (n' + 1 + 1) c) := hR2.cell 1
        have z2 := hR2.frozen 1
        have hD := so_put (m := ⟨most, last, [], n' + 1 + 1, 0⟩) HF.out HB1.out HR1.out hB2 ho2 hg2 (rall_fin HA.out)
        have q9 : (X2.setCell ⟨k, 1, none⟩ (.slice (some ⟨g2, 0, none⟩) (n' + 1 + 1 + 1) c9)).cell? ⟨k, 2, none⟩ = some (.int .i64 0) := (hR2.set 1 (.slice (some ⟨g2, 0, none⟩) (n' + 1 + 1 + 1) c9)).cell 2
        have HD := Lib.hid hD
        clear hD hR2 ho2 hB2 hg2' hgr2 HB4 hB3 p1 a1 hCm hnl hnl8 HS4 HO
        go_wp2
        go_returns
        rw [HP.out]
        first
          | exact ⟨_, rfl, HD.out.1, HD.out.2.1, HD.out.2.2⟩
          | exact ⟨rfl, _, HD.out.1, HD.out.2.1, HD.out.2.2⟩
  · have hp : (OM.mk most prev last n e).fin = ⟨most, prev, last, n, e⟩ := OM.fin_err he
    rw [hp]
    have hne : (e == 0) = false := by simpa using he
    have HA : Hid (RefSo w k F ⟨most, prev, last, n, e⟩) := Lib.hid ⟨all, g, _, hR, hS, hkg, HF.out, hAll⟩
    clear hR hS hAll hOk
    go_enter Try.func16, Try.ntmps16
    go_wp2
    go_quiet (fail)
    have HA2 : Hid (RefSo (w.drewN nq) k F ⟨most, prev, last, n, e⟩ ∧ Chg F w (w.drewN nq)) := Lib.hid ⟨refSo_aside HA.out (Chg.of_below (F := fun _ => False) (below_drewN w nq)) (fun _ _ h => h), Chg.of_below (below_drewN w nq)⟩
    go_wp2
    go_returns
    first
      | exact ⟨rfl, F, fun i hi => .inl hi, HA2.out.1, HA2.out.2⟩
      | exact ⟨F, rfl, fun i hi => .inl hi, HA2.out.1, HA2.out.2⟩
theorem refSoSpec : OrdSpec 12 14 16 RefSo := ⟨refSo_lt, refSo_aside, refSo_new, fun b hA hOk hn hb => refSo_push b hA hOk hn hb, fun hA hOk hn => refSo_fin hA hOk hn⟩
end Go.Proofs.Ytnlhpldjficecaa
