/- What layer 20's reference gives: a state behind an element's beginning. Of every state in which a part is open. -/
import Derived.Test.YtiiimhamfibdbaaGreatQ1
import Derived.Deep.RegionWith
import Derived.Deep.Cut
import Derived.Deep.CutRange
import Derived.Deep.RegionHeld3
import Derived.Deep.QuietTactic
import Derived.BigQuiet
namespace Go.Proofs.YtiiimhamfibdbaaGreat
open Go.RowKit Go.PlainAid
set_option linter.unusedVariables false
theorem rowG_len (p : Int) : (rowG p).length ≤ 7 := by
 by_cases h : p ≠ 0 ∧ p ≠ 1 ∧ p ≠ 2 ∧ p ≠ 4 ∧ p ≠ 6 ∧ p ≠ 7 ∧ p ≠ 8 ∧ p ≠ 9 ∧ p ≠ 13 ∧ p ≠ 14 ∧ p ≠ 17 ∧ p ≠ 18 ∧ p ≠ 21
 ·rw [rowG_no h]; decide
 ·have h' : p = 0 ∨ p = 1 ∨ p = 2 ∨ p = 4 ∨ p = 6 ∨ p = 7 ∨ p = 8 ∨ p = 9 ∨ p = 13 ∨ p = 14 ∨ p = 17 ∨ p = 18 ∨ p = 21 := by omega
  rcases h' with rfl | rfl | rfl | rfl | rfl | rfl | rfl | rfl | rfl | rfl | rfl | rfl | rfl
  ·rw [rowG_0]; decide
  ·rw [rowG_1]; decide
  ·rw [rowG_2]; decide
  ·rw [rowG_4]; decide
  ·rw [rowG_6]; decide
  ·rw [rowG_7]; decide
  ·rw [rowG_8]; decide
  ·rw [rowG_9]; decide
  ·rw [rowG_13]; decide
  ·rw [rowG_14]; decide
  ·rw [rowG_17]; decide
  ·rw [rowG_18]; decide
  ·rw [rowG_21]; decide
theorem infoHd20 : (Tryz.prog.info? 32).map (·.size) = some 4 := by kernel_rfl
structure QkH (P : Program) (ops : Array Oper) (C : World → Prop) (Q : Act → Prop) (l : List Oper) (a : Act) : Prop where
 out : wpQuiet P ops C Q l a
theorem qk_in {P : Program} {ops : Array Oper} {C : World → Prop} {Q : Act → Prop} {l : List Oper} {a : Act} (h : QkH P ops C Q l a) : wpQuiet P ops C Q l a := h.out
theorem qk_nil {P : Program} {ops : Array Oper} {C : World → Prop} {Q : Act → Prop} {a : Act} (h : Q a) : QkH P ops C Q [] a := ⟨wpQuiet_nil h⟩
theorem qk_step {P : Program} {ops : Array Oper} {C : World → Prop} {Q : Act → Prop} {rest : List Oper} {o : Oper} {a : Act}
  (h : ∀ K : Act → Prop, (∀ a, QkH P ops C Q rest a → K a) → if Region.wanted o (yielded ops a.tmps) then o.quiet P a C K else K (a.put o.dst undef)) : QkH P ops C Q (o :: rest) a :=
 ⟨wpQuiet_step fun K hK => h K fun a q => hK a q.out⟩
theorem quietC_load {P : Program} {op : Oper} {a : Act} {C : World → Prop} {K : Act → Prop} (ty : TypeId) (x : Operand) (ho : op.op = .load ty x)
  (b o : Nat) (hx : a.eval x = .pointer (some ⟨b, o, none⟩)) (cs : Array Value) (hl : ∀ X, C X → (loadVar ty ⟨b, o, none⟩).run P X = .ok (.agg cs) X)
  (h : K (a.put op.dst (.agg cs))) : op.quiet P a C K := by
 refine ⟨.agg cs, ?_, h⟩
 intro X hX
 unfold Oper.quietAt execOp
 simp only [ho, hx, Instr.loadAt, Instr.sureAddr, Sem.run_bind, Sem.run_pure, Result.andThen_ok, hl X hX]
 exact ⟨rfl, rfl⟩
theorem cell_keep20 {w w' : World} {p : Addr} {v : Value} (h : w.cell? p = some v) (hb : Below w.heap.size w w') : w'.cell? p = some v := by
 have hlt : p.block < w.heap.size := by
  rcases Nat.lt_or_ge p.block w.heap.size with h1 | h1
  ·exact h1
  ·exfalso
   unfold World.cell? at h
   rw [Array.getElem?_eq_none h1] at h
   simp at h
 rw [hb.cell hlt]; exact h
set_option maxRecDepth 100000 in
set_option maxHeartbeats 16000000 in
theorem refGHead_any {w : World} {v : Value} {s : GS} {o : GO} {r : List GO} (hv : RgAt w v s) (hop : s.op = o :: r) (hk : o.k ≤ 1000) (hl : r.length ≤ 100000) (c t : Int) (f : Bool) (n : Int) :
  Calls Tryz.prog 33 #[v, .agg #[.int .i64 c, .int .i64 t, .bool f, .int .i64 n]] w fun e w' => ∃ v', e = .returned v' ∧ RgAt w' v' (s.head c t f n) ∧ Below w.heap.size w w' := by
 obtain ⟨ov, rfl, hO⟩ := hv
 rw [hop, List.reverse_cons] at hO
 obtain ⟨oP, oK, oC⟩ := o
 replace hk : oK ≤ 1000 := hk
 obtain ⟨sop, sleaf, sver, spart⟩ := s
 replace hop : sop = ⟨oP, oK, oC⟩ :: r := hop
 subst hop
 obtain ⟨g, cp, rfl, hcp, hcm, _, hgw⟩ : ∃ g c, ov = .slice (some ⟨g, 0, none⟩) (r.reverse ++ [GO.mk oP oK oC]).length c ∧ (r.reverse ++ [GO.mk oP oK oC]).length ≤ c ∧ c ≤ maxLen ∧ 0 ≤ g ∧ g < w.heap.size := by
  rcases hO.shape with ⟨_, q⟩ | q
  ·simp at q
  ·exact q
 have hlen : (r.reverse ++ [GO.mk oP oK oC]).length = r.length + 1 := by simp
 rw [hlen] at hO hcp ⊢
 have hcell := hO.at3 r.length (by rw [hlen]; omega)
 have hlast : (r.reverse ++ [GO.mk oP oK oC])[r.length]'(by rw [hlen]; omega) = GO.mk oP oK oC := by
  rw [List.getElem_append_right (by simp)]; simp
 rw [hlast] at hcell
 obtain ⟨c0, c1, c2⟩ := hcell
 have HO := Lib.hid hO
 have hw1 : IntKind.i64.wrap ((r.length : Int) + 1 - 1) = (r.length : Int) := by rw [IntKind.wrap_i64]; omega
 have hw2 : ((r.length + 1 : Nat) : Int) - 1 = (r.length : Int) := by omega
 have hrl : (r.length : Int) < ((r.length + 1 : Nat) : Int) := by omega
 have HR := Lib.hid (fun W => refRow_any oP W)
 clear hlast hO
 have hC0 := HO.out
 unfold rgV
 obtain ⟨W0, hW0⟩ : ∃ W, ((w.alloc (.cells #[.slice (some ⟨g, 0, none⟩) (r.length + 1) cp, .int .i64 sleaf, .bool sver, .int .i64 spart] 61)).alloc (.cells #[.int .i64 c, .int .i64 t, .bool f, .int .i64 n] 32)).alloc (.cells #[.slice none 0 0, .int .i64 0, .bool false, .int .i64 0] 61) = W := ⟨_, rfl⟩
 have hBX : Row W0 w.heap.size 61 [.slice (some ⟨g, 0, none⟩) (r.length + 1) cp, .int .i64 sleaf, .bool sver, .int .i64 spart] := by
  rw [← hW0]; exact ((Row.new w _ [.slice (some ⟨g, 0, none⟩) (r.length + 1) cp, .int .i64 sleaf, .bool sver, .int .i64 spart]).alloc _).alloc _
 have hHX : Row W0 (w.heap.size + 1) 32 [.int .i64 c, .int .i64 t, .bool f, .int .i64 n] := by
  rw [← hW0]; exact (row_new2 w _ _ [.int .i64 c, .int .i64 t, .bool f, .int .i64 n]).alloc _
 have hRX : Row W0 (w.heap.size + 1 + 1) 61 [.slice none 0 0, .int .i64 0, .bool false, .int .i64 0] := by
  have h := row_new2 (w.alloc (.cells #[.slice (some ⟨g, 0, none⟩) (r.length + 1) cp, .int .i64 sleaf, .bool sver, .int .i64 spart] 61)) (.cells #[.int .i64 c, .int .i64 t, .bool f, .int .i64 n] 32) 61 [.slice none 0 0, .int .i64 0, .bool false, .int .i64 0]
  have hs : (w.alloc (.cells #[.slice (some ⟨g, 0, none⟩) (r.length + 1) cp, .int .i64 sleaf, .bool sver, .int .i64 spart] 61)).heap.size = w.heap.size + 1 := by simp
  rw [hs] at h
  rw [← hW0]; exact h
 have hB0 : Below w.heap.size w W0 := by
  rw [← hW0]; exact (((Below.refl _ _).alloc (Nat.le_refl _) _).alloc (by simp) _).alloc (by simp; omega) _
 have hlt0 : w.heap.size + 1 + 1 < W0.heap.size := hRX.lt
 have c0 : W0.cell? ⟨g, r.length * 3, none⟩ = some (.int .i64 oP) := by rw [hB0.cell (show g < w.heap.size from hgw)]; exact c0
 have c1 : W0.cell? ⟨g, r.length * 3 + 1, none⟩ = some (.int .i64 (oK : Int)) := by rw [hB0.cell (show g < w.heap.size from hgw)]; exact c1
 have c2 : W0.cell? ⟨g, r.length * 3 + 2, none⟩ = some (.bool oC) := by rw [hB0.cell (show g < w.heap.size from hgw)]; exact c2
 have HBX := Lib.hid hBX
 have HHX := Lib.hid hHX
 have HRX := Lib.hid hRX
 have HB0 := Lib.hid hB0
 have z0 : W0.cell? ⟨w.heap.size, 0, none⟩ = some (.slice (some ⟨g, 0, none⟩) (r.length + 1) cp) := hBX.cell 0
 have HW0 := Lib.hid hW0
 clear hW0 hBX hHX hRX hB0 hC0
 go_enter Tryz.func33, Tryz.ntmps33
 go_upto_region 2 with (fail)
 rw [HW0.out]
 clear HW0
 have hTop : Row (W0.alloc (.cells #[.int .i64 oP, .int .i64 (oK : Int), .bool oC] 89)) W0.heap.size 89 [.int .i64 oP, .int .i64 (oK : Int), .bool oC] := Row.new W0 _ [.int .i64 oP, .int .i64 (oK : Int), .bool oC]
 have hBT : Below W0.heap.size W0 (W0.alloc (.cells #[.int .i64 oP, .int .i64 (oK : Int), .bool oC] 89)) := (Below.refl _ _).alloc (Nat.le_refl _) _
 go_upto_region 3 with (fail)
 generalize W0.alloc (.cells #[.int .i64 oP, .int .i64 (oK : Int), .bool oC] 89) = w2 at *
 have q0 : w2.cell? ⟨W0.heap.size, 0, none⟩ = some (.int .i64 oP) := hTop.cell 0
 have HTop := Lib.hid hTop
 have HBT := Lib.hid hBT
 clear hTop hBT c0 c1 c2 z0
 go_wp2_with fail
 refine (HR.out _).mono ?_
 rintro e w3 ⟨lv, rfl, hlv, hb3⟩
 have q1 : w3.cell? ⟨W0.heap.size, 1, none⟩ = some (.int .i64 (oK : Int)) := (HTop.out.below hb3 HTop.out.lt).cell 1
 have HLV := Lib.hid hlv
 have HB3 := Lib.hid hb3
 obtain ⟨lo, lc, hle⟩ : ∃ lo c, lv = .slice lo (rowG oP).length c := by
  rcases hlv.shape with ⟨rfl, q⟩ | ⟨g, c, rfl, _⟩
  ·rw [q]; exact ⟨_, _, rfl⟩
  ·exact ⟨_, _, rfl⟩
 subst hle
 clear hlv hb3 q0 HR
 go_upto_region 5 with (fail)
 have hpart : Hid (spart = spart) := Lib.hid rfl
 obtain ⟨SC, hSC⟩ : ∃ SC, scanG c t f n oC oK ((rowG oP).drop oK) = SC := ⟨_, rfl⟩
 have HSC := Lib.hid hSC
 clear hSC
 go_loopg [8] (rowG oP).length (fun gk kv wr => ∃ i : Nat, kv = .int .i64 (i : Int) ∧ oK ≤ i ∧ i ≤ 100000 ∧ (rowG oP).length - i ≤ gk ∧ Hid (scanG c t f n (decide (i = oK) && oC) i ((rowG oP).drop i) = SC) ∧ Hid (Below w3.heap.size w3 wr))
 case atStart => exact ⟨oK, rfl, Nat.le_refl _, by omega, by omega, Lib.hid (by simpa using HSC.out), Lib.hid (Below.refl _ _)⟩
 case round =>
  clear q1
  obtain ⟨i, rfl, hki, hi1, hgk, HS, HBL⟩ := hrel
  by_cases hlt : i < (rowG oP).length
  ·have hlt2 : (i : Int) < ((rowG oP).length : Int) := by omega
   have hslot := (rowG oP).drop i
   have hdr : (rowG oP).drop i = (rowG oP)[i] :: (rowG oP).drop (i + 1) := List.drop_eq_getElem_cons hlt
   have HS2 := HS.out
   rw [hdr, scanG] at HS2
   have HLr := HLV.out.below HBL.out
   obtain ⟨lg, rfl, hlc⟩ : ∃ lg, lo = some ⟨lg, 0, none⟩ ∧ (rowG oP).length ≤ lc := by
    rcases HLr.shape with ⟨q, e⟩ | ⟨g, c, q, h1, _⟩
    ·rw [e] at hlt; exact absurd hlt (Nat.not_lt_zero _)
    ·injection q with q1 q2 q3; subst q3; exact ⟨g, q1, h1⟩
   obtain ⟨s0, s1, s2⟩ := HLr.cells i hlt
   obtain ⟨⟨P, mb, mn⟩, hrow⟩ : ∃ x, (rowG oP)[i] = x := ⟨_, rfl⟩
   rw [hrow] at s0 s1 s2 HS2
   simp only at s0 s1 s2 HS2
   have hic : (i : Int) < (lc : Int) := by omega
   have hB3r : Below w3.heap.size w3 wr := HBL.out
   have hBtot : Below W0.heap.size W0 wr := (HBT.out.trans (HB3.out.mono HBT.out.size)).trans (hB3r.mono (HBT.out.trans (HB3.out.mono HBT.out.size)).size)
   have t1 : wr.cell? ⟨W0.heap.size, 1, none⟩ = some (.int .i64 (oK : Int)) := ((HTop.out.below HB3.out HTop.out.lt).below hB3r (Nat.lt_of_lt_of_le HTop.out.lt HB3.out.size)).cell 1
   have t2 : wr.cell? ⟨W0.heap.size, 2, none⟩ = some (.bool oC) := ((HTop.out.below HB3.out HTop.out.lt).below hB3r (Nat.lt_of_lt_of_le HTop.out.lt HB3.out.size)).cell 2
   have x0 : wr.cell? ⟨w.heap.size + 1, 0, none⟩ = some (.int .i64 c) := (HHX.out.below hBtot HHX.out.lt).cell 0
   have x1 : wr.cell? ⟨w.heap.size + 1, 1, none⟩ = some (.int .i64 t) := (HHX.out.below hBtot HHX.out.lt).cell 1
   have x2 : wr.cell? ⟨w.heap.size + 1, 2, none⟩ = some (.bool f) := (HHX.out.below hBtot HHX.out.lt).cell 2
   have x3 : wr.cell? ⟨w.heap.size + 1, 3, none⟩ = some (.int .i64 n) := (HHX.out.below hBtot HHX.out.lt).cell 3
   obtain ⟨H, hH⟩ : ∃ H : Bool, (decide (i = oK) && oC) = H := ⟨_, rfl⟩
   rw [hH] at HS2
   have HS3 := Lib.hid HS2
   have HH := Lib.hid hH
   clear hdr HS2 HLr hslot hH hBtot hB3r
   go_upto_region 7 with (fail)
   go_cut [9] from 30 to 37 (fun hv wq => hv = .bool H ∧ wq = wr)
   case first =>
    by_cases hik : i = oK
    ·subst hik
     have hik2 : ((i : Int) == (i : Int)) = true := by simp
     have hHe : H = oC := by rw [← HH.out]; simp
     clear HS3 s0 s1 s2 x0 x1 x2 x3
     cases oC
     all_goals
      go_wp2_with fail
      go_meet
      exact ⟨by rw [hHe], rfl⟩
    ·have hik2 : ((i : Int) == (oK : Int)) = false := by simp; omega
     have hHe : H = false := by rw [← HH.out]; simp [hik]
     clear HS3 s0 s1 s2 x0 x1 x2 x3
     go_wp2_with fail
     go_meet
     exact ⟨by rw [hHe], rfl⟩
   case rest =>
    obtain ⟨rfl, rfl⟩ := hcut
    have HFT := Lib.hid (fun W => refFits_any P c t f n W)
    obtain ⟨FT, hFT⟩ : ∃ FT, fitsG P c t f n = FT := ⟨_, rfl⟩
    rw [hFT] at HS3 HFT
    clear hFT t1 t2 HH
    obtain ⟨wa, hwa⟩ : ∃ x : World, x = wc := ⟨wc, rfl⟩
    subst hwa
    have HBW : Hid (Below W0.heap.size W0 wa) := Lib.hid ((HBT.out.trans (HB3.out.mono HBT.out.size)).trans (HBL.out.mono (HBT.out.trans (HB3.out.mono HBT.out.size)).size))
    go_upto_region 8 with (fail)
    go_cut [55] from 38 to 55 (fun cv wq => cv = .bool ((!H || mn) && FT) ∧ Hid (Below wa.heap.size wa wq))
    case first =>
     clear HS3
     have HS0 := Lib.hid s0
     have HS2' := Lib.hid s2
     have HX0 := Lib.hid x0
     have HX1 := Lib.hid x1
     have HX2 := Lib.hid x2
     have HX3 := Lib.hid x3
     have HF6 := Lib.hid (fun W (h : Below wa.heap.size wa W) => (HFT.out W).mono (fun e w' ⟨he, hb⟩ => (⟨he, h.trans (hb.mono h.size)⟩ : _ ∧ Below wa.heap.size wa w')))
     have HS0r : Hid (∀ X, Below wa.heap.size wa X → X.cell? ⟨lg, i * 3, none⟩ = some (.int .i64 P)) := Lib.hid (fun X h => cell_keep20 s0 h)
     have HS2r : Hid (∀ X, Below wa.heap.size wa X → X.cell? ⟨lg, i * 3 + 2, none⟩ = some (.bool mn)) := Lib.hid (fun X h => cell_keep20 s2 h)
     have HLD : Hid (∀ X, Below wa.heap.size wa X → (loadVar 32 ⟨w.heap.size + 1, 0, none⟩).run Tryz.prog X = .ok (.agg #[.int .i64 c, .int .i64 t, .bool f, .int .i64 n]) X) := Lib.hid (fun X h => run_loadVar_mid _ _ 0 _ [.int .i64 c, .int .i64 t, .bool f, .int .i64 n] _ (((HHX.out.below HBW.out HHX.out.lt).below h (Nat.lt_of_lt_of_le HHX.out.lt HBW.out.size)).whole) Tryz.underlying32 rfl infoHd20)
     clear s0 s1 s2 x0 x1 x2 x3 HLV HBL HS hrow HFT HS0 HS2' HX0 HX1 HX2 HX3
     cases H
     ·refine wp_region_quiet (C := fun X => Below wa.heap.size wa X) (by kernel_rfl) (by kernel_rfl) ⟨rfl, rfl, rfl, Nat.le_refl _, fun _ _ => rfl⟩ (qk_in ?_)
      (refine qk_step (fun K hK => ?_); go_simp; (first | (refine hK _ ?_) | (refine ⟨_, fun _ _ => rfl, hK _ ?_⟩) | (refine ⟨_, fun _ _ => ⟨rfl, rfl⟩, hK _ ?_⟩)); clear hK K)
      (refine qk_step (fun K hK => ?_); go_simp; (first | (refine hK _ ?_) | (refine ⟨_, fun _ _ => rfl, hK _ ?_⟩) | (refine ⟨_, fun _ _ => ⟨rfl, rfl⟩, hK _ ?_⟩)); clear hK K)
      (refine qk_step (fun K hK => ?_); go_simp; (first | (refine hK _ ?_) | (refine ⟨_, fun _ _ => rfl, hK _ ?_⟩) | (refine ⟨_, fun _ _ => ⟨rfl, rfl⟩, hK _ ?_⟩)); clear hK K)
      (refine qk_step (fun K hK => ?_); go_simp; (first | (refine hK _ ?_) | (refine ⟨_, fun _ _ => rfl, hK _ ?_⟩) | (refine ⟨_, fun _ _ => ⟨rfl, rfl⟩, hK _ ?_⟩)); clear hK K)
      (refine qk_step (fun K hK => ?_); go_simp; (first | (refine hK _ ?_) | (refine ⟨_, fun _ _ => rfl, hK _ ?_⟩) | (refine ⟨_, fun _ _ => ⟨rfl, rfl⟩, hK _ ?_⟩)); clear hK K)
      (refine qk_step (fun K hK => ?_); go_simp; (first | (refine hK _ ?_) | (refine ⟨_, fun _ _ => rfl, hK _ ?_⟩) | (refine ⟨_, fun _ _ => ⟨rfl, rfl⟩, hK _ ?_⟩)); clear hK K)
      (refine qk_step (fun K hK => ?_); go_simp; (first | (refine hK _ ?_) | (refine ⟨_, fun _ _ => rfl, hK _ ?_⟩) | (refine ⟨_, fun _ _ => ⟨rfl, rfl⟩, hK _ ?_⟩)); clear hK K)
      (refine qk_step (fun K hK => ?_); go_simp; (first | (refine hK _ ?_) | (refine ⟨_, fun _ _ => rfl, hK _ ?_⟩) | (refine ⟨_, fun _ _ => ⟨rfl, rfl⟩, hK _ ?_⟩)); clear hK K)
      (refine qk_step (fun K hK => ?_); go_simp; (first | (refine hK _ ?_) | (refine ⟨_, fun _ _ => rfl, hK _ ?_⟩) | (refine ⟨_, fun _ _ => ⟨rfl, rfl⟩, hK _ ?_⟩)); clear hK K)
      (refine qk_step (fun K hK => ?_); go_simp; (first | (refine hK _ ?_) | (refine ⟨_, fun _ _ => rfl, hK _ ?_⟩) | (refine ⟨_, fun _ _ => ⟨rfl, rfl⟩, hK _ ?_⟩)); clear hK K)
      (refine qk_step (fun K hK => ?_); go_simp; (first | (refine hK _ ?_) | (refine ⟨_, fun _ _ => rfl, hK _ ?_⟩) | (refine ⟨_, fun _ _ => ⟨rfl, rfl⟩, hK _ ?_⟩)); clear hK K)
      (refine qk_step (fun K hK => ?_); go_simp; (first | (refine hK _ ?_) | (refine ⟨_, fun _ _ => rfl, hK _ ?_⟩) | (refine ⟨_, fun _ _ => ⟨rfl, rfl⟩, hK _ ?_⟩)); clear hK K)
      (refine qk_step (fun K hK => ?_); go_simp; (first | (refine hK _ ?_) | (refine ⟨_, fun _ _ => rfl, hK _ ?_⟩) | (refine ⟨_, fun _ _ => ⟨rfl, rfl⟩, hK _ ?_⟩)); clear hK K)
      (refine qk_step (fun K hK => ?_); go_simp; (first | (refine hK _ ?_) | (refine ⟨_, fun _ _ => rfl, hK _ ?_⟩) | (refine ⟨_, fun _ _ => ⟨rfl, rfl⟩, hK _ ?_⟩)); clear hK K)
      (refine qk_step (fun K hK => ?_); rw [if_pos (by rfl)]; refine ⟨.int .i64 P, fun X hX => ?_, hK _ ?_⟩; (have y := HS0r.out X hX; go_simp); clear hK K)
      (refine qk_step (fun K hK => ?_); rw [if_pos (by rfl)]; refine quietC_load 32 (.tmp 3) rfl (w.heap.size + 1) 0 rfl _ HLD.out (hK _ ?_); clear hK K)
      (refine qk_step (fun K hK => ?_); rw [if_pos (by rfl)]; refine ⟨.bool FT, fun X hX => ?_, hK _ ?_⟩; (go_simp; exact HF6.out X hX); clear hK K)
      (refine qk_step (fun K hK => ?_); go_simp; (first | (refine hK _ ?_) | (refine ⟨_, fun _ _ => rfl, hK _ ?_⟩) | (refine ⟨_, fun _ _ => ⟨rfl, rfl⟩, hK _ ?_⟩)); clear hK K)
      refine qk_nil ?_
      intro X hX
      go_wp2_with fail
      go_meet
      exact ⟨by first | rfl | simp, Lib.hid hX⟩
     ·cases mn
      ·refine wp_region_quiet (C := fun X => Below wa.heap.size wa X) (by kernel_rfl) (by kernel_rfl) ⟨rfl, rfl, rfl, Nat.le_refl _, fun _ _ => rfl⟩ (qk_in ?_)
       (refine qk_step (fun K hK => ?_); go_simp; (first | (refine hK _ ?_) | (refine ⟨_, fun _ _ => rfl, hK _ ?_⟩) | (refine ⟨_, fun _ _ => ⟨rfl, rfl⟩, hK _ ?_⟩)); clear hK K)
       (refine qk_step (fun K hK => ?_); go_simp; (first | (refine hK _ ?_) | (refine ⟨_, fun _ _ => rfl, hK _ ?_⟩) | (refine ⟨_, fun _ _ => ⟨rfl, rfl⟩, hK _ ?_⟩)); clear hK K)
       (refine qk_step (fun K hK => ?_); go_simp; (first | (refine hK _ ?_) | (refine ⟨_, fun _ _ => rfl, hK _ ?_⟩) | (refine ⟨_, fun _ _ => ⟨rfl, rfl⟩, hK _ ?_⟩)); clear hK K)
       (refine qk_step (fun K hK => ?_); go_simp; (first | (refine hK _ ?_) | (refine ⟨_, fun _ _ => rfl, hK _ ?_⟩) | (refine ⟨_, fun _ _ => ⟨rfl, rfl⟩, hK _ ?_⟩)); clear hK K)
       (refine qk_step (fun K hK => ?_); go_simp; (first | (refine hK _ ?_) | (refine ⟨_, fun _ _ => rfl, hK _ ?_⟩) | (refine ⟨_, fun _ _ => ⟨rfl, rfl⟩, hK _ ?_⟩)); clear hK K)
       (refine qk_step (fun K hK => ?_); go_simp; (first | (refine hK _ ?_) | (refine ⟨_, fun _ _ => rfl, hK _ ?_⟩) | (refine ⟨_, fun _ _ => ⟨rfl, rfl⟩, hK _ ?_⟩)); clear hK K)
       (refine qk_step (fun K hK => ?_); go_simp; (first | (refine hK _ ?_) | (refine ⟨_, fun _ _ => rfl, hK _ ?_⟩) | (refine ⟨_, fun _ _ => ⟨rfl, rfl⟩, hK _ ?_⟩)); clear hK K)
       (refine qk_step (fun K hK => ?_); rw [if_pos (by rfl)]; refine ⟨.bool false, fun X hX => ?_, hK _ ?_⟩; (have y := HS2r.out X hX; go_simp); clear hK K)
       (refine qk_step (fun K hK => ?_); go_simp; (first | (refine hK _ ?_) | (refine ⟨_, fun _ _ => rfl, hK _ ?_⟩) | (refine ⟨_, fun _ _ => ⟨rfl, rfl⟩, hK _ ?_⟩)); clear hK K)
       (refine qk_step (fun K hK => ?_); go_simp; (first | (refine hK _ ?_) | (refine ⟨_, fun _ _ => rfl, hK _ ?_⟩) | (refine ⟨_, fun _ _ => ⟨rfl, rfl⟩, hK _ ?_⟩)); clear hK K)
       (refine qk_step (fun K hK => ?_); go_simp; (first | (refine hK _ ?_) | (refine ⟨_, fun _ _ => rfl, hK _ ?_⟩) | (refine ⟨_, fun _ _ => ⟨rfl, rfl⟩, hK _ ?_⟩)); clear hK K)
       (refine qk_step (fun K hK => ?_); go_simp; (first | (refine hK _ ?_) | (refine ⟨_, fun _ _ => rfl, hK _ ?_⟩) | (refine ⟨_, fun _ _ => ⟨rfl, rfl⟩, hK _ ?_⟩)); clear hK K)
       (refine qk_step (fun K hK => ?_); go_simp; (first | (refine hK _ ?_) | (refine ⟨_, fun _ _ => rfl, hK _ ?_⟩) | (refine ⟨_, fun _ _ => ⟨rfl, rfl⟩, hK _ ?_⟩)); clear hK K)
       (refine qk_step (fun K hK => ?_); go_simp; (first | (refine hK _ ?_) | (refine ⟨_, fun _ _ => rfl, hK _ ?_⟩) | (refine ⟨_, fun _ _ => ⟨rfl, rfl⟩, hK _ ?_⟩)); clear hK K)
       (refine qk_step (fun K hK => ?_); go_simp; (first | (refine hK _ ?_) | (refine ⟨_, fun _ _ => rfl, hK _ ?_⟩) | (refine ⟨_, fun _ _ => ⟨rfl, rfl⟩, hK _ ?_⟩)); clear hK K)
       (refine qk_step (fun K hK => ?_); go_simp; (first | (refine hK _ ?_) | (refine ⟨_, fun _ _ => rfl, hK _ ?_⟩) | (refine ⟨_, fun _ _ => ⟨rfl, rfl⟩, hK _ ?_⟩)); clear hK K)
       (refine qk_step (fun K hK => ?_); go_simp; (first | (refine hK _ ?_) | (refine ⟨_, fun _ _ => rfl, hK _ ?_⟩) | (refine ⟨_, fun _ _ => ⟨rfl, rfl⟩, hK _ ?_⟩)); clear hK K)
       (refine qk_step (fun K hK => ?_); go_simp; (first | (refine hK _ ?_) | (refine ⟨_, fun _ _ => rfl, hK _ ?_⟩) | (refine ⟨_, fun _ _ => ⟨rfl, rfl⟩, hK _ ?_⟩)); clear hK K)
       refine qk_nil ?_
       intro X hX
       go_wp2_with fail
       go_meet
       exact ⟨by first | rfl | simp, Lib.hid hX⟩
      ·refine wp_region_quiet (C := fun X => Below wa.heap.size wa X) (by kernel_rfl) (by kernel_rfl) ⟨rfl, rfl, rfl, Nat.le_refl _, fun _ _ => rfl⟩ (qk_in ?_)
       (refine qk_step (fun K hK => ?_); go_simp; (first | (refine hK _ ?_) | (refine ⟨_, fun _ _ => rfl, hK _ ?_⟩) | (refine ⟨_, fun _ _ => ⟨rfl, rfl⟩, hK _ ?_⟩)); clear hK K)
       (refine qk_step (fun K hK => ?_); go_simp; (first | (refine hK _ ?_) | (refine ⟨_, fun _ _ => rfl, hK _ ?_⟩) | (refine ⟨_, fun _ _ => ⟨rfl, rfl⟩, hK _ ?_⟩)); clear hK K)
       (refine qk_step (fun K hK => ?_); go_simp; (first | (refine hK _ ?_) | (refine ⟨_, fun _ _ => rfl, hK _ ?_⟩) | (refine ⟨_, fun _ _ => ⟨rfl, rfl⟩, hK _ ?_⟩)); clear hK K)
       (refine qk_step (fun K hK => ?_); go_simp; (first | (refine hK _ ?_) | (refine ⟨_, fun _ _ => rfl, hK _ ?_⟩) | (refine ⟨_, fun _ _ => ⟨rfl, rfl⟩, hK _ ?_⟩)); clear hK K)
       (refine qk_step (fun K hK => ?_); go_simp; (first | (refine hK _ ?_) | (refine ⟨_, fun _ _ => rfl, hK _ ?_⟩) | (refine ⟨_, fun _ _ => ⟨rfl, rfl⟩, hK _ ?_⟩)); clear hK K)
       (refine qk_step (fun K hK => ?_); go_simp; (first | (refine hK _ ?_) | (refine ⟨_, fun _ _ => rfl, hK _ ?_⟩) | (refine ⟨_, fun _ _ => ⟨rfl, rfl⟩, hK _ ?_⟩)); clear hK K)
       (refine qk_step (fun K hK => ?_); go_simp; (first | (refine hK _ ?_) | (refine ⟨_, fun _ _ => rfl, hK _ ?_⟩) | (refine ⟨_, fun _ _ => ⟨rfl, rfl⟩, hK _ ?_⟩)); clear hK K)
       (refine qk_step (fun K hK => ?_); rw [if_pos (by rfl)]; refine ⟨.bool true, fun X hX => ?_, hK _ ?_⟩; (have y := HS2r.out X hX; go_simp); clear hK K)
       (refine qk_step (fun K hK => ?_); go_simp; (first | (refine hK _ ?_) | (refine ⟨_, fun _ _ => rfl, hK _ ?_⟩) | (refine ⟨_, fun _ _ => ⟨rfl, rfl⟩, hK _ ?_⟩)); clear hK K)
       (refine qk_step (fun K hK => ?_); go_simp; (first | (refine hK _ ?_) | (refine ⟨_, fun _ _ => rfl, hK _ ?_⟩) | (refine ⟨_, fun _ _ => ⟨rfl, rfl⟩, hK _ ?_⟩)); clear hK K)
       (refine qk_step (fun K hK => ?_); go_simp; (first | (refine hK _ ?_) | (refine ⟨_, fun _ _ => rfl, hK _ ?_⟩) | (refine ⟨_, fun _ _ => ⟨rfl, rfl⟩, hK _ ?_⟩)); clear hK K)
       (refine qk_step (fun K hK => ?_); go_simp; (first | (refine hK _ ?_) | (refine ⟨_, fun _ _ => rfl, hK _ ?_⟩) | (refine ⟨_, fun _ _ => ⟨rfl, rfl⟩, hK _ ?_⟩)); clear hK K)
       (refine qk_step (fun K hK => ?_); go_simp; (first | (refine hK _ ?_) | (refine ⟨_, fun _ _ => rfl, hK _ ?_⟩) | (refine ⟨_, fun _ _ => ⟨rfl, rfl⟩, hK _ ?_⟩)); clear hK K)
       (refine qk_step (fun K hK => ?_); go_simp; (first | (refine hK _ ?_) | (refine ⟨_, fun _ _ => rfl, hK _ ?_⟩) | (refine ⟨_, fun _ _ => ⟨rfl, rfl⟩, hK _ ?_⟩)); clear hK K)
       (refine qk_step (fun K hK => ?_); rw [if_pos (by rfl)]; refine ⟨.int .i64 P, fun X hX => ?_, hK _ ?_⟩; (have y := HS0r.out X hX; go_simp); clear hK K)
       (refine qk_step (fun K hK => ?_); rw [if_pos (by rfl)]; refine quietC_load 32 (.tmp 3) rfl (w.heap.size + 1) 0 rfl _ HLD.out (hK _ ?_); clear hK K)
       (refine qk_step (fun K hK => ?_); rw [if_pos (by rfl)]; refine ⟨.bool FT, fun X hX => ?_, hK _ ?_⟩; (go_simp; exact HF6.out X hX); clear hK K)
       (refine qk_step (fun K hK => ?_); go_simp; (first | (refine hK _ ?_) | (refine ⟨_, fun _ _ => rfl, hK _ ?_⟩) | (refine ⟨_, fun _ _ => ⟨rfl, rfl⟩, hK _ ?_⟩)); clear hK K)
       refine qk_nil ?_
       intro X hX
       go_wp2_with fail
       go_meet
       exact ⟨by first | rfl | simp, Lib.hid hX⟩
    case rest =>
     obtain ⟨rfl, HBc⟩ := hcut
     have HBL2 := Lib.hid (HBL.out.trans (HBc.out.mono HBL.out.size))
     have HBW2 := Lib.hid (HBW.out.trans (HBc.out.mono HBW.out.size))
     have s0 : wc.cell? ⟨lg, i * 3, none⟩ = some (.int .i64 P) := cell_keep20 s0 HBc.out
     have s1 : wc.cell? ⟨lg, i * 3 + 1, none⟩ = some (.bool mb) := cell_keep20 s1 HBc.out
     have hbr := HBX.out.below HBW2.out HBX.out.lt
     have HBR := Lib.hid hbr
     clear x0 x1 x2 x3 s2 HBL HBW HBc HFT HS
     cases hcond : ((!H || mn) && FT) with
     |true =>
      have HFound : Hid (SC = some (i, P)) := Lib.hid (by
       rw [← HS3.out, if_pos]
       simpa using hcond)
      have f3 := hbr.frozen 3
      have y3 : wc.cell? ⟨w.heap.size, 3, none⟩ = some (.int .i64 spart) := hbr.cell 3
      have hR9 : Row (wc.setCell ⟨w.heap.size, 3, none⟩ (.int .i64 P)) w.heap.size 61 [.slice (some ⟨g, 0, none⟩) (r.length + 1) cp, .int .i64 sleaf, .bool sver, .int .i64 P] := hbr.set 3 (.int .i64 P)
      have hTw : Row wc W0.heap.size 89 [.int .i64 oP, .int .i64 (oK : Int), .bool oC] := (HTop.out.below HB3.out HTop.out.lt).below HBL2.out (Nat.lt_of_lt_of_le HTop.out.lt HB3.out.size)
      have hT9 : Row (wc.setCell ⟨w.heap.size, 3, none⟩ (.int .i64 P)) W0.heap.size 89 [.int .i64 oP, .int .i64 (oK : Int), .bool oC] := hTw.far (p := ⟨w.heap.size, 3, none⟩) (by show W0.heap.size ≠ w.heap.size; omega) _
      have hB9 : Below w.heap.size w (wc.setCell ⟨w.heap.size, 3, none⟩ (.int .i64 P)) := (HB0.out.trans (HBW2.out.mono HB0.out.size)).setCell (Nat.le_refl _) _
      have hS9 : Row (wc.setCell ⟨w.heap.size, 3, none⟩ (.int .i64 P)) (w.heap.size + 1 + 1) 61 [.slice none 0 0, .int .i64 0, .bool false, .int .i64 0] := (HRX.out.below HBW2.out HRX.out.lt).far (p := ⟨w.heap.size, 3, none⟩) (by show w.heap.size + 1 + 1 ≠ w.heap.size; omega) _
      clear hbr HS3 hTw
      go_upto_region 10 with (fail)
      generalize wc.setCell ⟨w.heap.size, 3, none⟩ (.int .i64 P) = w9 at *
      have HR9 := Lib.hid hR9
      have HB9 := Lib.hid hB9
      have HS9 := Lib.hid hS9
      have HT9 := Lib.hid hT9
      have y2 : w9.cell? ⟨w.heap.size, 2, none⟩ = some (.bool sver) := hR9.cell 2
      have y3 : w9.cell? ⟨w.heap.size, 3, none⟩ = some (.int .i64 P) := hR9.cell 3
      have t0 : w9.cell? ⟨W0.heap.size, 0, none⟩ = some (.int .i64 oP) := hT9.cell 0
      have f3 := hR9.frozen 3
      clear hR9 hB9 hS9 hT9
      obtain ⟨bz, hbz⟩ : ∃ bz : Bool, bz = decide (sver = false ∧ (P = 21 ∨ P = 17 ∧ oP = 14)) := ⟨_, rfl⟩
      have HBZ := Lib.hid hbz
      clear hbz
      go_cut [79] from 62 to 79 (fun cv wq => cv = .bool bz ∧ wq = w9)
      case first =>
       cases sver
       ·by_cases p21 : P = 21
        ·have b21 : (P == 21) = true := by simpa using p21
         have HE : Hid (bz = true) := Lib.hid (by rw [HBZ.out]; simp [p21])
         clear p21
         go_wp2_with fail
         go_meet
         exact ⟨by rw [HE.out], rfl⟩
        ·have b21 : (P == 21) = false := by simpa using p21
         by_cases p17 : P = 17
         ·have b17 : (P == 17) = true := by simpa using p17
          by_cases o14 : oP = 14
          ·have b14 : (oP == 14) = true := by simpa using o14
           have HE : Hid (bz = true) := Lib.hid (by rw [HBZ.out]; simp [p17, o14])
           clear p17 o14 p21
           go_wp2_with fail
           go_meet
           exact ⟨by rw [HE.out], rfl⟩
          ·have b14 : (oP == 14) = false := by simpa using o14
           have HE : Hid (bz = false) := Lib.hid (by rw [HBZ.out]; simp [p17, o14])
           clear p17 o14 p21
           go_wp2_with fail
           go_meet
           exact ⟨by rw [HE.out], rfl⟩
         ·have b17 : (P == 17) = false := by simpa using p17
          have HE : Hid (bz = false) := Lib.hid (by rw [HBZ.out]; simp [p17, p21])
          clear p17 p21
          go_wp2_with fail
          go_meet
          exact ⟨by rw [HE.out], rfl⟩
       ·have HE : Hid (bz = false) := Lib.hid (by rw [HBZ.out]; simp)
        go_wp2_with fail
        go_meet
        exact ⟨by rw [HE.out], rfl⟩
      case rest =>
       obtain ⟨rfl, rfl⟩ := hcut
       obtain ⟨PT, hPT⟩ : ∃ PT : Int, (if bz = true then 0 else P) = PT := ⟨_, rfl⟩
       have HPT := Lib.hid hPT
       go_upto_if 79 with (fail)
       go_cut [9] from 62 to 80 (fun hv wq => hv = .bool H ∧ Hid (Row wq w.heap.size 61 [.slice (some ⟨g, 0, none⟩) (r.length + 1) cp, .int .i64 sleaf, .bool sver, .int .i64 PT] ∧ Row wq W0.heap.size 89 [.int .i64 oP, .int .i64 (oK : Int), .bool oC] ∧ Below w.heap.size w wq ∧ Row wq (w.heap.size + 1 + 1) 61 [.slice none 0 0, .int .i64 0, .bool false, .int .i64 0]))
       case first =>
        cases bz
        ·have hz : Hid (P = PT) := Lib.hid (by simpa using HPT.out)
         have HQ := Lib.hid (show Row wc w.heap.size 61 [.slice (some ⟨g, 0, none⟩) (r.length + 1) cp, .int .i64 sleaf, .bool sver, .int .i64 PT] ∧ Row wc W0.heap.size 89 [.int .i64 oP, .int .i64 (oK : Int), .bool oC] ∧ Below w.heap.size w wc ∧ Row wc (w.heap.size + 1 + 1) 61 [.slice none 0 0, .int .i64 0, .bool false, .int .i64 0] from ⟨by rw [← hz.out]; exact HR9.out, HT9.out, HB9.out, HS9.out⟩)
         clear hPT
         go_wp2_with fail
         go_meet
         exact ⟨rfl, HQ⟩
        ·have hz : Hid (0 = PT) := Lib.hid (by simpa using HPT.out)
         have hRz0 := HR9.out.set 3 (.int .i64 0)
         have hTz0 := HT9.out.far (p := ⟨w.heap.size, 3, none⟩) (by show W0.heap.size ≠ w.heap.size; omega) (.int .i64 0)
         have hBz0 := HB9.out.setCell (p := ⟨w.heap.size, 3, none⟩) (Nat.le_refl _) (.int .i64 0)
         have hSz0 := HS9.out.far (p := ⟨w.heap.size, 3, none⟩) (by show w.heap.size + 1 + 1 ≠ w.heap.size; omega) (.int .i64 0)
         have HQ := Lib.hid (show Row (wc.setCell ⟨w.heap.size, 3, none⟩ (.int .i64 0)) w.heap.size 61 [.slice (some ⟨g, 0, none⟩) (r.length + 1) cp, .int .i64 sleaf, .bool sver, .int .i64 PT] ∧ Row (wc.setCell ⟨w.heap.size, 3, none⟩ (.int .i64 0)) W0.heap.size 89 [.int .i64 oP, .int .i64 (oK : Int), .bool oC] ∧ Below w.heap.size w (wc.setCell ⟨w.heap.size, 3, none⟩ (.int .i64 0)) ∧ Row (wc.setCell ⟨w.heap.size, 3, none⟩ (.int .i64 0)) (w.heap.size + 1 + 1) 61 [.slice none 0 0, .int .i64 0, .bool false, .int .i64 0] from ⟨by rw [← hz.out]; exact hRz0, hTz0, hBz0, hSz0⟩)
         clear hRz0 hTz0 hBz0 hSz0 hPT
         go_wp2_with fail
         go_meet
         exact ⟨rfl, HQ⟩
       case rest =>
        obtain ⟨rfl, HZ⟩ := hcut
        clear hPT y2 y3 t0 f3 s0 s1 HLV HBL2 HBW2 HBR HR9 HB9 HS9 HT9
        obtain ⟨wz, hwz⟩ : ∃ x : World, x = wc := ⟨wc, rfl⟩
        subst hwz
        have HRZ := Lib.hid HZ.out.1
        have HTZ := Lib.hid HZ.out.2.1
        have HBZ2 := Lib.hid HZ.out.2.2.1
        have HSZ := Lib.hid HZ.out.2.2.2
        clear HZ
        go_upto_region 12 with (fail)
        have hRz := HRZ.out
        have y0 : wz.cell? ⟨w.heap.size, 0, none⟩ = some (.slice (some ⟨g, 0, none⟩) (r.length + 1) cp) := hRz.cell 0
        have f0 := hRz.frozen 0
        have t0 : wz.cell? ⟨W0.heap.size, 0, none⟩ = some (.int .i64 oP) := HTZ.out.cell 0
        have HST : Hid (∀ X, Below wz.heap.size wz X → X.cell? ⟨w.heap.size, 0, none⟩ = some (.slice (some ⟨g, 0, none⟩) (r.length + 1) cp) ∧ X.frozen? ⟨w.heap.size, 0, none⟩ = false ∧ X.cell? ⟨W0.heap.size, 0, none⟩ = some (.int .i64 oP)) := Lib.hid (fun X h => ⟨(HRZ.out.below h HRZ.out.lt).cell 0, (HRZ.out.below h HRZ.out.lt).frozen 0, (HTZ.out.below h HTZ.out.lt).cell 0⟩)
        have HFR : Hid (∀ Y, Below wz.heap.size wz Y → ∀ j u, (gosC r.reverse)[j]? = some u → Y.cell? ((⟨g, 0, none⟩ : Addr).add j) = some u) := Lib.hid (fun Y hY => (HO.out.below (HBZ2.out.trans (hY.mono HBZ2.out.size))).front)
        have HSH : Hid (∀ X v, OpA X wz.heap.size v (r.reverse ++ [GO.mk oP i true]) → ∃ g2 d2, v = .slice (some ⟨g2, 0, none⟩) (r.length + 1) d2 ∧ wz.heap.size ≤ g2) := Lib.hid (fun X v h => by
         rcases h.shape with ⟨_, q⟩ | ⟨g, c, q, _, _, h1, _⟩
         ·simp at q
         ·exact ⟨g, c, by rw [q]; simp, h1⟩)
        have hrr : r.reverse.length = r.length := List.length_reverse
        have hl9 : r.reverse.length ≤ 100000000 := by rw [hrr]; omega
        have hc1 : (r.length : Int) ≤ (cp : Int) := by omega
        have hbw : w.heap.size < wz.heap.size := HRZ.out.lt
        have htw : W0.heap.size < wz.heap.size := HTZ.out.lt
        obtain ⟨a0, a1, a2⟩ := HST.out (wz.alloc (.cells #[] 89)) ((Below.refl _ _).alloc (Nat.le_refl _) _)
        obtain ⟨a3, a4, a5⟩ := HST.out ((wz.alloc (.cells #[] 89)).alloc (.cells #[.int .i64 oP, .int .i64 (i : Int), .bool true] 89)) (((Below.refl _ _).alloc (Nat.le_refl _) _).alloc (by simp) _)
        obtain ⟨a6, a7, a8⟩ := HST.out (wz.alloc (.cells #[.int .i64 oP, .int .i64 (i : Int), .bool true] 89)) ((Below.refl _ _).alloc (Nat.le_refl _) _)
        obtain ⟨b0, b1, b2⟩ := HST.out ((wz.alloc (.cells #[.int .i64 oP, .int .i64 (i : Int), .bool true] 89)).alloc (.cells #[] 89)) (((Below.refl _ _).alloc (Nat.le_refl _) _).alloc (by simp) _)
        clear hRz
        have HEND : Hid (∀ (X2 : World) (g2 d2 : Nat), Below wz.heap.size wz X2 → OpA X2 wz.heap.size (.slice (some ⟨g2, 0, none⟩) (r.length + 1) d2) (r.reverse ++ [GO.mk oP i true]) → ∃ g3 d3, Row (X2.setCell ⟨w.heap.size, 0, none⟩ (.slice (some ⟨g2, 0, none⟩) (r.length + 1) d2)) w.heap.size 61 [.slice (some ⟨g3, 0, none⟩) (r.length + 1) d3, .int .i64 sleaf, .bool sver, .int .i64 PT] ∧ OpA (X2.setCell ⟨w.heap.size, 0, none⟩ (.slice (some ⟨g2, 0, none⟩) (r.length + 1) d2)) wz.heap.size (.slice (some ⟨g3, 0, none⟩) (r.length + 1) d3) (r.reverse ++ [GO.mk oP i true]) ∧ Below w.heap.size w (X2.setCell ⟨w.heap.size, 0, none⟩ (.slice (some ⟨g2, 0, none⟩) (r.length + 1) d2)) ∧ Row (X2.setCell ⟨w.heap.size, 0, none⟩ (.slice (some ⟨g2, 0, none⟩) (r.length + 1) d2)) (w.heap.size + 1 + 1) 61 [.slice none 0 0, .int .i64 0, .bool false, .int .i64 0]) := Lib.hid (fun X2 g2 d2 hB2 ho2 =>
         ⟨g2, d2, (HRZ.out.below hB2 HRZ.out.lt).set 0 _, own_chg (F := fun j => j = w.heap.size) ho2 ⟨rfl, rfl, rfl, by simp, fun j _ hj => Below.heap_setCell X2 _ _ j hj⟩ (fun j hj => by rw [hj]; exact HRZ.out.lt), (HBZ2.out.trans (hB2.mono HBZ2.out.size)).setCell (Nat.le_refl _) _, (HSZ.out.below hB2 HSZ.out.lt).far (p := ⟨w.heap.size, 0, none⟩) (by show w.heap.size + 1 + 1 ≠ w.heap.size; omega) _⟩)
        go_cut [9] from 81 to 93 (fun hv wq => hv = .bool H ∧ Hid (∃ g2 d2, Row wq w.heap.size 61 [.slice (some ⟨g2, 0, none⟩) (r.length + 1) d2, .int .i64 sleaf, .bool sver, .int .i64 PT] ∧ OpA wq wz.heap.size (.slice (some ⟨g2, 0, none⟩) (r.length + 1) d2) (r.reverse ++ [GO.mk oP i true]) ∧ Below w.heap.size w wq ∧ Row wq (w.heap.size + 1 + 1) 61 [.slice none 0 0, .int .i64 0, .bool false, .int .i64 0]))
        case first =>
         clear HSC HFound HPT HBZ
         go_region_law (first
          |(refine op_first rfl (.tmp 81) (.tmp 85) rfl (W := wz) wz.heap.size g cp r.length r.reverse rfl rfl hrr (row_of_heap20 (heap20_1 rfl (.cells #[] 89)) rfl) (Nat.le_refl _) (by first | exact ((Below.refl _ _).alloc (Nat.le_refl _) _).drew | exact (Below.refl _ _).alloc (Nat.le_refl _) _) HFR.out hl9 ?_; intro v1 X1 ho1 hB1 hg9; obtain ⟨q0, q1, q2⟩ := HST.out X1 hB1)
          |(refine op_first rfl (.tmp 81) (.tmp 85) rfl (W := wz) wz.heap.size g cp r.length r.reverse rfl rfl hrr (row_of_heap20 (heap20_2 rfl (.cells #[] 89) (goO ⟨oP, i, true⟩)) rfl) (Nat.le_refl _) (by first | exact (((Below.refl _ _).alloc (Nat.le_refl _) _).alloc (by simp) _).drew | exact ((Below.refl _ _).alloc (Nat.le_refl _) _).alloc (by simp) _) HFR.out hl9 ?_; intro v1 X1 ho1 hB1 hg9; have r9 := hg9 (wz.heap.size + 1) ⟨oP, i, true⟩ (by omega) (row_of_heap20 (heap20_3 rfl (.cells #[] 89) (goO ⟨oP, i, true⟩)) rfl); obtain ⟨q0, q1, q2⟩ := HST.out X1 hB1)
          |(refine op_first rfl (.tmp 81) (.tmp 85) rfl (W := wz) (wz.heap.size + 1) g cp r.length r.reverse rfl rfl hrr (row_of_heap20 (heap20_3 rfl (goO ⟨oP, i, true⟩) (.cells #[] 89)) rfl) (by omega) (by first | exact (((Below.refl _ _).alloc (Nat.le_refl _) _).alloc (by simp) _).drew | exact ((Below.refl _ _).alloc (Nat.le_refl _) _).alloc (by simp) _) HFR.out hl9 ?_; intro v1 X1 ho1 hB1 hg9; have r9 := hg9 wz.heap.size ⟨oP, i, true⟩ (by omega) (row_of_heap20 (heap20_2 rfl (goO ⟨oP, i, true⟩) (.cells #[] 89)) rfl); obtain ⟨q0, q1, q2⟩ := HST.out X1 hB1)
          |(refine op_second rfl (.tmp 86) (.tmp 91) rfl (W := wz) X1.heap.size v1 r.reverse ⟨oP, i, true⟩ rfl rfl (ho1.below (by first | exact ((Below.refl _ _).alloc (Nat.le_refl _) _).drew | exact (Below.refl _ _).alloc (Nat.le_refl _) _)) (Row.new X1 _ (goC ⟨oP, i, true⟩)) (by first | exact hB1.alloc hB1.size _ | exact (hB1.alloc hB1.size _).drew) hl9 ?_; intro v2 X2 ho2 hB2; obtain ⟨g2, d2, rfl, hg2⟩ := HSH.out X2 v2 ho2; obtain ⟨q0, q1, q2⟩ := HST.out X2 hB2)
          |(refine op_second rfl (.tmp 86) (.tmp 91) rfl (W := wz) (wz.heap.size + 1) v1 r.reverse ⟨oP, i, true⟩ rfl rfl ho1 r9 hB1 hl9 ?_; intro v2 X2 ho2 hB2; obtain ⟨g2, d2, rfl, hg2⟩ := HSH.out X2 v2 ho2; obtain ⟨q0, q1, q2⟩ := HST.out X2 hB2)
          |(refine op_second rfl (.tmp 86) (.tmp 91) rfl (W := wz) wz.heap.size v1 r.reverse ⟨oP, i, true⟩ rfl rfl ho1 r9 hB1 hl9 ?_; intro v2 X2 ho2 hB2; obtain ⟨g2, d2, rfl, hg2⟩ := HSH.out X2 v2 ho2; obtain ⟨q0, q1, q2⟩ := HST.out X2 hB2))
         all_goals
          have HQ := Lib.hid (HEND.out X2 g2 d2 hB2 ho2)
          clear hB2 ho2 q0 q1 q2 a0 a1 a2 a3 a4 a5 a6 a7 a8 b0 b1 b2 y0 f0 t0
          go_wp2_with fail
          go_meet
          exact ⟨rfl, HQ⟩
        case rest =>
         obtain ⟨rfl, HQ⟩ := hcut
         obtain ⟨g2, d2, hRw, hOw, hBw, hSw⟩ := HQ.out
         clear HQ HEND
         obtain ⟨L, hL⟩ : ∃ L : List Value, L = [.slice (some ⟨g2, 0, none⟩) (r.length + 1) d2, .int .i64 sleaf, .bool sver, .int .i64 PT] := ⟨_, rfl⟩
         have hLl : L.length = 4 := by rw [hL]; rfl
         have HLO : Hid (∀ u ∈ L, u.oneCell' = true) := Lib.hid (by rw [hL]; intro u hu; simp at hu; rcases hu with rfl | rfl | rfl | rfl <;> rfl)
         have HLI : Hid ((Tryz.prog.info? 61).map (·.size) = some L.length) := Lib.hid (by rw [hLl]; exact infoRg)
         have HLI2 : Hid ((Tryz.prog.info? 61).map (·.size) = some L.toArray.size) := Lib.hid (by rw [List.size_toArray, hLl]; exact infoRg)
         rw [← hL] at hRw
         have HLR := Lib.hid hRw.whole
         have HLT : Hid (World.there wc (w.heap.size + 1 + 1) 0 L.toArray.size) := Lib.hid (hSw.there (by rw [List.size_toArray, hLl]; simp))
         have HFin : Hid (Row (wc.setCells (w.heap.size + 1 + 1) 0 L) (w.heap.size + 1 + 1) 61 L) := Lib.hid (hSw.setAll (by rw [hLl]; rfl))
         have HFB : Hid (Below w.heap.size w (wc.setCells (w.heap.size + 1 + 1) 0 L)) := Lib.hid (below_setCells _ _ hBw (by omega))
         have HFO : Hid (OpA (wc.setCells (w.heap.size + 1 + 1) 0 L) wz.heap.size (.slice (some ⟨g2, 0, none⟩) (r.length + 1) d2) (r.reverse ++ [GO.mk oP i true])) := Lib.hid (own_keep hOw (fun j _ hj => heap_setCells_far L 0 (w.heap.size + 1 + 1) _ (by have := HSZ.out.lt; omega)))
         have HHD : Hid (GS.head ⟨⟨oP, oK, oC⟩ :: r, sleaf, sver, spart⟩ c t f n = ⟨⟨oP, i, true⟩ :: r, sleaf, sver, PT⟩) := Lib.hid (by
          unfold GS.head
          simp only [HSC.out, HFound.out]
          rw [← HPT.out, HBZ.out]
          simp)
         have HLL := Lib.hid hL
         clear hRw hSw hBw hOw hL hLl a0 a1 a2 a3 a4 a5 a6 a7 a8 b0 b1 b2 y0 f0 t0
         go_wp2_with (first
          |refine wpList_load_mid rfl 61 (.tmp 2) rfl w.heap.size 0 rfl L _ HLR.out Tryz.underlying61 rfl HLI.out ?_
          |refine wpList_store_mid rfl 61 (.tmp 4) (.tmp 94) rfl (w.heap.size + 1 + 1) 0 L.toArray rfl rfl HLT.out HLI2.out (all_oneCell_toArray HLO.out) ?_)
         exact bodyPost_ret (results_cell Tryz.results33 _ (ad := ⟨w.heap.size + 1 + 1, 0, none⟩) rfl (run_loadVar_mid _ _ 0 _ L _ HFin.out.whole Tryz.underlying61 rfl HLI.out)) rfl ⟨_, rfl, ⟨_, by rw [HHD.out, HLL.out]; rfl, by rw [HHD.out]; have := HFO.out.mono (Nat.zero_le _); simpa using this⟩, HFB.out⟩
     |false =>
      have hneg : ¬ ((H = false ∨ mn = true) ∧ FT = true) := by
       rintro ⟨h1, h2⟩
       rw [h2] at hcond
       rcases h1 with h1 | h1 <;> rw [h1] at hcond <;> simp at hcond
      have hnf : (if H = false ∧ mb = false then none else scanG c t f n false (i + 1) ((rowG oP).drop (i + 1))) = SC := by
       rw [← HS3.out, if_neg hneg]
      have HNF0 := Lib.hid hnf
      clear hnf HS3 hneg
      by_cases hstop : H = false ∧ mb = false
      ·obtain ⟨hH0, hm0⟩ := hstop
       subst hH0
       subst hm0
       have HNone : Hid (SC = none) := Lib.hid (by rw [← HNF0.out, if_pos ⟨rfl, rfl⟩])
       have WB := HBL2.out
       have hBt := (HBT.out.trans (HB3.out.mono HBT.out.size)).trans (WB.mono (HBT.out.trans (HB3.out.mono HBT.out.size)).size)
       have hbr := HBX.out.below hBt HBX.out.lt
       have f3 := hbr.frozen 3
       have y3 : wc.cell? ⟨w.heap.size, 3, none⟩ = some (.int .i64 spart) := hbr.cell 3
       obtain ⟨L, hL⟩ : ∃ L : List Value, L = [.slice (some ⟨g, 0, none⟩) (r.length + 1) cp, .int .i64 sleaf, .bool sver, .int .i64 0] := ⟨_, rfl⟩
       have hLl : L.length = 4 := by rw [hL]; rfl
       have hRw : Row (wc.setCell ⟨w.heap.size, 3, none⟩ (.int .i64 0)) w.heap.size 61 L := by rw [hL]; exact hbr.set 3 _
       have hSw : Row (wc.setCell ⟨w.heap.size, 3, none⟩ (.int .i64 0)) (w.heap.size + 1 + 1) 61 [.slice none 0 0, .int .i64 0, .bool false, .int .i64 0] := (HRX.out.below hBt HRX.out.lt).far (p := ⟨w.heap.size, 3, none⟩) (by show w.heap.size + 1 + 1 ≠ w.heap.size; omega) _
       have hBw : Below w.heap.size w (wc.setCell ⟨w.heap.size, 3, none⟩ (.int .i64 0)) := (HB0.out.trans (hBt.mono HB0.out.size)).setCell (Nat.le_refl _) _
       have HLO : Hid (∀ u ∈ L, u.oneCell' = true) := Lib.hid (by rw [hL]; intro u hu; simp at hu; rcases hu with rfl | rfl | rfl | rfl <;> rfl)
       have HLI : Hid ((Tryz.prog.info? 61).map (·.size) = some L.length) := Lib.hid (by rw [hLl]; exact infoRg)
       have HLI2 : Hid ((Tryz.prog.info? 61).map (·.size) = some L.toArray.size) := Lib.hid (by rw [List.size_toArray, hLl]; exact infoRg)
       have HLR := Lib.hid hRw.whole
       have HLT : Hid (World.there (wc.setCell ⟨w.heap.size, 3, none⟩ (.int .i64 0)) (w.heap.size + 1 + 1) 0 L.toArray.size) := Lib.hid (hSw.there (by rw [List.size_toArray, hLl]; simp))
       have HFin : Hid (Row ((wc.setCell ⟨w.heap.size, 3, none⟩ (.int .i64 0)).setCells (w.heap.size + 1 + 1) 0 L) (w.heap.size + 1 + 1) 61 L) := Lib.hid (hSw.setAll (by rw [hLl]; rfl))
       have HFB : Hid (Below w.heap.size w ((wc.setCell ⟨w.heap.size, 3, none⟩ (.int .i64 0)).setCells (w.heap.size + 1 + 1) 0 L)) := Lib.hid (below_setCells _ _ hBw (by omega))
       have HFO : Hid (OpA ((wc.setCell ⟨w.heap.size, 3, none⟩ (.int .i64 0)).setCells (w.heap.size + 1 + 1) 0 L) 0 (.slice (some ⟨g, 0, none⟩) (r.length + 1) cp) (r.reverse ++ [GO.mk oP oK oC])) := Lib.hid (HO.out.below (below_setCells _ _ hBw (by omega)))
       have HHD : Hid (GS.head ⟨⟨oP, oK, oC⟩ :: r, sleaf, sver, spart⟩ c t f n = ⟨⟨oP, oK, oC⟩ :: r, sleaf, sver, 0⟩) := Lib.hid (by
        unfold GS.head
        simp only [HSC.out, HNone.out])
       have HLL := Lib.hid hL
       clear hRw hSw hBw hL hLl hBt hbr WB
       go_wp2_with (first
        |refine wpList_load_mid rfl 61 (.tmp 2) rfl w.heap.size 0 rfl L _ HLR.out Tryz.underlying61 rfl HLI.out ?_
        |refine wpList_store_mid rfl 61 (.tmp 4) (.tmp 106) rfl (w.heap.size + 1 + 1) 0 L.toArray rfl rfl HLT.out HLI2.out (all_oneCell_toArray HLO.out) ?_)
       exact bodyPost_ret (results_cell Tryz.results33 _ (ad := ⟨w.heap.size + 1 + 1, 0, none⟩) rfl (run_loadVar_mid _ _ 0 _ L _ HFin.out.whole Tryz.underlying61 rfl HLI.out)) rfl ⟨_, rfl, ⟨_, by rw [HHD.out, HLL.out]; rfl, by rw [HHD.out]; have := HFO.out; simpa using this⟩, HFB.out⟩
      ·have HNext : Hid (scanG c t f n false (i + 1) ((rowG oP).drop (i + 1)) = SC) := Lib.hid (by rw [← HNF0.out, if_neg hstop])
       have hHm : (H = true) ∨ (H = false ∧ mb = true) := by
        cases H
        ·cases mb
         ·exact absurd ⟨rfl, rfl⟩ hstop
         ·exact .inr ⟨rfl, rfl⟩
        ·exact .inl rfl
       have HREL : Hid (scanG c t f n (decide (i + 1 = oK) && oC) (i + 1) ((rowG oP).drop (i + 1)) = SC) := Lib.hid (by
        rw [decide_eq_false (by omega), Bool.false_and]; exact HNext.out)
       clear hstop HNF0 hbr HBR s0 HLV
       rcases hHm with rfl | ⟨rfl, rfl⟩
       all_goals
        go_wp2_with fail
        go_roundg ((rowG oP).length - (i + 1))
        case measure => omega
        case rel => exact ⟨i + 1, by simp, by omega, by have := rowG_len oP; omega, by omega, HREL, HBL2⟩
  ·have hlt2 : ¬ (i : Int) < ((rowG oP).length : Int) := by omega
   have HNone : Hid (SC = none) := Lib.hid (by
    rw [← HS.out, List.drop_of_length_le (by omega)]; rfl)
   have WB := HBL.out
   have hBt := (HBT.out.trans (HB3.out.mono HBT.out.size)).trans (WB.mono (HBT.out.trans (HB3.out.mono HBT.out.size)).size)
   have hbr := HBX.out.below hBt HBX.out.lt
   have f3 := hbr.frozen 3
   have y3 : wr.cell? ⟨w.heap.size, 3, none⟩ = some (.int .i64 spart) := hbr.cell 3
   obtain ⟨L, hL⟩ : ∃ L : List Value, L = [.slice (some ⟨g, 0, none⟩) (r.length + 1) cp, .int .i64 sleaf, .bool sver, .int .i64 0] := ⟨_, rfl⟩
   have hLl : L.length = 4 := by rw [hL]; rfl
   have hRw : Row (wr.setCell ⟨w.heap.size, 3, none⟩ (.int .i64 0)) w.heap.size 61 L := by rw [hL]; exact hbr.set 3 _
   have hSw : Row (wr.setCell ⟨w.heap.size, 3, none⟩ (.int .i64 0)) (w.heap.size + 1 + 1) 61 [.slice none 0 0, .int .i64 0, .bool false, .int .i64 0] := (HRX.out.below hBt HRX.out.lt).far (p := ⟨w.heap.size, 3, none⟩) (by show w.heap.size + 1 + 1 ≠ w.heap.size; omega) _
   have hBw : Below w.heap.size w (wr.setCell ⟨w.heap.size, 3, none⟩ (.int .i64 0)) := (HB0.out.trans (hBt.mono HB0.out.size)).setCell (Nat.le_refl _) _
   have HLO : Hid (∀ u ∈ L, u.oneCell' = true) := Lib.hid (by rw [hL]; intro u hu; simp at hu; rcases hu with rfl | rfl | rfl | rfl <;> rfl)
   have HLI : Hid ((Tryz.prog.info? 61).map (·.size) = some L.length) := Lib.hid (by rw [hLl]; exact infoRg)
   have HLI2 : Hid ((Tryz.prog.info? 61).map (·.size) = some L.toArray.size) := Lib.hid (by rw [List.size_toArray, hLl]; exact infoRg)
   have HLR := Lib.hid hRw.whole
   have HLT : Hid (World.there (wr.setCell ⟨w.heap.size, 3, none⟩ (.int .i64 0)) (w.heap.size + 1 + 1) 0 L.toArray.size) := Lib.hid (hSw.there (by rw [List.size_toArray, hLl]; simp))
   have HFin : Hid (Row ((wr.setCell ⟨w.heap.size, 3, none⟩ (.int .i64 0)).setCells (w.heap.size + 1 + 1) 0 L) (w.heap.size + 1 + 1) 61 L) := Lib.hid (hSw.setAll (by rw [hLl]; rfl))
   have HFB : Hid (Below w.heap.size w ((wr.setCell ⟨w.heap.size, 3, none⟩ (.int .i64 0)).setCells (w.heap.size + 1 + 1) 0 L)) := Lib.hid (below_setCells _ _ hBw (by omega))
   have HFO : Hid (OpA ((wr.setCell ⟨w.heap.size, 3, none⟩ (.int .i64 0)).setCells (w.heap.size + 1 + 1) 0 L) 0 (.slice (some ⟨g, 0, none⟩) (r.length + 1) cp) (r.reverse ++ [GO.mk oP oK oC])) := Lib.hid (HO.out.below (below_setCells _ _ hBw (by omega)))
   have HHD : Hid (GS.head ⟨⟨oP, oK, oC⟩ :: r, sleaf, sver, spart⟩ c t f n = ⟨⟨oP, oK, oC⟩ :: r, sleaf, sver, 0⟩) := Lib.hid (by
    unfold GS.head
    simp only [HSC.out, HNone.out])
   have HLL := Lib.hid hL
   clear hRw hSw hBw hL hLl hBt hbr WB
   go_wp2_with (first
    |refine wpList_load_mid rfl 61 (.tmp 2) rfl w.heap.size 0 rfl L _ HLR.out Tryz.underlying61 rfl HLI.out ?_
    |refine wpList_store_mid rfl 61 (.tmp 4) (.tmp 106) rfl (w.heap.size + 1 + 1) 0 L.toArray rfl rfl HLT.out HLI2.out (all_oneCell_toArray HLO.out) ?_)
   exact bodyPost_ret (results_cell Tryz.results33 _ (ad := ⟨w.heap.size + 1 + 1, 0, none⟩) rfl (run_loadVar_mid _ _ 0 _ L _ HFin.out.whole Tryz.underlying61 rfl HLI.out)) rfl ⟨_, rfl, ⟨_, by rw [HHD.out, HLL.out]; rfl, by rw [HHD.out]; have := HFO.out; simpa using this⟩, HFB.out⟩
end Go.Proofs.YtiiimhamfibdbaaGreat
