/- Layer 19's reference: a whole list. -/
import Derived.Test.YtiiimhamfibdbaaGreatRefEnc5
import Derived.Deep.RegionHeld3
namespace Go.Proofs.YtiiimhamfibdbaaGreat
open Go.RowKit Go.PlainAid
set_option linter.unusedVariables false
theorem crlF_enc (c : CrlV) : encS ((tbsF c).app ((algF c.alg).app (lf 3 (0 :: bl c.sig)))) = encS (tbsF c) ++ encS (algF c.alg) ++ encS (lf 3 (0 :: bl c.sig)) := by
 simp only [encS_app, ByteArray.append_assoc]
theorem bl_zero (s : ByteArray) : bl (⟨#[0]⟩ ++ s) = 0 :: bl s := by rw [bl_append]; rfl
set_option maxRecDepth 100000 in
set_option maxHeartbeats 16000000 in
theorem refEncode_any (c : CrlV) (r : CrlR) (hs : c.Small) (hcap : CrlCap c r) (w : World) (hc : CameCrl w c r) :
  Calls Tryz.prog 14 #[crlV c r] w fun e w' => e = .returned (.tuple #[.string (crlS c), .int .i64 (tbsE c)]) ∧ Below w.heap.size w w' := by
 have HT := Lib.hid (fun W (hb : Below w.heap.size w W) => refTbs_any c r hs hcap W (hc.below hb))
 have HA := Lib.hid (fun W (hb : Below w.heap.size w W) => refId_any r.oa r.ca c.alg hs.alg hs.ain W (hc.alg.below hb))
 have HBAD : Hid (tbsE c ≠ 0 → crlS c = ⟨#[]⟩) := Lib.hid (fun h => by unfold crlS; rw [if_neg h])
 have HGOOD : Hid (tbsE c = 0 → tbsS c = encS (tbsF c) ∧ crlS c = encS (crlF c) ∧ (encS (tbsF c)).size ≤ 83367 ∧ (encS (algF c.alg)).size ≤ 242 ∧ (encS (lf 3 (0 :: bl c.sig))).size ≤ 315 ∧ (encS (lf 6 (bl (opS c.alg)))).size ≤ 214 ∧
   (∀ W s, encS (lf 6 (bl (opS c.alg))) ++ encS (lf 5 []) = s → Calls Tryz.prog 28 #[.string s] W fun e w' => e = .returned (.string (encS (algF c.alg))) ∧ Below W.heap.size W w') ∧
   (∀ W s, encS (tbsF c) ++ encS (algF c.alg) ++ encS (lf 3 (0 :: bl c.sig)) = s → Calls Tryz.prog 28 #[.string s] W fun e w' => e = .returned (.string (encS (crlF c))) ∧ Below W.heap.size W w')) := Lib.hid (fun h => by
  have hv := tbsE_zero h
  have h1 := (CrlV.valOk_iff.1 hv).1
  have ht := (tbsF_len hs hv).2
  have ha := algF_len h1 hs.alg hs.ain
  have hk := (crlK_len hs hv).2
  have hsg := hs.sig
  have h3 := (lf_len (t := 3) (C := 0 :: bl c.sig) (by decide) (by decide) (by rw [List.length_cons, bl_length]; omega)).2
  rw [List.length_cons, bl_length] at h3
  have h2 := oL_le h1 hs.alg hs.ain
  have h6 := (lf_len (t := 6) (C := oL c.alg) (by decide) (by decide) (by omega)).2
  refine ⟨by unfold tbsS; rw [if_pos h], by unfold crlS; rw [if_pos h], by rw [encS_size]; exact ht, by rw [encS_size]; exact ha, by rw [encS_size]; omega, by rw [opS_bl h1, encS_size]; omega, fun W s e => ?_, fun W s e => ?_⟩
  ·rw [opS_bl h1, ← encS_leaf] at e
   refine refSeq_is _ e ?_ W
   rw [← encS_size, encS_leaf, ByteArray.size_append, encS_size, encS_size]
   have := (lf_len (t := 5) (C := []) (by decide) (by decide) (by decide)).2
   simp only [List.length_nil] at this
   omega
  ·rw [← crlF_enc] at e
   exact refSeq_is _ e (by omega) W)
 have HL5 := Lib.hid (refLeaf19_any 5 ⟨#[]⟩ (by decide) (by decide +kernel))
 have e5 : bl ⟨#[]⟩ = [] := rfl
 rw [e5] at HL5
 have HL3 := Lib.hid (refLeaf19_any 3 (⟨#[0]⟩ ++ c.sig) (by decide) (by have := hs.sig; rw [ByteArray.size_append]; show 1 + c.sig.size ≤ 100000; omega))
 rw [bl_zero] at HL3
 have s5 : (encS (lf 5 [])).size ≤ 14 := by rw [encS_size]; exact (lf_len (t := 5) (C := []) (by decide) (by decide) (by decide)).2
 have hsg : c.sig.size ≤ 300 := hs.sig
 have o0 : ¬ 9223372036854775807 < (⟨#[0]⟩ : ByteArray).size + c.sig.size := by show ¬ 9223372036854775807 < 1 + c.sig.size; omega
 clear e5 hs hc hcap
 unfold crlV at *
 obtain ⟨oa, ca, oi, ci, oe, ce, ox, cx⟩ := r
 dsimp only at *
 generalize encS (tbsF c) = TF at *
 generalize encS (crlF c) = CF at *
 generalize tbsE c = TE at *
 generalize tbsS c = TS at *
 generalize crlS c = CS at *
 generalize c.v2 = v2 at *
 generalize c.issuer = issuer at *
 generalize c.this = this at *
 generalize c.next = next at *
 generalize c.entries = entries at *
 generalize c.exts = exts at *
 generalize c.sig = sg at *
 generalize encS (algF c.alg) = SQ at *
 generalize c.alg = alg at *
 generalize encS (lf 5 []) = S5 at *
 generalize encS (lf 6 (bl (opS alg))) = S6 at *
 generalize encS (lf 3 (0 :: bl sg)) = S3 at *
 have HR1 : Hid (Row (w.alloc (.cells #[.bool v2, .slice oa alg.length ca, .slice oi issuer.length ci, .string this, .string next, .slice oe entries.length ce, .slice ox exts.length cx, .string sg] 48)) w.heap.size 48 [.bool v2, .slice oa alg.length ca, .slice oi issuer.length ci, .string this, .string next, .slice oe entries.length ce, .slice ox exts.length cx, .string sg]) := Lib.hid (Row.new w _ [.bool v2, .slice oa alg.length ca, .slice oi issuer.length ci, .string this, .string next, .slice oe entries.length ce, .slice ox exts.length cx, .string sg])
 have HB1 : Hid (Below w.heap.size w (w.alloc (.cells #[.bool v2, .slice oa alg.length ca, .slice oi issuer.length ci, .string this, .string next, .slice oe entries.length ce, .slice ox exts.length cx, .string sg] 48))) := Lib.hid ((Below.refl _ _).alloc (Nat.le_refl _) _)
 go_enter Tryz.func14, Tryz.ntmps14
 go_upto_region 1 with (fail)
 generalize w.alloc (.cells #[.bool v2, .slice oa alg.length ca, .slice oi issuer.length ci, .string this, .string next, .slice oe entries.length ce, .slice ox exts.length cx, .string sg] 48) = w1 at *
 have HB : Hid (Below w1.heap.size w1 w1) := Lib.hid (Below.refl _ _)
 have HT' := Lib.hid (HT.out _ HB1.out)
 have z0 : w1.cell? ⟨w.heap.size, 0, none⟩ = some (.bool v2) := (HR1.out.below HB.out HR1.out.lt).cell 0
 have z1 : w1.cell? ⟨w.heap.size, 1, none⟩ = some (.slice oa alg.length ca) := (HR1.out.below HB.out HR1.out.lt).cell 1
 have z2 : w1.cell? ⟨w.heap.size, 2, none⟩ = some (.slice oi issuer.length ci) := (HR1.out.below HB.out HR1.out.lt).cell 2
 have z3 : w1.cell? ⟨w.heap.size, 3, none⟩ = some (.string this) := (HR1.out.below HB.out HR1.out.lt).cell 3
 have z4 : w1.cell? ⟨w.heap.size, 4, none⟩ = some (.string next) := (HR1.out.below HB.out HR1.out.lt).cell 4
 have z5 : w1.cell? ⟨w.heap.size, 5, none⟩ = some (.slice oe entries.length ce) := (HR1.out.below HB.out HR1.out.lt).cell 5
 have z6 : w1.cell? ⟨w.heap.size, 6, none⟩ = some (.slice ox exts.length cx) := (HR1.out.below HB.out HR1.out.lt).cell 6
 have z7 : w1.cell? ⟨w.heap.size, 7, none⟩ = some (.string sg) := (HR1.out.below HB.out HR1.out.lt).cell 7
 clear HT
 go_wp2_with fail
 refine (HT'.out).mono ?_
 rintro e w2 ⟨rfl, hb9⟩
 replace HB := Lib.hid (HB.out.trans (hb9.mono HB.out.size))
 clear hb9 HT' z0 z1 z2 z3 z4 z5 z6 z7
 by_cases h0 : TE = 0
 ·subst h0
  obtain ⟨hts, hcs, sT, sQ, s3, s6, HSA, HSC⟩ := HGOOD.out rfl
  rw [hts]
  have HCS := Lib.hid hcs
  have HSA := Lib.hid HSA
  have HSC := Lib.hid HSC
  clear HGOOD HBAD hts hcs
  have HA' := Lib.hid (HA.out _ (HB1.out.trans (HB.out.mono HB1.out.size)))
  clear HA
  have z1 : w2.cell? ⟨w.heap.size, 1, none⟩ = some (.slice oa alg.length ca) := (HR1.out.below HB.out HR1.out.lt).cell 1
  go_wp2_with fail
  refine (HA'.out).mono ?_
  rintro e w3 ⟨rfl, hb9⟩
  replace HB := Lib.hid (HB.out.trans (hb9.mono HB.out.size))
  clear hb9 HA' z1
  have o1 : ¬ 9223372036854775807 < S6.size + S5.size := by omega
  have o2 : ¬ 9223372036854775807 < TF.size + SQ.size := by omega
  have o3 : ¬ 9223372036854775807 < (TF ++ SQ).size + S3.size := by rw [ByteArray.size_append]; omega
  have o4 : ¬ 9223372036854775807 < TF.size + SQ.size + S3.size := by omega
  have o5 : ¬ 9223372036854775807 < 1 + sg.size := by omega
  go_wp2_with fail
  have HG := Lib.hid (fun W (h : Below w1.heap.size w1 W) => (show W.cell? ⟨w.heap.size, 7, none⟩ = some (.string sg) from (HR1.out.below h HR1.out.lt).cell 7))
  have H5 := Lib.hid (fun W (h : Below w1.heap.size w1 W) => (HL5.out W).mono (fun e w' ⟨he, hb⟩ => (⟨he, h.trans (hb.mono h.size)⟩ : _ ∧ Below w1.heap.size w1 w')))
  have H3 := Lib.hid (fun W (h : Below w1.heap.size w1 W) => (HL3.out W).mono (fun e w' ⟨he, hb⟩ => (⟨he, h.trans (hb.mono h.size)⟩ : _ ∧ Below w1.heap.size w1 w')))
  have HQ := Lib.hid (fun W (h : Below w1.heap.size w1 W) => (HSA.out W _ rfl).mono (fun e w' ⟨he, hb⟩ => (⟨he, h.trans (hb.mono h.size)⟩ : _ ∧ Below w1.heap.size w1 w')))
  have HC := Lib.hid (fun W (h : Below w1.heap.size w1 W) => (HSC.out W _ rfl).mono (fun e w' ⟨he, hb⟩ => (⟨he, h.trans (hb.mono h.size)⟩ : _ ∧ Below w1.heap.size w1 w')))
  have hd : Below w1.heap.size w1 w3.drew := HB.out.drew
  have y7 : w3.drew.cell? ⟨w.heap.size, 7, none⟩ = some (.string sg) := HG.out _ hd
  clear HL5 HL3 HSA HSC
  go_region_held3 (fun w' => Below w1.heap.size w1 w' ∧ w'.cell? ⟨w.heap.size, 7, none⟩ = some (.string sg)) (first | exact ⟨hd, y7⟩ | exact ⟨by assumption, by assumption⟩) (first
   |(go_at_call 29; with_reducible refine (H5.out _ (by assumption)).mono ?_; rintro e w5 ⟨rfl, hb5⟩; have y7 := HG.out _ hb5)
   |(go_at_call 29; with_reducible refine (H3.out _ (by assumption)).mono ?_; rintro e w5 ⟨rfl, hb5⟩; have y7 := HG.out _ hb5)
   |(go_at_call 28; with_reducible refine (HQ.out _ (by assumption)).mono ?_; rintro e w5 ⟨rfl, hb5⟩; have y7 := HG.out _ hb5)
   |(go_at_call 28; with_reducible refine (HC.out _ (by assumption)).mono ?_; rintro e w5 ⟨rfl, hb5⟩; have y7 := HG.out _ hb5))
  all_goals
   have HF := Lib.hid hb5
   clear HG H5 H3 HQ HC hd hb5 y7 HB
   go_wp2
   go_returns
   rw [HCS.out]
   exact ⟨rfl, HB1.out.trans (HF.out.mono HB1.out.size)⟩
 ·have hne : (TE != 0) = true := by simpa using h0
  have hcs := HBAD.out h0
  have HCS := Lib.hid hcs
  clear HBAD HGOOD h0 hcs HA
  go_wp2
  go_returns
  rw [HCS.out]
  exact ⟨rfl, HB1.out.trans (HB.out.mono HB1.out.size)⟩
end Go.Proofs.YtiiimhamfibdbaaGreat
/- Layer 19's reference: is a list more than is played? -/
namespace Go.Proofs.YtiiimhamfibdbaaGreat
open Go.RowKit Go.PlainAid
set_option linter.unusedVariables false
def greatE (x : ExtV) : Bool := decide (20 < (x.oid.length : Int)) || decide (200 < (x.val.size : Int))
def greatX (l : List ExtV) : Bool := decide (10 < (l.length : Int)) || l.any greatE
def greatA (a : AttrV) : Bool := decide (20 < (a.oid.length : Int)) || decide (100 < (a.text.size : Int))
def greatS (s : List AttrV) : Bool := decide (8 < (s.length : Int)) || s.any greatA
def greatN (x : EntryV) : Bool := decide (60 < (x.serial.size : Int)) || (decide (50 < (x.date.size : Int)) || greatX x.exts)
def greatC (c : CrlV) : Bool := (decide (20 < (c.alg.length : Int)) || (decide (8 < (c.issuer.length : Int)) || (decide (12 < (c.entries.length : Int)) || (decide (50 < (c.this.size : Int)) || (decide (50 < (c.next.size : Int)) || (decide (300 < (c.sig.size : Int)) || greatX c.exts)))))) || (c.issuer.any greatS || c.entries.any greatN)
theorem any_true {α : Type} {l : List α} {i : Nat} (h : i < l.length) {p : α → Bool} (hp : p l[i] = true) : l.any p = true := List.any_eq_true.2 ⟨_, List.getElem_mem h, hp⟩
theorem take19_any {α : Type} {l : List α} {i : Nat} (h : i < l.length) (p : α → Bool) : (l.take (i + 1)).any p = ((l.take i).any p || p l[i]) := by
 rw [List.take_succ_eq_append_getElem h, List.any_append, List.any_cons, List.any_nil, Bool.or_false]
set_option maxRecDepth 100000 in
set_option maxHeartbeats 8000000 in
theorem refGreatX_any (ox : Option Addr) (cx : Nat) (l : List ExtV) (hcx : l.length ≤ cx ∧ cx ≤ maxLen) (w : World) (hc : CameExts w ox l) :
  Calls Tryz.prog 25 #[.slice ox l.length cx] w fun e w' => e = .returned (.bool (greatX l)) ∧ w' = w := by
 have HC := Lib.hid hc
 clear hc
 by_cases h0 : 10 < (l.length : Int)
 ·have HF : Hid (greatX l = true) := Lib.hid (by unfold greatX; rw [decide_eq_true h0]; rfl)
  go_enter Tryz.func25, Tryz.ntmps25
  go_wp2
  go_returns
  rw [HF.out]
  exact ⟨rfl, rfl⟩
 ·have HG : Hid (greatX l = l.any greatE) := Lib.hid (by unfold greatX; rw [decide_eq_false h0]; rfl)
  go_enter Tryz.func25, Tryz.ntmps25
  go_wp2_with fail
  go_loopg [3] l.length (fun gk iv wr => ∃ (i : Nat), iv = .int .i64 (i : Int) ∧ i ≤ l.length ∧ l.length - i ≤ gk ∧ Hid ((l.take i).any greatE = false) ∧ Hid (wr = w))
  case atStart => exact ⟨0, rfl, by omega, by omega, Lib.hid rfl, Lib.hid rfl⟩
  case round =>
   obtain ⟨i, rfl, hi, hgk, HT, HW⟩ := hrel
   have hw := HW.out
   subst hw
   by_cases hlt : i < l.length
   ·have hlt2 : (i : Int) < (l.length : Int) := by omega
    obtain ⟨ad, oo, co, ho, hX⟩ := HC.out i hlt
    subst ho
    obtain ⟨k0, k1, k2, hoid, hcap⟩ := hX
    replace k2 : wr.cell? ⟨(ad.add (i * 3)).block, (ad.add (i * 3)).off + 2, none⟩ = some (.string l[i].val) := k2
    have HT2 := Lib.hid (take19_any hlt greatE)
    rw [HT.out, Bool.false_or] at HT2
    have HAT : Hid (greatE l[i] = true → greatX l = true) := Lib.hid (fun h => by rw [HG.out]; exact any_true hlt h)
    have HE : Hid (greatE l[i] = (decide (20 < (l[i].oid.length : Int)) || decide (200 < (l[i].val.size : Int)))) := Lib.hid rfl
    clear hoid hcap HC
    generalize greatE l[i] = E at *
    generalize l[i].oid.length = n at *
    generalize l[i].val = v at *
    by_cases hn : 20 < (n : Int)
    ·have HF := Lib.hid (HAT.out (by rw [HE.out, decide_eq_true hn]; rfl))
     clear HE HAT HT2 HG HT
     go_wp2
     go_returns
     rw [HF.out]
     exact ⟨rfl, rfl⟩
    ·by_cases hv : 200 < (v.size : Int)
     ·have HF := Lib.hid (HAT.out (by rw [HE.out, decide_eq_true hv, Bool.or_true]))
      clear HE HAT HT2 HG HT
      go_wp2
      go_returns
      rw [HF.out]
      exact ⟨rfl, rfl⟩
     ·have HF : Hid ((l.take (i + 1)).any greatE = false) := Lib.hid (by rw [HT2.out, HE.out, decide_eq_false hn, decide_eq_false hv]; rfl)
      clear HE HAT HT2 HT
      go_wp2
      go_roundg (l.length - (i + 1))
      case measure => omega
      case rel => exact ⟨i + 1, by simp, by omega, by omega, HF, Lib.hid rfl⟩
   ·have hlt2 : ¬ (i : Int) < (l.length : Int) := by omega
    have HF : Hid (greatX l = false) := Lib.hid (by rw [HG.out]; have := HT.out; rwa [List.take_of_length_le (by omega)] at this)
    clear HC HT HG
    go_wp2
    go_returns
    rw [HF.out]
    exact ⟨rfl, rfl⟩
set_option maxRecDepth 100000 in
set_option maxHeartbeats 16000000 in
theorem refGreat19_any (c : CrlV) (r : CrlR) (hcap : CrlCap c r) (w : World) (hc : CameCrl w c r) :
  Calls Tryz.prog 13 #[crlV c r] w fun e w' => e = .returned (.bool (greatC c)) ∧ Below w.heap.size w w' := by
 have HX := Lib.hid (fun W (hb : Below w.heap.size w W) => refGreatX_any r.ox r.cx c.exts hcap.x W (hc.exts.below hb))
 have HCI := Lib.hid hc.sets
 have HCE := Lib.hid hc.entries
 have HGC : Hid (greatC c = ((decide (20 < (c.alg.length : Int)) || (decide (8 < (c.issuer.length : Int)) || (decide (12 < (c.entries.length : Int)) || (decide (50 < (c.this.size : Int)) || (decide (50 < (c.next.size : Int)) || (decide (300 < (c.sig.size : Int)) || greatX c.exts)))))) || (c.issuer.any greatS || c.entries.any greatN))) := Lib.hid rfl
 have hce := hcap.e
 have hci := hcap.i
 unfold crlV
 obtain ⟨oa, ca, oi, ci, oe, ce, ox, cx⟩ := r
 dsimp only at *
 clear hcap hc
 generalize greatC c = GC at *
 generalize c.v2 = v2 at *
 generalize c.alg = alg at *
 generalize c.issuer = issuer at *
 generalize c.this = this at *
 generalize c.next = next at *
 generalize c.entries = entries at *
 generalize c.exts = exts at *
 generalize c.sig = sg at *
 have HB0 : Hid (20 < (alg.length : Int) → GC = true) := Lib.hid (fun h => by rw [HGC.out, decide_eq_true h]; rfl)
 have HB1 : Hid (8 < (issuer.length : Int) → GC = true) := Lib.hid (fun h => by rw [HGC.out, decide_eq_true h]; simp)
 have HB2 : Hid (12 < (entries.length : Int) → GC = true) := Lib.hid (fun h => by rw [HGC.out, decide_eq_true h]; simp)
 have HB3 : Hid (50 < (this.size : Int) → GC = true) := Lib.hid (fun h => by rw [HGC.out, decide_eq_true h]; simp)
 have HB4 : Hid (50 < (next.size : Int) → GC = true) := Lib.hid (fun h => by rw [HGC.out, decide_eq_true h]; simp)
 have HB5 : Hid (300 < (sg.size : Int) → GC = true) := Lib.hid (fun h => by rw [HGC.out, decide_eq_true h]; simp)
 have HB6 : Hid (greatX exts = true → GC = true) := Lib.hid (fun h => by rw [HGC.out, h]; simp)
 have HI : Hid (issuer.any greatS = true → GC = true) := Lib.hid (fun h => by rw [HGC.out, h]; simp)
 have HN : Hid (entries.any greatN = true → GC = true) := Lib.hid (fun h => by rw [HGC.out, h]; simp)
 have HG : Hid (¬ 20 < (alg.length : Int) → ¬ 8 < (issuer.length : Int) → ¬ 12 < (entries.length : Int) → ¬ 50 < (this.size : Int) → ¬ 50 < (next.size : Int) → ¬ 300 < (sg.size : Int) → greatX exts = false → issuer.any greatS = false → entries.any greatN = false → GC = false) := Lib.hid (fun h0 h1 h2 h3 h4 h5 h6 h7 h8 => by rw [HGC.out, decide_eq_false h0, decide_eq_false h1, decide_eq_false h2, decide_eq_false h3, decide_eq_false h4, decide_eq_false h5, h6, h7, h8]; rfl)
 clear HGC
 have HR1 : Hid (Row (w.alloc (.cells #[.bool v2, .slice oa alg.length ca, .slice oi issuer.length ci, .string this, .string next, .slice oe entries.length ce, .slice ox exts.length cx, .string sg] 48)) w.heap.size 48 [.bool v2, .slice oa alg.length ca, .slice oi issuer.length ci, .string this, .string next, .slice oe entries.length ce, .slice ox exts.length cx, .string sg]) := Lib.hid (Row.new w _ [.bool v2, .slice oa alg.length ca, .slice oi issuer.length ci, .string this, .string next, .slice oe entries.length ce, .slice ox exts.length cx, .string sg])
 have HBW : Hid (Below w.heap.size w (w.alloc (.cells #[.bool v2, .slice oa alg.length ca, .slice oi issuer.length ci, .string this, .string next, .slice oe entries.length ce, .slice ox exts.length cx, .string sg] 48))) := Lib.hid ((Below.refl _ _).alloc (Nat.le_refl _) _)
 go_enter Tryz.func13, Tryz.ntmps13
 go_upto_region 1 with (fail)
 generalize w.alloc (.cells #[.bool v2, .slice oa alg.length ca, .slice oi issuer.length ci, .string this, .string next, .slice oe entries.length ce, .slice ox exts.length cx, .string sg] 48) = w1 at *
 have HX' := Lib.hid (HX.out w1 HBW.out)
 replace HX := HX'
 clear HX'
 have z1 : w1.cell? ⟨w.heap.size, 1, none⟩ = some (.slice oa alg.length ca) := HR1.out.cell 1
 have z2 : w1.cell? ⟨w.heap.size, 2, none⟩ = some (.slice oi issuer.length ci) := HR1.out.cell 2
 have z3 : w1.cell? ⟨w.heap.size, 3, none⟩ = some (.string this) := HR1.out.cell 3
 have z4 : w1.cell? ⟨w.heap.size, 4, none⟩ = some (.string next) := HR1.out.cell 4
 have z5 : w1.cell? ⟨w.heap.size, 5, none⟩ = some (.slice oe entries.length ce) := HR1.out.cell 5
 have z6 : w1.cell? ⟨w.heap.size, 6, none⟩ = some (.slice ox exts.length cx) := HR1.out.cell 6
 have z7 : w1.cell? ⟨w.heap.size, 7, none⟩ = some (.string sg) := HR1.out.cell 7
 by_cases t0 : 20 < (alg.length : Int)
 ·have HF := Lib.hid (HB0.out t0)
  clear HB0 HB1 HB2 HB3 HB4 HB5 HB6 HI HN HG HX HCI HCE
  go_wp2
  go_returns
  rw [HF.out]
  exact ⟨rfl, HBW.out⟩
 ·by_cases t1 : 8 < (issuer.length : Int)
  ·have HF := Lib.hid (HB1.out t1)
   clear HB0 HB1 HB2 HB3 HB4 HB5 HB6 HI HN HG HX HCI HCE
   go_wp2
   go_returns
   rw [HF.out]
   exact ⟨rfl, HBW.out⟩
  ·by_cases t2 : 12 < (entries.length : Int)
   ·have HF := Lib.hid (HB2.out t2)
    clear HB0 HB1 HB2 HB3 HB4 HB5 HB6 HI HN HG HX HCI HCE
    go_wp2
    go_returns
    rw [HF.out]
    exact ⟨rfl, HBW.out⟩
   ·by_cases t3 : 50 < (this.size : Int)
    ·have HF := Lib.hid (HB3.out t3)
     clear HB0 HB1 HB2 HB3 HB4 HB5 HB6 HI HN HG HX HCI HCE
     go_wp2
     go_returns
     rw [HF.out]
     exact ⟨rfl, HBW.out⟩
    ·by_cases t4 : 50 < (next.size : Int)
     ·have HF := Lib.hid (HB4.out t4)
      clear HB0 HB1 HB2 HB3 HB4 HB5 HB6 HI HN HG HX HCI HCE
      go_wp2
      go_returns
      rw [HF.out]
      exact ⟨rfl, HBW.out⟩
     ·by_cases t5 : 300 < (sg.size : Int)
      ·have HF := Lib.hid (HB5.out t5)
       clear HB0 HB1 HB2 HB3 HB4 HB5 HB6 HI HN HG HX HCI HCE
       go_wp2
       go_returns
       rw [HF.out]
       exact ⟨rfl, HBW.out⟩
      ·cases t6 : greatX exts with
       |true =>
        rw [t6] at HX
        go_wp2_with fail
        refine HX.out.mono ?_
        rintro e w2 ⟨rfl, rfl⟩
        have HF := Lib.hid (HB6.out t6)
        clear HB0 HB1 HB2 HB3 HB4 HB5 HB6 HI HN HG HX HCI HCE
        go_wp2
        go_returns
        rw [HF.out]
        exact ⟨rfl, HBW.out⟩
       |false =>
        rw [t6] at HX
        go_wp2_with fail
        refine HX.out.mono ?_
        rintro e w2 ⟨rfl, rfl⟩
        clear HX HB0 HB1 HB2 HB3 HB4 HB5 HB6
        have HG2 := Lib.hid (HG.out t0 t1 t2 t3 t4 t5 t6)
        clear HG t0 t3 t4 t5 t6 z1 z3 z4 z6 z7
        go_wp2_with fail
        go_loopg [3] issuer.length (fun gk iv wr => ∃ (i : Nat), iv = .int .i64 (i : Int) ∧ i ≤ issuer.length ∧ issuer.length - i ≤ gk ∧ Hid ((issuer.take i).any greatS = false) ∧ Hid (wr = w2))
        case atStart => exact ⟨0, rfl, by omega, by omega, Lib.hid rfl, Lib.hid rfl⟩
        case round =>
         obtain ⟨i, rfl, hi, hgk, HT, HW⟩ := hrel
         have hw := HW.out
         subst hw
         by_cases hlt : i < issuer.length
         ·have hlt2 : (i : Int) < (issuer.length : Int) := by omega
          obtain ⟨ad, oo, co, ho, hX⟩ := HCI.out.below HBW.out i hlt
          subst ho
          obtain ⟨k0, hset, hcap⟩ := hX
          have HT2 := Lib.hid (take19_any hlt greatS)
          rw [HT.out, Bool.false_or] at HT2
          have HAT : Hid (greatS issuer[i] = true → GC = true) := Lib.hid (fun h => HI.out (any_true hlt h))
          have HE : Hid (greatS issuer[i] = (decide (8 < (issuer[i].length : Int)) || issuer[i].any greatA)) := Lib.hid rfl
          have HSET := Lib.hid hset
          clear hset HT HCI HCE HI HN HG2 HR1
          generalize greatS issuer[i] = E at *
          generalize issuer[i] = L at *
          by_cases hL : 8 < (L.length : Int)
          ·have HF := Lib.hid (HAT.out (by rw [HE.out, decide_eq_true hL]; rfl))
           clear HE HAT HT2 HSET
           go_wp2
           go_returns
           rw [HF.out]
           exact ⟨rfl, HBW.out⟩
          ·rw [decide_eq_false hL, Bool.false_or] at HE
           go_wp2_with fail
           go_loopg [4] L.length (fun gk2 kv wr2 => ∃ (k : Nat), kv = .int .i64 (k : Int) ∧ k ≤ L.length ∧ L.length - k ≤ gk2 ∧ Hid ((L.take k).any greatA = false) ∧ Hid (wr2 = wr))
           case atStart => exact ⟨0, rfl, by omega, by omega, Lib.hid rfl, Lib.hid rfl⟩
           case round =>
            obtain ⟨k, rfl, hk, hgk2, HU, HW2⟩ := hrel
            have hw := HW2.out
            subst hw
            by_cases hkl : k < L.length
            ·have hkl2 : (k : Int) < (L.length : Int) := by omega
             obtain ⟨ad2, o2, c2, ho2, hA⟩ := HSET.out k hkl
             subst ho2
             obtain ⟨a0, a1, a2, aoid, acap⟩ := hA
             replace a2 : wr.cell? ⟨(ad2.add (k * 3)).block, (ad2.add (k * 3)).off + 2, none⟩ = some (.string L[k].text) := a2
             have HU2 := Lib.hid (take19_any hkl greatA)
             rw [HU.out, Bool.false_or] at HU2
             have HAU : Hid (greatA L[k] = true → GC = true) := Lib.hid (fun h => HAT.out (by rw [HE.out]; exact any_true hkl h))
             have HEA : Hid (greatA L[k] = (decide (20 < (L[k].oid.length : Int)) || decide (100 < (L[k].text.size : Int)))) := Lib.hid rfl
             clear aoid acap a1 HSET HAT HE HT2 HU
             generalize greatA L[k] = EA at *
             generalize L[k].oid.length = n at *
             generalize L[k].text = v at *
             by_cases hn : 20 < (n : Int)
             ·have HF := Lib.hid (HAU.out (by rw [HEA.out, decide_eq_true hn]; rfl))
              clear HEA HAU HU2
              go_wp2
              go_returns
              rw [HF.out]
              exact ⟨rfl, HBW.out⟩
             ·by_cases hv : 100 < (v.size : Int)
              ·have HF := Lib.hid (HAU.out (by rw [HEA.out, decide_eq_true hv, Bool.or_true]))
               clear HEA HAU HU2
               go_wp2
               go_returns
               rw [HF.out]
               exact ⟨rfl, HBW.out⟩
              ·have HF : Hid ((L.take (k + 1)).any greatA = false) := Lib.hid (by rw [HU2.out, HEA.out, decide_eq_false hn, decide_eq_false hv]; rfl)
               clear HEA HAU HU2
               go_wp2
               go_roundg (L.length - (k + 1))
               case measure => omega
               case rel => exact ⟨k + 1, by simp, by omega, by omega, HF, Lib.hid rfl⟩
            ·have hkl2 : ¬ (k : Int) < (L.length : Int) := by omega
             have HF : Hid ((issuer.take (i + 1)).any greatS = false) := Lib.hid (by rw [HT2.out, HE.out]; have := HU.out; rwa [List.take_of_length_le (by omega)] at this)
             clear HSET HAT HE HT2 HU
             go_wp2
             go_roundg (issuer.length - (i + 1))
             case measure => omega
             case rel => exact ⟨i + 1, by simp, by omega, by omega, HF, Lib.hid rfl⟩
         ·have hlt2 : ¬ (i : Int) < (issuer.length : Int) := by omega
          have HS0 : Hid (issuer.any greatS = false) := Lib.hid (by have := HT.out; rwa [List.take_of_length_le (by omega)] at this)
          clear HT HCI HI HR1
          go_wp2_with fail
          clear z2
          go_loopg [5] entries.length (fun gk2 kv wr2 => ∃ (k : Nat), kv = .int .i64 (k : Int) ∧ k ≤ entries.length ∧ entries.length - k ≤ gk2 ∧ Hid ((entries.take k).any greatN = false) ∧ Hid (wr2 = wr))
          case atStart => exact ⟨0, rfl, by omega, by omega, Lib.hid rfl, Lib.hid rfl⟩
          case round =>
           obtain ⟨k, rfl, hk, hgk2, HU, HW2⟩ := hrel
           have hw := HW2.out
           subst hw
           by_cases hkl : k < entries.length
           ·have hkl2 : (k : Int) < (entries.length : Int) := by omega
            obtain ⟨ad2, o2, c2, ho2, hA⟩ := HCE.out.below HBW.out k hkl
            subst ho2
            obtain ⟨a0, a1, a2, aex, acap⟩ := hA
            replace a1 : wr.cell? ⟨(ad2.add (k * 3)).block, (ad2.add (k * 3)).off + 1, none⟩ = some (.string entries[k].date) := a1
            replace a2 : wr.cell? ⟨(ad2.add (k * 3)).block, (ad2.add (k * 3)).off + 2, none⟩ = some (.slice o2 entries[k].exts.length c2) := a2
            have HU2 := Lib.hid (take19_any hkl greatN)
            rw [HU.out, Bool.false_or] at HU2
            have HAU : Hid (greatN entries[k] = true → GC = true) := Lib.hid (fun h => HN.out (any_true hkl h))
            have HEA : Hid (greatN entries[k] = (decide (60 < (entries[k].serial.size : Int)) || (decide (50 < (entries[k].date.size : Int)) || greatX entries[k].exts))) := Lib.hid rfl
            have HXX := Lib.hid (refGreatX_any o2 c2 entries[k].exts acap wr aex)
            clear aex acap HCE HN HU HG2 HS0
            generalize greatN entries[k] = EA at *
            generalize entries[k].serial = ser at *
            generalize entries[k].date = dat at *
            generalize greatX entries[k].exts = gx at *
            generalize entries[k].exts.length = n at *
            by_cases hn : 60 < (ser.size : Int)
            ·have HF := Lib.hid (HAU.out (by rw [HEA.out, decide_eq_true hn]; rfl))
             clear HEA HAU HU2 HXX
             go_wp2
             go_returns
             rw [HF.out]
             exact ⟨rfl, HBW.out⟩
            ·by_cases hv : 50 < (dat.size : Int)
             ·have HF := Lib.hid (HAU.out (by rw [HEA.out, decide_eq_true hv]; simp))
              clear HEA HAU HU2 HXX
              go_wp2
              go_returns
              rw [HF.out]
              exact ⟨rfl, HBW.out⟩
             ·cases gx with
              |true =>
               have HF := Lib.hid (HAU.out (by rw [HEA.out]; simp))
               clear HEA HAU HU2
               go_wp2_with fail
               refine HXX.out.mono ?_
               rintro e w3 ⟨rfl, rfl⟩
               clear HXX
               go_wp2
               go_returns
               rw [HF.out]
               exact ⟨rfl, HBW.out⟩
              |false =>
               have HF : Hid ((entries.take (k + 1)).any greatN = false) := Lib.hid (by rw [HU2.out, HEA.out, decide_eq_false hn, decide_eq_false hv]; rfl)
               clear HEA HAU HU2
               go_wp2_with fail
               refine HXX.out.mono ?_
               rintro e w3 ⟨rfl, rfl⟩
               clear HXX
               go_wp2
               go_roundg (entries.length - (k + 1))
               case measure => omega
               case rel => exact ⟨k + 1, by simp, by omega, by omega, HF, Lib.hid rfl⟩
           ·have hkl2 : ¬ (k : Int) < (entries.length : Int) := by omega
            have HF := Lib.hid (HG2.out HS0.out (by have := HU.out; rwa [List.take_of_length_le (by omega)] at this))
            clear HCE HN HU HG2 HS0
            go_wp2
            go_returns
            rw [HF.out]
            exact ⟨rfl, HBW.out⟩
theorem greatX_small {l : List ExtV} (hf : ∀ x ∈ l, x.Fits) (h : greatX l = false) : l.length ≤ 10 ∧ ∀ x ∈ l, x.Small := by
 unfold greatX at h
 rw [Bool.or_eq_false_iff, decide_eq_false_iff_not, List.any_eq_false] at h
 refine ⟨by omega, fun x hx => ?_⟩
 have hx2 : greatE x = false := by simpa using h.2 x hx
 unfold greatE at hx2
 rw [Bool.or_eq_false_iff, decide_eq_false_iff_not, decide_eq_false_iff_not] at hx2
 exact ⟨by omega, (hf x hx).oin, by omega⟩
theorem small_of {c : CrlV} (hf : c.Fits) (h : greatC c = false) : c.Small := by
 unfold greatC at h
 simp only [Bool.or_eq_false_iff, decide_eq_false_iff_not, List.any_eq_false] at h
 obtain ⟨⟨h0, h1, h2, h3, h4, h5, h6⟩, h7, h8⟩ := h
 have hx := greatX_small hf.exts h6
 refine ⟨by omega, hf.ain, by omega, fun s hs => ?_, by omega, by omega, by omega, fun x hx => ?_, hx.1, hx.2, by omega⟩
 ·have h9 : greatS s = false := by simpa using h7 s hs
  unfold greatS at h9
  rw [Bool.or_eq_false_iff, decide_eq_false_iff_not, List.any_eq_false] at h9
  refine ⟨by omega, fun a ha => ?_⟩
  have h10 : greatA a = false := by simpa using h9.2 a ha
  unfold greatA at h10
  rw [Bool.or_eq_false_iff, decide_eq_false_iff_not, decide_eq_false_iff_not] at h10
  exact ⟨by omega, (hf.attrs s hs a ha).oin, by omega⟩
 ·have h9 : greatN x = false := by simpa using h8 x hx
  unfold greatN at h9
  rw [Bool.or_eq_false_iff, Bool.or_eq_false_iff, decide_eq_false_iff_not, decide_eq_false_iff_not] at h9
  have h10 := greatX_small (hf.entries x hx).exts h9.2.2
  exact ⟨by omega, by omega, h10.1, h10.2⟩
end Go.Proofs.YtiiimhamfibdbaaGreat
