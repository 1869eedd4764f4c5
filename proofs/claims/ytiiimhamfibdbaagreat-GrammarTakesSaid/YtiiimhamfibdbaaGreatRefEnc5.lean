/- Layer 19's reference: what is signed. -/
import Derived.Test.YtiiimhamfibdbaaGreatRefEnc4
namespace Go.Proofs.YtiiimhamfibdbaaGreat
open Go.RowKit Go.PlainAid
set_option linter.unusedVariables false
def p0 (v2 : Bool) : ByteArray := encS (if v2 = true then lf 2 [1] else .nil)
def p4 (next : ByteArray) : ByteArray := encS (if next.size = 0 then .nil else dateF next)
def p5 (l : List EntryV) : ByteArray := encS (if l.isEmpty = true then .nil else sq (joinF (l.map entryF)))
def p6 (l : List ExtV) : ByteArray := encS (if l.isEmpty = true then .nil else .node 2 0 (extsF l) .nil)
theorem tbsK_enc (c : CrlV) : encS (tbsK c) = p0 c.v2 ++ ((encS (algF c.alg) ++ encS (nameF c.issuer)) ++ encS (dateF c.this)) ++ p4 c.next ++ p5 c.entries ++ p6 c.exts := by
 unfold tbsK p0 p4 p5 p6
 simp only [encS_app, ByteArray.append_assoc]
theorem tbs_bad {c : CrlV} (h : c.valOk = false) : tbsE c = 7 ∧ tbsS c = ⟨#[]⟩ := by
 have h1 : tbsE c = 7 := by unfold tbsE; rw [if_pos h]
 exact ⟨h1, by unfold tbsS; rw [h1, if_neg (by decide)]⟩
theorem tbs_has {c : CrlV} (h : c.valOk = true) (h1 : c.has = true) (h2 : c.v2 = false) : tbsE c = 8 ∧ tbsS c = ⟨#[]⟩ := by
 have h1 : tbsE c = 8 := by unfold tbsE; rw [if_neg (by rw [h]; decide), if_pos ⟨h1, h2⟩]
 exact ⟨h1, by unfold tbsS; rw [h1, if_neg (by decide)]⟩
theorem tbs_good {c : CrlV} (h : c.valOk = true) (h1 : ¬ (c.has = true ∧ c.v2 = false)) : tbsE c = 0 ∧ tbsS c = encS (tbsF c) := by
 have h1 : tbsE c = 0 := by unfold tbsE; rw [if_neg (by rw [h]; decide), if_neg h1]
 exact ⟨h1, by unfold tbsS; rw [h1, if_pos rfl]⟩
theorem p0_len (b : Bool) : (p0 b).size ≤ 15 := by
 unfold p0
 rw [encS_size]
 split
 ·exact (lf_len (t := 2) (C := [1]) (by decide) (by decide) (by decide)).2
 ·exact Nat.zero_le _
theorem p4_len {s : ByteArray} (h : s.size = 0 ∨ wOk s = true) : (p4 s).size ≤ 29 := by
 unfold p4
 rw [encS_size]
 split
 ·exact Nat.zero_le _
 ·rename_i he; rcases h with h | h; exact absurd h he; exact dateF_len h
theorem p6_len {l : List ExtV} (hl : l.length ≤ 10) (hs : ∀ x ∈ l, x.Small) (h : (l.isEmpty || extsOk l) = true) : (p6 l).size ≤ 4598 := by
 unfold p6
 rw [encS_size]
 split
 ·exact Nat.zero_le _
 ·rename_i he
  have := extsF_len hl hs (some_exts h he)
  have := fnode_len (c := 2) (t := 0) (k := extsF l) (r := .nil) (by decide) (by omega)
  rw [nil_len] at this
  omega
theorem some_len (l : List ExtV) : (!l.isEmpty) = decide (0 < (l.length : Int)) := by
 cases l with
 |nil => rfl
 |cons a l => rw [decide_eq_true (by rw [List.length_cons]; omega)]; rfl
theorem refTag_is (k : Fo) {s : ByteArray} (h : encS k = s) (hs : k.enc.length ≤ 100000) (w : World) :
  Calls Tryz.prog 47 #[.agg #[.int .i64 2, .int .i64 0, .bool true, .int .i64 0], .string s] w fun e w' => e = .returned (.string (encS (.node 2 0 k .nil))) ∧ Below w.heap.size w w' := by
 subst h
 have hz := encS_size k
 have hF : hpS 2 0 true ((encS k).size : Int) ++ encS k = encS (.node 2 0 k .nil) := by rw [encS_node, hpS_of (by decide) (by omega)]
 rw [← hF]
 exact refElement_any 2 0 true 0 (encS k) (by omega) w
set_option maxRecDepth 100000 in
set_option maxHeartbeats 16000000 in
theorem refTbs_any (c : CrlV) (r : CrlR) (hs : c.Small) (hcap : CrlCap c r) (w : World) (hc : CameCrl w c r) :
  Calls Tryz.prog 26 #[crlV c r] w fun e w' => e = .returned (.tuple #[.string (tbsS c), .int .i64 (tbsE c)]) ∧ Below w.heap.size w w' := by
 have hE : c.valOk = (arcsOk c.alg && nameOk c.issuer && wOk c.this && (decide (c.next.size = 0) || wOk c.next) && c.entries.all entryOk && (c.exts.isEmpty || extsOk c.exts)) := rfl
 have HBAD : Hid (arcsOk c.alg = false ∨ nameOk c.issuer = false ∨ wOk c.this = false ∨ (decide (c.next.size = 0) || wOk c.next) = false ∨ c.entries.all entryOk = false ∨ (c.exts.isEmpty || extsOk c.exts) = false → tbsE c = 7 ∧ tbsS c = ⟨#[]⟩) := Lib.hid (fun h => tbs_bad (by
  rw [hE]
  rcases h with h | h | h | h | h | h <;> rw [h] <;> simp))
 have HYES : Hid (arcsOk c.alg = true → nameOk c.issuer = true → wOk c.this = true → (decide (c.next.size = 0) || wOk c.next) = true → c.entries.all entryOk = true → (c.exts.isEmpty || extsOk c.exts) = true → (((!c.exts.isEmpty || c.entries.any (fun x => !x.exts.isEmpty)) = true ∧ c.v2 = false → tbsE c = 8 ∧ tbsS c = ⟨#[]⟩) ∧ (¬ ((!c.exts.isEmpty || c.entries.any (fun x => !x.exts.isEmpty)) = true ∧ c.v2 = false) → tbsE c = 0 ∧ tbsS c = encS (tbsF c)) ∧
   (∀ s, p0 c.v2 ++ ((encS (algF c.alg) ++ encS (nameF c.issuer)) ++ encS (dateF c.this)) ++ p4 c.next ++ p5 c.entries ++ p6 c.exts = s → ∀ W, Calls Tryz.prog 28 #[.string s] W fun e w' => e = .returned (.string (encS (tbsF c))) ∧ Below W.heap.size W w'))) := Lib.hid (fun h1 h2 h3 h4 h5 h6 => by
  have hv : c.valOk = true := by rw [hE, h1, h2, h3, h4, h5, h6]; rfl
  refine ⟨fun h => tbs_has hv h.1 h.2, fun h => tbs_good hv h, fun s h W => ?_⟩
  rw [← tbsK_enc] at h
  exact refSeq_is (tbsK c) h (by have := tbsK_len hs hv; omega) W)
 clear hE
 have HC0 := Lib.hid hc
 have HSM := Lib.hid hs
 have HN := Lib.hid (fun W (hb : Below w.heap.size w W) => refName_any r.oi r.ci c.issuer hs.sets hs.attrs hcap.i W (hc.sets.below hb))
 have HA := Lib.hid (fun W (hb : Below w.heap.size w W) => refId_any r.oa r.ca c.alg hs.alg hs.ain W (hc.alg.below hb))
 have HT := Lib.hid (refDate19_any c.this (by have := hs.this; omega))
 have HX := Lib.hid (refDate19_any c.next (by have := hs.next; omega))
 have HE := Lib.hid (fun W (hb : Below w.heap.size w W) => refExts_any r.ox r.cx c.exts hs.few hs.exts hcap.x W (hc.exts.below hb))
 have HCE := Lib.hid hc.entries
 have HSE := Lib.hid hs.entries
 have HNL : Hid (nameOk c.issuer = true → nameS c.issuer = encS (nameF c.issuer) ∧ (encS (nameF c.issuer)).size ≤ 22014) := Lib.hid (fun h => ⟨by unfold nameS; rw [if_pos h], by rw [encS_size]; exact nameF_len hs.sets hs.attrs h⟩)
 have HAL : Hid (arcsOk c.alg = true → (encS (algF c.alg)).size ≤ 242 ∧ (encS (lf 6 (bl (opS c.alg)))).size ≤ 214 ∧ ∀ W s, encS (lf 6 (bl (opS c.alg))) ++ encS (lf 5 []) = s → Calls Tryz.prog 28 #[.string s] W fun e w' => e = .returned (.string (encS (algF c.alg))) ∧ Below W.heap.size W w') := Lib.hid (fun h => by
  have h1 := algF_len h hs.alg hs.ain
  have h2 := oL_le h hs.alg hs.ain
  have h3 := (lf_len (t := 6) (C := oL c.alg) (by decide) (by decide) (by omega)).2
  refine ⟨by rw [encS_size]; exact h1, by rw [opS_bl h, encS_size]; omega, fun W s e => ?_⟩
  rw [opS_bl h, ← encS_leaf] at e
  refine refSeq_is _ e ?_ W
  rw [← encS_size, encS_leaf, ByteArray.size_append, encS_size, encS_size]
  have := (lf_len (t := 5) (C := []) (by decide) (by decide) (by decide)).2
  simp only [List.length_nil] at this
  omega)
 have HTL : Hid (wOk c.this = true → (encS (dateF c.this)).size ≤ 29) := Lib.hid (fun h => by rw [encS_size]; exact dateF_len h)
 have HXL : Hid ((decide (c.next.size = 0) || wOk c.next) = true → (p4 c.next).size ≤ 29) := Lib.hid (fun h => p4_len (by simpa using h))
 have HX4 : Hid (c.next.size ≠ 0 → encS (dateF c.next) = p4 c.next) := Lib.hid (fun h => by unfold p4; rw [if_neg h])
 have HX0 : Hid (c.next.size = 0 → p4 c.next = ⟨#[]⟩) := Lib.hid (fun h => by unfold p4; rw [if_pos h]; rfl)
 have HEL : Hid ((c.exts.isEmpty || extsOk c.exts) = true → (p6 c.exts).size ≤ 4598) := Lib.hid (fun h => p6_len hs.few hs.exts h)
 have HE6 : Hid (c.exts.isEmpty = false → extsOk c.exts = true → ∀ W, Calls Tryz.prog 47 #[.agg #[.int .i64 2, .int .i64 0, .bool true, .int .i64 0], .string (extsS c.exts)] W fun e w' => e = .returned (.string (p6 c.exts)) ∧ Below W.heap.size W w') := Lib.hid (fun h h2 W => by
  have h3 : p6 c.exts = encS (.node 2 0 (extsF c.exts) .nil) := by unfold p6; rw [h, if_neg (by decide)]
  have h4 : extsS c.exts = encS (extsF c.exts) := by unfold extsS; rw [if_pos h2]
  rw [h3, h4]
  exact refTag_is _ rfl (by have := extsF_len hs.few hs.exts h2; omega) W)
 have HE0 : Hid (c.exts.isEmpty = true → p6 c.exts = ⟨#[]⟩) := Lib.hid (fun h => by unfold p6; rw [if_pos h]; rfl)
 have HNE : Hid (c.next.toList.isEmpty = decide (c.next.size = 0)) := Lib.hid (by
  by_cases h : c.next.size = 0
  ·rw [decide_eq_true h, show c.next = ⟨#[]⟩ from ByteArray.ext (Array.eq_empty_of_size_eq_zero h)]; decide +kernel
  ·rw [decide_eq_false h]
   have := text_list h
   cases hq : c.next.toList with
   |nil => exact absurd hq this
   |cons _ _ => rfl)
 have HEM : Hid (c.exts.isEmpty = decide (c.exts.length = 0)) := Lib.hid (by cases c.exts <;> simp)
 have HP0 : Hid (p0 true = encS (lf 2 [1])) := Lib.hid (by unfold p0; rw [if_pos rfl])
 have HP1 : Hid (p0 false = ⟨#[]⟩) := Lib.hid (by unfold p0; rw [if_neg (by decide)]; rfl)
 have s0 := p0_len c.v2
 have HL2 := Lib.hid (refLeaf19_any 2 ⟨#[1]⟩ (by decide) (by decide +kernel))
 have e1 : bl ⟨#[1]⟩ = [1] := rfl
 rw [e1, ← HP0.out] at HL2
 have HL5 := Lib.hid (refLeaf19_any 5 ⟨#[]⟩ (by decide) (by decide +kernel))
 have e5 : bl ⟨#[]⟩ = [] := rfl
 rw [e5] at HL5
 have s5 : (encS (lf 5 [])).size ≤ 14 := by rw [encS_size]; exact (lf_len (t := 5) (C := []) (by decide) (by decide) (by decide)).2
 clear e1 e5 HP0
 have hei : (c.entries.length : Int) ≤ 12 := by have := hs.many; omega
 have hen := hs.many
 have hxi : (c.exts.length : Int) ≤ 10 := by have := hs.few; omega
 have hni : (c.next.size : Int) ≤ 50 := by have := hs.next; omega
 unfold crlV
 obtain ⟨oa, ca, oi, ci, oe, ce, ox, cx⟩ := r
 dsimp only at *
 generalize encS (tbsF c) = TF at *
 generalize tbsE c = TE at *
 generalize tbsS c = TS at *
 have hcc := hcap.e
 clear hs hc hcap HSM HC0
 dsimp only at hcc
 generalize c.v2 = v2 at *
 generalize c.alg = alg at *
 generalize c.issuer = issuer at *
 generalize c.this = this at *
 generalize c.next = next at *
 generalize c.entries = entries at *
 generalize c.exts = exts at *
 generalize c.sig = sg at *
 generalize encS (algF alg) = SQ at *
 generalize encS (nameF issuer) = SN at *
 generalize encS (lf 5 []) = S5 at *
 generalize encS (lf 6 (bl (opS alg))) = S6 at *
 have HR1 : Hid (Row (w.alloc (.cells #[.bool v2, .slice oa alg.length ca, .slice oi issuer.length ci, .string this, .string next, .slice oe entries.length ce, .slice ox exts.length cx, .string sg] 48)) w.heap.size 48 [.bool v2, .slice oa alg.length ca, .slice oi issuer.length ci, .string this, .string next, .slice oe entries.length ce, .slice ox exts.length cx, .string sg]) := Lib.hid (Row.new w _ [.bool v2, .slice oa alg.length ca, .slice oi issuer.length ci, .string this, .string next, .slice oe entries.length ce, .slice ox exts.length cx, .string sg])
 have HB1 : Hid (Below w.heap.size w (w.alloc (.cells #[.bool v2, .slice oa alg.length ca, .slice oi issuer.length ci, .string this, .string next, .slice oe entries.length ce, .slice ox exts.length cx, .string sg] 48))) := Lib.hid ((Below.refl _ _).alloc (Nat.le_refl _) _)
 go_enter Tryz.func26, Tryz.ntmps26
 go_upto_region 2 with (fail)
 generalize w.alloc (.cells #[.bool v2, .slice oa alg.length ca, .slice oi issuer.length ci, .string this, .string next, .slice oe entries.length ce, .slice ox exts.length cx, .string sg] 48) = w1 at *
 have z0 : w1.cell? ⟨w.heap.size, 0, none⟩ = some (.bool v2) := HR1.out.cell 0
 go_upto_if 19 with (fail)
 go_cut [4] from 5 (fun ov wr => ov = .string (p0 v2) ∧ Hid (Below w1.heap.size w1 wr))
 case first =>
  cases v2 with
  |true =>
   go_wp2_with fail
   refine (HL2.out _).mono ?_
   rintro e w2 ⟨rfl, hb2⟩
   go_wp2
   go_meet
   exact ⟨rfl, Lib.hid hb2⟩
  |false =>
   go_wp2
   go_meet
   exact ⟨by rw [HP1.out], Lib.hid (Below.refl _ _)⟩
 case rest =>
  obtain ⟨rfl, HB⟩ := hcut
  clear z0 HL2 HP1
  generalize p0 v2 = P0 at *
  have z1 : wc.cell? ⟨w.heap.size, 1, none⟩ = some (.slice oa alg.length ca) := (HR1.out.below HB.out HR1.out.lt).cell 1
  cases hal : arcsOk alg with
  |false =>
   have HA' := Lib.hid (HA.out _ (HB1.out.trans (HB.out.mono HB1.out.size)))
   rw [hal] at HA'
   go_wp2_with fail
   refine (HA'.out).mono ?_
   rintro e w2 ⟨rfl, hb9⟩
   replace HB := Lib.hid (HB.out.trans (hb9.mono HB.out.size))
   clear hb9 HA HA'
   have HF := Lib.hid (HBAD.out (.inl hal))
   go_wp2
   go_returns
   rw [HF.out.1, HF.out.2]
   exact ⟨rfl, HB1.out.trans (HB.out.mono HB1.out.size)⟩
  |true =>
   obtain ⟨sSQ, s6, HAS⟩ := HAL.out hal
   replace HAS := Lib.hid HAS
   have HA' := Lib.hid (HA.out _ (HB1.out.trans (HB.out.mono HB1.out.size)))
   rw [hal] at HA'
   go_wp2_with fail
   refine (HA'.out).mono ?_
   rintro e w2 ⟨rfl, hb9⟩
   replace HB := Lib.hid (HB.out.trans (hb9.mono HB.out.size))
   clear hb9 HA HA' z1 HAL
   have z2 : w2.cell? ⟨w.heap.size, 2, none⟩ = some (.slice oi issuer.length ci) := (HR1.out.below HB.out HR1.out.lt).cell 2
   have HN' := Lib.hid (HN.out _ (HB1.out.trans (HB.out.mono HB1.out.size)))
   clear HN
   go_wp2_with fail
   refine (HN'.out).mono ?_
   rintro e w3 ⟨rfl, hb9⟩
   replace HB := Lib.hid (HB.out.trans (hb9.mono HB.out.size))
   clear hb9 HN' z2
   have z3 : w3.cell? ⟨w.heap.size, 3, none⟩ = some (.string this) := (HR1.out.below HB.out HR1.out.lt).cell 3
   cases hnm : nameOk issuer with
   |false =>
    have HF := Lib.hid (HBAD.out (.inr (.inl hnm)))
    go_wp2
    go_returns
    rw [HF.out.1, HF.out.2]
    exact ⟨rfl, HB1.out.trans (HB.out.mono HB1.out.size)⟩
   |true =>
    obtain ⟨hns, sSN⟩ := HNL.out hnm
    rw [hns]
    clear HNL hns
    go_wp2_with fail
    refine (HT.out _).mono ?_
    rintro e w4 ⟨rfl, hb9⟩
    replace HB := Lib.hid (HB.out.trans (hb9.mono HB.out.size))
    clear hb9 HT z3
    cases hth : wOk this with
    |false =>
     have HF := Lib.hid (HBAD.out (.inr (.inr (.inl hth))))
     go_wp2
     go_returns
     rw [HF.out.1, HF.out.2]
     exact ⟨rfl, HB1.out.trans (HB.out.mono HB1.out.size)⟩
    |true =>
     have sT := HTL.out hth
     rw [if_pos rfl]
     clear HTL
     generalize encS (dateF this) = ST at *
     go_upto_region 13 with (fail)
     have o1 : ¬ 9223372036854775807 < S6.size + S5.size := by omega
     have o2 : ¬ 9223372036854775807 < SQ.size + SN.size := by omega
     have o3 : ¬ 9223372036854775807 < (SQ ++ SN).size + ST.size := by rw [ByteArray.size_append]; omega
     have o4 : ¬ 9223372036854775807 < P0.size + ((SQ ++ SN) ++ ST).size := by rw [ByteArray.size_append, ByteArray.size_append]; omega
     go_wp2_with fail
     refine (HL5.out _).mono ?_
     rintro e w5 ⟨rfl, hb9⟩
     replace HB := Lib.hid (HB.out.trans (hb9.mono HB.out.size))
     clear hb9 HL5
     have HAQ := Lib.hid (HAS.out w5 _ rfl)
     clear HAS
     go_wp2_with fail
     refine (HAQ.out).mono ?_
     rintro e w6 ⟨rfl, hb9⟩
     replace HB := Lib.hid (HB.out.trans (hb9.mono HB.out.size))
     clear hb9 HAQ
     have z4 : w6.cell? ⟨w.heap.size, 4, none⟩ = some (.string next) := (HR1.out.below HB.out HR1.out.lt).cell 4
     have sO : (P0 ++ ((SQ ++ SN) ++ ST)).size ≤ 22300 := by rw [ByteArray.size_append, ByteArray.size_append, ByteArray.size_append]; omega
     go_upto_if 57 with (fail)
     clear o1 o2 o3 o4
     generalize P0 ++ ((SQ ++ SN) ++ ST) = O at *
     cases hx : (decide (next.size = 0) || wOk next) with
     |false =>
      have hx2 := hx
      rw [Bool.or_eq_false_iff] at hx2
      have hne : (!next.toList.isEmpty) = true := by rw [HNE.out, hx2.1]; rfl
      rw [hne]
      go_wp2_with fail
      refine (HX.out _).mono ?_
      rintro e w7 ⟨rfl, hb9⟩
      replace HB := Lib.hid (HB.out.trans (hb9.mono HB.out.size))
      clear hb9 HX z4 HNE hne
      rw [hx2.2]
      clear hx2
      have HF := Lib.hid (HBAD.out (.inr (.inr (.inr (.inl hx)))))
      go_wp2
      go_returns
      rw [HF.out.1, HF.out.2]
      exact ⟨rfl, HB1.out.trans (HB.out.mono HB1.out.size)⟩
     |true =>
      have sX := HXL.out hx
      go_cut [4] from 9 (fun ov wr => ov = .string (O ++ p4 next) ∧ Hid (Below w1.heap.size w1 wr))
      case first =>
       by_cases h0 : next.size = 0
       ·have hne : (!next.toList.isEmpty) = false := by rw [HNE.out, decide_eq_true h0]; rfl
        rw [hne]
        have hp := HX0.out h0
        clear HNE HX HX4 HX0 HXL hx
        go_wp2
        go_meet
        exact ⟨by rw [hp, str_e], HB⟩
       ·have hne : (!next.toList.isEmpty) = true := by rw [HNE.out, decide_eq_false h0]; rfl
        rw [hne]
        have hwx : wOk next = true := by rw [decide_eq_false h0] at hx; exact hx
        have hp := HX4.out h0
        have HX' := Lib.hid (HX.out w6)
        rw [hwx, if_pos rfl, hp] at HX'
        have o5 : ¬ 9223372036854775807 < O.size + (p4 next).size := by omega
        clear HNE HX HX4 HX0 HXL hx hp
        go_wp2_with fail
        refine (HX'.out).mono ?_
        rintro e w7 ⟨rfl, hb9⟩
        replace HB := Lib.hid (HB.out.trans (hb9.mono HB.out.size))
        clear hb9 HX' z4
        go_wp2
        go_meet
        exact ⟨rfl, HB⟩
      case rest =>
       clear HB z4
       obtain ⟨rfl, HB⟩ := hcut
       have sO2 : (O ++ p4 next).size ≤ 22400 := by rw [ByteArray.size_append]; omega
       clear HX HX4 HX0 HXL HNE sX sO
       generalize O ++ p4 next = O2 at *
       have z6 : wc.cell? ⟨w.heap.size, 6, none⟩ = some (.slice ox exts.length cx) := (HR1.out.below HB.out HR1.out.lt).cell 6
       go_wp2_with fail
       go_loopg [11, 12, 13] entries.length (fun gk av hv iv wr => ∃ (i : Nat) (o : ByteArray), av = .string o ∧ hv = .bool (!exts.isEmpty || (entries.take i).any (fun x => !x.exts.isEmpty)) ∧ iv = .int .i64 (i : Int) ∧ i ≤ entries.length ∧ entries.length - i ≤ gk ∧ Hid (o = encS (joinF ((entries.take i).map entryF))) ∧ o.size ≤ 56412 ∧ Hid ((entries.take i).all entryOk = true) ∧ Hid (Below w1.heap.size w1 wr))
       case atStart => exact ⟨0, _, rfl, by rw [List.take_zero, List.any_nil, Bool.or_false, HEM.out]; simp [Nat.pos_iff_ne_zero], rfl, by omega, by omega, Lib.hid rfl, Nat.zero_le _, Lib.hid rfl, HB⟩
       case round =>
        clear HB z6
        obtain ⟨i, o, rfl, rfl, rfl, hi, hgk, HO, so, HT, HB⟩ := hrel
        have z5 : wr.cell? ⟨w.heap.size, 5, none⟩ = some (.slice oe entries.length ce) := (HR1.out.below HB.out HR1.out.lt).cell 5
        by_cases hlt : i < entries.length
        ·have hlt2 : (i : Int) < (entries.length : Int) := by omega
         obtain ⟨ad, oo, co, ho, hX⟩ := HCE.out.below (HB1.out.trans (HB.out.mono HB1.out.size)) i hlt
         subst ho
         obtain ⟨k0, k1, k2, hexs, hcap2⟩ := hX
         have hsm := HSE.out entries[i] (List.getElem_mem hlt)
         have HT2 := Lib.hid (take_all hlt entryOk)
         rw [HT.out, Bool.true_and] at HT2
         have HAF : Hid (entryOk entries[i] = false → entries.all entryOk = false) := Lib.hid (fun h => all_false hlt h)
         have HTK : Hid (encS (joinF ((entries.take (i + 1)).map entryF)) = o ++ encS (entryF entries[i])) := Lib.hid (by rw [HO.out, List.take_succ_eq_append_getElem hlt, List.map_append, List.map_cons, List.map_nil, join_snoc])
         have HLT : Hid (entryOk entries[i] = true → (encS (joinF ((entries.take (i + 1)).map entryF))).size ≤ 56412) := Lib.hid (fun h => join_len_take entryF entries (i + 1) 4701 12 (fun x hx => entryF_len (HSE.out x (List.mem_of_mem_take hx)) (List.all_eq_true.1 (show (entries.take (i + 1)).all entryOk = true by rw [HT2.out, h]) x hx)) hen)
         have HAN : Hid ((entries.take (i + 1)).any (fun x => !x.exts.isEmpty) = ((entries.take i).any (fun x => !x.exts.isEmpty) || decide (0 < (entries[i].exts.length : Int)))) := Lib.hid (by
          rw [List.take_succ_eq_append_getElem hlt, List.any_append, List.any_cons, List.any_nil, Bool.or_false, some_len])
         have HEN := Lib.hid (refEntry_any entries[i] oo co hsm hcap2 wr hexs)
         have HES : Hid (entryOk entries[i] = true → entryS entries[i] = encS (entryF entries[i])) := Lib.hid (fun h => by unfold entryS; rw [if_pos h])
         have hxe : (entries[i].exts.length : Int) ≤ 10 := by have := hsm.many; omega
         replace k1 : wr.cell? ⟨(ad.add (i * 3)).block, (ad.add (i * 3)).off + 1, none⟩ = some (.string entries[i].date) := k1
         replace k2 : wr.cell? ⟨(ad.add (i * 3)).block, (ad.add (i * 3)).off + 2, none⟩ = some (.slice oo entries[i].exts.length co) := k2
         have K2 := Lib.hid k2
         clear hexs hcap2 hsm HT HO HCE HSE
         generalize encS (entryF entries[i]) = SE at *
         generalize entryS entries[i] = SV at *
         generalize hoe : entryOk entries[i] = EO at *
         generalize entries[i].serial = ser at *
         generalize entries[i].date = dat at *
         generalize entries[i].exts.length = xn at *
         clear hoe
         generalize (entries.take i).any (fun x => !x.exts.isEmpty) = hv at *
         go_wp2_with fail
         refine HEN.out.mono ?_
         rintro e w7 ⟨rfl, hb9⟩
         have p2 := cell_keep K2.out hb9
         replace HB := Lib.hid (HB.out.trans (hb9.mono HB.out.size))
         clear hb9 HEN k0 k1 k2 K2 z5
         cases EO with
         |false =>
          have HF := Lib.hid (HBAD.out (.inr (.inr (.inr (.inr (.inl (HAF.out rfl)))))))
          go_wp2
          go_returns
          rw [HF.out.1, HF.out.2]
          exact ⟨rfl, HB1.out.trans (HB.out.mono HB1.out.size)⟩
         |true =>
          have hES := HES.out rfl
          subst hES
          have hLT := HLT.out rfl
          rw [HTK.out] at hLT
          have HTN : Hid ((entries.take (i + 1)).all entryOk = true) := HT2
          have o6 : ¬ 9223372036854775807 < o.size + SV.size := by rw [ByteArray.size_append] at hLT; omega
          have HREL : Hid (o ++ SV = encS (joinF ((entries.take (i + 1)).map entryF))) := Lib.hid HTK.out.symm
          clear HES HLT HTK HAF HT2
          go_upto_region 28 with (fail)
          have z5 : w7.cell? ⟨w.heap.size, 5, none⟩ = some (.slice (some ad) entries.length ce) := (HR1.out.below HB.out HR1.out.lt).cell 5
          cases hb : (!exts.isEmpty || hv) with
          |true =>
           have HAV : Hid (true = (!exts.isEmpty || (entries.take (i + 1)).any (fun x => !x.exts.isEmpty))) := Lib.hid (by rw [HAN.out, ← Bool.or_assoc, hb]; rfl)
           clear HAN p2 z5
           go_wp2
           go_roundg (entries.length - (i + 1))
           case measure => omega
           case rel => exact ⟨i + 1, _, rfl, congrArg Value.bool HAV.out, by simp, by omega, by omega, HREL, hLT, HTN, HB⟩
          |false =>
           have HAV : Hid (decide (0 < xn) = (!exts.isEmpty || (entries.take (i + 1)).any (fun x => !x.exts.isEmpty))) := Lib.hid (by rw [HAN.out, ← Bool.or_assoc, hb]; simp)
           clear HAN
           go_wp2
           go_roundg (entries.length - (i + 1))
           case measure => omega
           case rel => exact ⟨i + 1, _, rfl, congrArg Value.bool HAV.out, by simp, by omega, by omega, HREL, hLT, HTN, HB⟩
        ·have hlt2 : ¬ (i : Int) < (entries.length : Int) := by omega
         obtain rfl : i = entries.length := by omega
         have hall : entries.all entryOk = true := by have := HT.out; rwa [List.take_of_length_le (Nat.le_refl _)] at this
         rw [List.take_of_length_le (Nat.le_refl _)] at HO
         have hjl2 : (joinF (entries.map entryF)).enc.length ≤ 56412 := by rw [← encS_size, ← HO.out]; exact so
         have hjl : (joinF (entries.map entryF)).enc.length ≤ 100000 := by omega
         have HJ := Lib.hid (refSeq_is (joinF (entries.map entryF)) HO.out.symm hjl)
         have HP5 : Hid (entries.length ≠ 0 → encS (sq (joinF (entries.map entryF))) = p5 entries) := Lib.hid (fun h => by unfold p5; rw [if_neg]; intro e; exact h (by rw [List.isEmpty_iff.1 e]; rfl))
         have HP50 : Hid (entries.length = 0 → p5 entries = ⟨#[]⟩) := Lib.hid (fun h => by rw [List.length_eq_zero_iff.1 h]; rfl)
         have s5' : (p5 entries).size ≤ 56426 := by
          by_cases h : entries.length = 0
          ·rw [HP50.out h]; exact Nat.zero_le _
          ·rw [← HP5.out h, encS_size]
           have := (sq_len (k := joinF (entries.map entryF)) (by omega)).2
           omega
         rw [List.take_of_length_le (Nat.le_refl _)]
         generalize hHV : (!exts.isEmpty || entries.any (fun x => !x.exts.isEmpty)) = hv at *
         clear hHV HT HO hjl hjl2
         generalize joinF (entries.map entryF) = JF at *
         go_upto_if 108 with (fail)
         go_cut [4] from 105 to 137 (fun ov wr => ov = .string (O2 ++ p5 entries) ∧ Hid (Below w1.heap.size w1 wr))
         case first =>
          by_cases h0 : entries.length = 0
          ·have hg0 : ¬ (0 : Int) < (entries.length : Int) := by omega
           have hp := HP50.out h0
           clear h0
           go_wp2
           go_meet
           exact ⟨by rw [hp, str_e], HB⟩
          ·have hg0 : (0 : Int) < (entries.length : Int) := by omega
           rw [HP5.out h0] at HJ
           have o7 : ¬ 9223372036854775807 < O2.size + (p5 entries).size := by omega
           clear HP5 HP50 h0
           go_wp2_with fail
           refine (HJ.out _).mono ?_
           rintro e w7 ⟨rfl, hb9⟩
           replace HB := Lib.hid (HB.out.trans (hb9.mono HB.out.size))
           clear hb9 HJ
           go_wp2
           go_meet
           exact ⟨rfl, HB⟩
         case rest =>
          clear HB z5
          obtain ⟨rfl, HB⟩ := hcut
          have sO3 : (O2 ++ p5 entries).size ≤ 78826 := by rw [ByteArray.size_append]; omega
          clear HP5 HP50 HJ s5' sO2
          generalize O2 ++ p5 entries = O3 at *
          have z6 : wc.cell? ⟨w.heap.size, 6, none⟩ = some (.slice ox exts.length cx) := (HR1.out.below HB.out HR1.out.lt).cell 6
          go_upto_if 116 with (fail)
          cases hx6 : (exts.isEmpty || extsOk exts) with
          |false =>
           have hx7 := hx6
           rw [Bool.or_eq_false_iff] at hx7
           have hgx : (0 : Int) < (exts.length : Int) := by
            have := HEM.out
            rw [hx7.1] at this
            have := of_decide_eq_false this.symm
            omega
           have HE' := Lib.hid (HE.out _ (HB1.out.trans (HB.out.mono HB1.out.size)))
           rw [hx7.2] at HE'
           clear hx7 HE HE6 HE0 HEM HEL HYES
           go_wp2_with fail
           refine (HE'.out).mono ?_
           rintro e w8 ⟨rfl, hb9⟩
           replace HB := Lib.hid (HB.out.trans (hb9.mono HB.out.size))
           clear hb9 HE' z6
           have HF := Lib.hid (HBAD.out (.inr (.inr (.inr (.inr (.inr hx6))))))
           go_wp2
           go_returns
           rw [HF.out.1, HF.out.2]
           exact ⟨rfl, HB1.out.trans (HB.out.mono HB1.out.size)⟩
          |true =>
           have s6' := HEL.out hx6
           obtain ⟨H8, HG, HQ⟩ := HYES.out hal hnm hth hx hall hx6
           replace H8 := Lib.hid H8
           replace HG := Lib.hid HG
           replace HQ := Lib.hid HQ
           clear HYES HBAD HEL
           go_cut [4] from 69 to 137 (fun ov wr => ov = .string (O3 ++ p6 exts) ∧ Hid (Below w1.heap.size w1 wr))
           case first =>
            cases hem : exts.isEmpty with
            |true =>
             have hp := HE0.out hem
             have hgx : ¬ (0 : Int) < (exts.length : Int) := by
              have := HEM.out
              rw [hem] at this
              have := of_decide_eq_true this.symm
              omega
             clear hem HEM HE0 HE6 HE H8 HG HQ hx6
             go_wp2
             go_meet
             exact ⟨by rw [hp, str_e], HB⟩
            |false =>
             have hgx : (0 : Int) < (exts.length : Int) := by
              have := HEM.out
              rw [hem] at this
              have := of_decide_eq_false this.symm
              omega
             have hok : extsOk exts = true := by rw [hem] at hx6; exact hx6
             have HE' := Lib.hid (HE.out _ (HB1.out.trans (HB.out.mono HB1.out.size)))
             rw [hok] at HE'
             have HEE := Lib.hid (HE6.out hem hok)
             have o8 : ¬ 9223372036854775807 < O3.size + (p6 exts).size := by omega
             clear hem HEM HE0 HE6 HE H8 HG HQ hx6 hok
             go_wp2_with fail
             refine (HE'.out).mono ?_
             rintro e w8 ⟨rfl, hb9⟩
             replace HB := Lib.hid (HB.out.trans (hb9.mono HB.out.size))
             clear hb9 HE' z6
             go_wp2_with fail
             refine (HEE.out _).mono ?_
             rintro e w9 ⟨rfl, hb9⟩
             replace HB := Lib.hid (HB.out.trans (hb9.mono HB.out.size))
             clear hb9 HEE
             go_wp2
             go_meet
             exact ⟨rfl, HB⟩
           case rest =>
            clear HB z6
            obtain ⟨rfl, HB⟩ := hcut
            have HQ' := Lib.hid (fun W => HQ.out _ rfl W)
            clear HQ HE HE6 HE0 HEM s6' sO3
            generalize O3 ++ p6 exts = O4 at *
            have z0 : wc.cell? ⟨w.heap.size, 0, none⟩ = some (.bool v2) := (HR1.out.below HB.out HR1.out.lt).cell 0
            cases hv with
            |true =>
             cases v2 with
             |false =>
              have HF := Lib.hid (H8.out ⟨rfl, rfl⟩)
              clear H8 HG HQ'
              go_wp2
              go_returns
              rw [HF.out.1, HF.out.2]
              exact ⟨rfl, HB1.out.trans (HB.out.mono HB1.out.size)⟩
             |true =>
              have HF := Lib.hid (HG.out (fun h => by cases h.2))
              clear H8 HG
              go_wp2_with fail
              refine (HQ'.out _).mono ?_
              rintro e w8 ⟨rfl, hb9⟩
              replace HB := Lib.hid (HB.out.trans (hb9.mono HB.out.size))
              clear hb9 HQ' z0
              go_wp2
              go_returns
              rw [HF.out.1, HF.out.2]
              exact ⟨rfl, HB1.out.trans (HB.out.mono HB1.out.size)⟩
            |false =>
             have HF := Lib.hid (HG.out (fun h => by cases h.1))
             clear H8 HG
             go_wp2_with fail
             refine (HQ'.out _).mono ?_
             rintro e w8 ⟨rfl, hb9⟩
             replace HB := Lib.hid (HB.out.trans (hb9.mono HB.out.size))
             clear hb9 HQ' z0
             go_wp2
             go_returns
             rw [HF.out.1, HF.out.2]
             exact ⟨rfl, HB1.out.trans (HB.out.mono HB1.out.size)⟩
end Go.Proofs.YtiiimhamfibdbaaGreat
