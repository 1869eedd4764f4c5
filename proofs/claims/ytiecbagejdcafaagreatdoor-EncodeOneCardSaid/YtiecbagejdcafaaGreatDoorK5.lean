/- Package encode in the landed code: what of a list is signed. Within the sizes that layer 19's statements name. -/
import Derived.Test.YtiecbagejdcafaaGreatDoorK4
import Derived.Test.YtiecbagejdcafaaGreatDoorK3
import Derived.Test.YtiecbagejdcafaaGreatDoorG2
import Derived.Test.YtiecbagejdcafaaGreatDoorBs
import Derived.Deep.CutRange
namespace Go.Proofs.YtiecbagejdcafaaGreatDoor
open Go.RowKit Go.PlainAid
set_option linter.unusedVariables false
def n4S (next : ByteArray) : ByteArray := if next.size = 0 then ⟨#[]⟩ else momS next
def e5S (l : List EntryV) : ByteArray := if l.length = 0 then ⟨#[]⟩ else if l.all entryOk = true then encS (sq (joinF (l.map entryF))) else ⟨#[]⟩
def x6S (l : List ExtV) : ByteArray := if l.length = 0 then ⟨#[]⟩ else elS 2 0 true (extsS l)
def sgnS (c : CrlV) : ByteArray := if c.valOk = true then encS (tbsF c) else ⟨#[]⟩
theorem n4S_le (s : ByteArray) : (n4S s).size ≤ 29 := by
 unfold n4S
 split
 ·exact Nat.zero_le _
 ·exact momS_le s
theorem e5S_le (l : List EntryV) (hl : l.length ≤ 12) (hs : ∀ x ∈ l, x.Small) : (e5S l).size ≤ 56426 := by
 unfold e5S
 split
 ·exact Nat.zero_le _
 ·split
  ·rename_i h
   have h1 := join_len (l.map entryF) 4701 12 (fun f hf => by obtain ⟨x, hx, rfl⟩ := List.mem_map.1 hf; exact entryF_len (hs x hx) (List.all_eq_true.1 h x hx)) (by rw [List.length_map]; exact hl)
   rw [encS_size]
   have := (sq_len (k := joinF (l.map entryF)) (by omega)).2
   omega
  ·exact Nat.zero_le _
theorem x6S_le (l : List ExtV) (hl : l.length ≤ 10) (hs : ∀ x ∈ l, x.Small) : (x6S l).size ≤ 4598 := by
 unfold x6S
 split
 ·exact Nat.zero_le _
 ·have := extsS_le l hl hs
  have := elS_le 2 0 true (extsS l)
  omega
theorem nameS_le (l : List (List AttrV)) (hl : l.length ≤ 8) (hs : ∀ s ∈ l, s.length ≤ 8 ∧ ∀ a ∈ s, a.Small) : (nameS l).size ≤ 22014 := by
 unfold nameS
 split
 ·rename_i h; rw [encS_size]; exact nameF_len hl hs h
 ·exact Nat.zero_le _
theorem sgn_end (c : CrlV) (hs : c.Small) : seqS (!c.valOk) (p0 c.v2 ++ algS c.alg ++ nameS c.issuer ++ momS c.this ++ n4S c.next ++ e5S c.entries ++ x6S c.exts) = sgnS c := by
 unfold sgnS
 cases h : c.valOk with
 |false => show seqS true _ = _; unfold seqS; rw [if_pos rfl, if_neg (by decide)]
 |true =>
  obtain ⟨h1, h2, h3, h4, h5, h6⟩ := CrlV.valOk_iff.1 h
  have q1 : algS c.alg = encS (algF c.alg) := by unfold algS; rw [if_pos h1]
  have q2 : nameS c.issuer = encS (nameF c.issuer) := by unfold nameS; rw [if_pos h2]
  have q3 : momS c.this = encS (dateF c.this) := momS_ok h3
  have q4 : n4S c.next = p4 c.next := by
   unfold n4S p4
   by_cases h0 : c.next.size = 0
   ·rw [if_pos h0, if_pos h0]; rfl
   ·rw [if_neg h0, if_neg h0]
    rcases h4 with h4 | h4
    ·exact absurd h4 h0
    ·exact momS_ok h4
  have q5 : e5S c.entries = p5 c.entries := by
   unfold e5S p5
   by_cases h0 : c.entries.length = 0
   ·rw [if_pos h0, if_pos (by rw [List.length_eq_zero_iff.1 h0]; rfl)]; rfl
   ·rw [if_neg h0, if_pos (List.all_eq_true.2 h5), if_neg (by intro e; exact h0 (by rw [List.isEmpty_iff.1 e]; rfl))]
  have q6 : x6S c.exts = p6 c.exts := by
   unfold x6S p6
   by_cases h0 : c.exts.length = 0
   ·rw [if_pos h0, if_pos (by rw [List.length_eq_zero_iff.1 h0]; rfl)]; rfl
   ·have hne : ¬ c.exts.isEmpty = true := by intro e; exact h0 (by rw [List.isEmpty_iff.1 e]; rfl)
    have hx : extsOk c.exts = true := by
     unfold CrlV.valOk at h
     simp only [Bool.and_eq_true] at h
     exact some_exts h.2 hne
    have hl := extsF_len hs.few hs.exts hx
    have he : extsS c.exts = encS (extsF c.exts) := by unfold extsS; rw [if_pos hx]
    rw [if_neg h0, if_neg hne, he, elS_node (by decide) _ (by rw [encS_size]; omega)]
  have hk := tbsK_len hs h
  show seqS false _ = _
  rw [if_pos rfl, q1, q2, q3, q4, q5, q6]
  have hj : p0 c.v2 ++ encS (algF c.alg) ++ encS (nameF c.issuer) ++ encS (dateF c.this) ++ p4 c.next ++ p5 c.entries ++ p6 c.exts = encS (tbsK c) := by
   rw [tbsK_enc]
   simp only [ByteArray.append_assoc]
  rw [hj]
  exact seqS_ok _ (by rw [encS_size]; omega)
theorem empty_next (s : ByteArray) : (s.size = 0 → (!s.toList.isEmpty) = false) ∧ (s.size ≠ 0 → (!s.toList.isEmpty) = true) := by
 constructor
 ·intro h
  rw [show s = ⟨#[]⟩ from ByteArray.ext (Array.eq_empty_of_size_eq_zero h)]
  decide +kernel
 ·intro h
  have := text_list h
  cases hq : s.toList with
  |nil => exact absurd hq this
  |cons _ _ => rfl
theorem put_one : strOfNums (hiI 1) = ⟨#[1]⟩ := by decide +kernel
set_option maxRecDepth 100000 in
set_option maxHeartbeats 16000000 in
theorem encSigned_any (c : CrlV) (r : CrlR) (hs : c.Small) (hf : c.Fits) (hcap : CrlCap c r) (w : World) (hT : Tab w) (hc : CameCrl w c r) :
  Calls Tryz.prog 31 #[crlV c r] w fun e w' => e = .returned (.tuple #[.string (sgnS c), .bool c.valOk]) ∧ Below w.heap.size w w' := by
 have HA := Lib.hid (fun W (hb : Below w.heap.size w W) => encAlg_any r.oa r.ca c.alg hs.alg hs.ain hcap.a W (hc.alg.below hb))
 have HN := Lib.hid (fun W (hb : Below w.heap.size w W) => encName_any r.oi r.ci c.issuer hs.sets hs.attrs hf.attrs hcap.i W (hc.sets.below hb))
 have HM := Lib.hid (fun W (hb : Below w.heap.size w W) => encMom_any c.this (by have := hs.this; omega) W (hT.on hb))
 have HX := Lib.hid (fun W (hb : Below w.heap.size w W) => encMom_any c.next (by have := hs.next; omega) W (hT.on hb))
 have HE := Lib.hid (fun W (hb : Below w.heap.size w W) => encSeqEntry_any r.oe r.ce c.entries hs.many hs.entries hcap.e W (hT.on hb) (hc.entries.below hb))
 have HXS := Lib.hid (fun W (hb : Below w.heap.size w W) => encExts_any r.ox r.cx c.exts hs.few hs.exts hcap.x W (hc.exts.below hb))
 have HXE := Lib.hid (encElement_any 2 0 true 0 (extsS c.exts) (by unfold InI; omega) (by unfold InI; omega) (by have := extsS_le c.exts hs.few hs.exts; omega))
 have HNP := Lib.hid (numPut_any 1 (by decide))
 rw [put_one] at HNP
 have HL2 := Lib.hid (encPrim_lf 2 ⟨#[1]⟩ (by decide) (by decide +kernel))
 have hb1 : bl ⟨#[1]⟩ = [1] := rfl
 have HP0 : Hid (p0 true = encS (lf 2 [1])) := Lib.hid (by unfold p0; rw [if_pos rfl])
 have HPX : Hid (p0 false = ⟨#[]⟩) := Lib.hid (by unfold p0; rw [if_neg (by decide)]; rfl)
 rw [hb1, ← HP0.out] at HL2
 have s0 := p0_len c.v2
 have s1 := algS_le c.alg hs.alg hs.ain
 have s2 := nameS_le c.issuer hs.sets hs.attrs
 have s3 := momS_le c.this
 have s4 := n4S_le c.next
 have s5 := e5S_le c.entries hs.many hs.entries
 have s6 := x6S_le c.exts hs.few hs.exts
 have s7 := momS_le c.next
 have HEND := Lib.hid (sgn_end c hs)
 have HOK : Hid (c.valOk = (arcsOk c.alg && nameOk c.issuer && wOk c.this && (decide (c.next.size = 0) || wOk c.next) && c.entries.all entryOk && (c.exts.isEmpty || extsOk c.exts))) := Lib.hid rfl
 have H40 : Hid (c.next.size = 0 → n4S c.next = ⟨#[]⟩) := Lib.hid (fun h => by unfold n4S; rw [if_pos h])
 have H41 : Hid (c.next.size ≠ 0 → momS c.next = n4S c.next) := Lib.hid (fun h => by unfold n4S; rw [if_neg h])
 have H50 : Hid (c.entries.length = 0 → e5S c.entries = ⟨#[]⟩ ∧ c.entries.all entryOk = true) := Lib.hid (fun h => ⟨by unfold e5S; rw [if_pos h], by rw [List.length_eq_zero_iff.1 h]; rfl⟩)
 have H51 : Hid (c.entries.length ≠ 0 → (if c.entries.all entryOk = true then encS (sq (joinF (c.entries.map entryF))) else ⟨#[]⟩) = e5S c.entries) := Lib.hid (fun h => by unfold e5S; rw [if_neg h])
 have H60 : Hid (c.exts.length = 0 → x6S c.exts = ⟨#[]⟩ ∧ c.exts.isEmpty = true) := Lib.hid (fun h => ⟨by unfold x6S; rw [if_pos h], by rw [List.length_eq_zero_iff.1 h]; rfl⟩)
 have H61 : Hid (c.exts.length ≠ 0 → elS 2 0 true (extsS c.exts) = x6S c.exts ∧ c.exts.isEmpty = false) := Lib.hid (fun h => ⟨by unfold x6S; rw [if_neg h], by cases hx : c.exts with | nil => rw [hx] at h; exact absurd rfl h | cons _ _ => rfl⟩)
 have hen : (c.entries.length : Int) ≤ 12 := by have := hs.many; omega
 have hxn : (c.exts.length : Int) ≤ 10 := by have := hs.few; omega
 have HNX := Lib.hid (empty_next c.next)
 unfold crlV
 obtain ⟨oa, ca, oi, ci, oe, ce, ox, cx⟩ := r
 dsimp only at *
 clear hs hf hcap hT hc hb1 HP0
 generalize sgnS c = R at *
 generalize c.valOk = EOK at *
 generalize c.sig = sg at *
 generalize (if c.entries.all entryOk = true then encS (sq (joinF (c.entries.map entryF))) else ⟨#[]⟩) = SEQ at *
 generalize e5S c.entries = S5 at *
 generalize c.entries.all entryOk = K5 at *
 generalize c.entries.length = ne at *
 generalize elS 2 0 true (extsS c.exts) = SXE at *
 generalize x6S c.exts = S6 at *
 generalize extsS c.exts = SX at *
 generalize extsOk c.exts = K6 at *
 generalize c.exts.isEmpty = em at *
 generalize c.exts.length = nx at *
 generalize algS c.alg = S1 at *
 generalize arcsOk c.alg = K1 at *
 generalize c.alg.length = na at *
 generalize nameS c.issuer = S2 at *
 generalize nameOk c.issuer = K2 at *
 generalize c.issuer.length = ni at *
 generalize momS c.this = S3 at *
 generalize wOk c.this = K3 at *
 generalize c.this = this at *
 generalize n4S c.next = S4 at *
 generalize momS c.next = SM at *
 generalize wOk c.next = KM at *
 generalize c.next = next at *
 generalize c.v2 = v2 at *
 have HR1 : Hid (Row ((w.alloc (.cells #[.bool v2, .slice oa na ca, .slice oi ni ci, .string this, .string next, .slice oe ne ce, .slice ox nx cx, .string sg] 27)).alloc (.cells #[.pointer none, .slice none 0 0, .bool false] 87)) w.heap.size 27 [.bool v2, .slice oa na ca, .slice oi ni ci, .string this, .string next, .slice oe ne ce, .slice ox nx cx, .string sg]) := Lib.hid ((Row.new w _ [.bool v2, .slice oa na ca, .slice oi ni ci, .string this, .string next, .slice oe ne ce, .slice ox nx cx, .string sg]).alloc _)
 have HP1 : Hid (PAt ((w.alloc (.cells #[.bool v2, .slice oa na ca, .slice oi ni ci, .string this, .string next, .slice oe ne ce, .slice ox nx cx, .string sg] 27)).alloc (.cells #[.pointer none, .slice none 0 0, .bool false] 87)) (w.heap.size + 1) (w.heap.size + 1) ⟨#[]⟩ false) := Lib.hid (by have := PAt.new (w.alloc (.cells #[.bool v2, .slice oa na ca, .slice oi ni ci, .string this, .string next, .slice oe ne ce, .slice ox nx cx, .string sg] 27)) (Nat.le_refl _); simpa using this)
 have HB1 : Hid (Below w.heap.size w ((w.alloc (.cells #[.bool v2, .slice oa na ca, .slice oi ni ci, .string this, .string next, .slice oe ne ce, .slice ox nx cx, .string sg] 27)).alloc (.cells #[.pointer none, .slice none 0 0, .bool false] 87))) := Lib.hid (((Below.refl _ _).alloc (Nat.le_refl _) _).alloc (by simp) _)
 go_enter Tryz.func31, Tryz.ntmps31
 go_upto_region 2 with (fail)
 generalize (w.alloc (.cells #[.bool v2, .slice oa na ca, .slice oi ni ci, .string this, .string next, .slice oe ne ce, .slice ox nx cx, .string sg] 27)).alloc (.cells #[.pointer none, .slice none 0 0, .bool false] 87) = w1 at *
 have z0 : w1.cell? ⟨w.heap.size, 0, none⟩ = some (.bool v2) := HR1.out.cell 0
 go_upto_if 8 with (fail)
 go_cut [] from 9 (fun wr => Hid (PAt wr (w.heap.size + 1) (w.heap.size + 1) (p0 v2) (false)) ∧ Hid (Below w.heap.size w wr) ∧ Hid (Row wr w.heap.size 27 [.bool v2, .slice oa na ca, .slice oi ni ci, .string this, .string next, .slice oe ne ce, .slice ox nx cx, .string sg]))
 case first =>
  cases v2 with
  |true =>
   go_wp2_with fail
   refine (HNP.out _).mono ?_
   rintro e w2 ⟨rfl, hb⟩
   have HB2 := Lib.hid (HB1.out.trans (hb.mono HB1.out.size))
   have HP2 := Lib.hid (HP1.out.keep hb)
   have HR2 := Lib.hid (HR1.out.below hb HR1.out.lt)
   clear hb HB1 HP1 HR1
   go_wp2_with fail
   refine (HL2.out _).mono ?_
   rintro e w3 ⟨rfl, hb⟩
   have HB3 := Lib.hid (HB2.out.trans (hb.mono HB2.out.size))
   have HP3 := Lib.hid (HP2.out.keep hb)
   have HR3 := Lib.hid (HR2.out.below hb HR2.out.lt)
   clear hb HB2 HP2 HR2
   go_wp2_with fail
   refine (partsAdd_any (w.heap.size + 1) (w.heap.size + 1) _ _ _ _ w3 HP3.out (by show 0 + _ ≤ _; omega) (Nat.le_of_lt HP3.out.lt)).mono ?_
   rintro e w4 ⟨rfl, hP, hb⟩
   have HB4 := Lib.hid (HB3.out.trans (hb.mono (by omega)))
   have HP4 := Lib.hid hP
   have HR4 := Lib.hid (HR3.out.below hb (by omega))
   clear hP hb HB3 HP3 HR3
   go_wp2_with fail
   go_meet
   exact ⟨Lib.hid (HP4.out.as ⟨e_app _, rfl⟩), HB4, HR4⟩
  |false =>
   go_wp2_with fail
   go_meet
   exact ⟨Lib.hid (HP1.out.as ⟨HPX.out.symm, rfl⟩), HB1, HR1⟩
 case rest =>
  clear HP1 HB1 HR1 z0
  obtain ⟨HP1, HB1, HR1⟩ := hcut
  obtain ⟨w1, hw1⟩ : ∃ x, x = wc := ⟨_, rfl⟩
  subst hw1
  clear HL2 HNP HPX
  generalize p0 v2 = S0 at *
  have z1 : w1.cell? ⟨w.heap.size, 1, none⟩ = some (.slice oa na ca) := HR1.out.cell 1
  go_wp2_with fail
  refine (HA.out _ HB1.out).mono ?_
  rintro e w2 ⟨rfl, hb⟩
  have HB2 := Lib.hid (HB1.out.trans (hb.mono HB1.out.size))
  have HP2 := Lib.hid (HP1.out.keep hb)
  have HR2 := Lib.hid (HR1.out.below hb HR1.out.lt)
  clear hb HB1 HP1 HR1
  clear z1 HA
  go_wp2_with fail
  refine (partsAdd_any (w.heap.size + 1) (w.heap.size + 1) _ _ _ _ w2 HP2.out (by omega) (Nat.le_of_lt HP2.out.lt)).mono ?_
  rintro e w3 ⟨rfl, hP, hb⟩
  have HB3 := Lib.hid (HB2.out.trans (hb.mono (by omega)))
  have HP3 := Lib.hid hP
  have HR3 := Lib.hid (HR2.out.below hb (by omega))
  clear hP hb HB2 HP2 HR2
  have z2 : w3.cell? ⟨w.heap.size, 2, none⟩ = some (.slice oi ni ci) := HR3.out.cell 2
  go_wp2_with fail
  refine (HN.out _ HB3.out).mono ?_
  rintro e w4 ⟨rfl, hb⟩
  have HB4 := Lib.hid (HB3.out.trans (hb.mono HB3.out.size))
  have HP4 := Lib.hid (HP3.out.keep hb)
  have HR4 := Lib.hid (HR3.out.below hb HR3.out.lt)
  clear hb HB3 HP3 HR3
  clear z2 HN
  go_wp2_with fail
  refine (partsAdd_any (w.heap.size + 1) (w.heap.size + 1) _ _ _ _ w4 HP4.out (by rw [ByteArray.size_append]; omega) (Nat.le_of_lt HP4.out.lt)).mono ?_
  rintro e w5 ⟨rfl, hP, hb⟩
  have HB5 := Lib.hid (HB4.out.trans (hb.mono (by omega)))
  have HP5 := Lib.hid hP
  have HR5 := Lib.hid (HR4.out.below hb (by omega))
  clear hP hb HB4 HP4 HR4
  have z3 : w5.cell? ⟨w.heap.size, 3, none⟩ = some (.string this) := HR5.out.cell 3
  go_wp2_with fail
  refine (HM.out _ HB5.out).mono ?_
  rintro e w6 ⟨rfl, hb⟩
  have HB6 := Lib.hid (HB5.out.trans (hb.mono HB5.out.size))
  have HP6 := Lib.hid (HP5.out.keep hb)
  have HR6 := Lib.hid (HR5.out.below hb HR5.out.lt)
  clear hb HB5 HP5 HR5
  clear z3 HM
  go_wp2_with fail
  refine (partsAdd_any (w.heap.size + 1) (w.heap.size + 1) _ _ _ _ w6 HP6.out (by simp only [ByteArray.size_append]; omega) (Nat.le_of_lt HP6.out.lt)).mono ?_
  rintro e w7 ⟨rfl, hP, hb⟩
  have HB7 := Lib.hid (HB6.out.trans (hb.mono (by omega)))
  have HP7 := Lib.hid hP
  have HR7 := Lib.hid (HR6.out.below hb (by omega))
  clear hP hb HB6 HP6 HR6
  have HP7x : Hid (PAt w7 (w.heap.size + 1) (w.heap.size + 1) (S0 ++ S1 ++ S2 ++ S3) (!K1 || !K2 || !K3)) := Lib.hid (HP7.out.as ⟨rfl, by rw [Bool.false_or]⟩)
  have z4 : w7.cell? ⟨w.heap.size, 4, none⟩ = some (.string next) := HR7.out.cell 4
  go_upto_if 32 with (fail)
  go_cut [] from 32 (fun wr => Hid (PAt wr (w.heap.size + 1) (w.heap.size + 1) (S0 ++ S1 ++ S2 ++ S3 ++ S4) (!K1 || !K2 || !K3 || !(decide (next.size = 0) || KM))) ∧ Hid (Below w.heap.size w wr) ∧ Hid (Row wr w.heap.size 27 [.bool v2, .slice oa na ca, .slice oi ni ci, .string this, .string next, .slice oe ne ce, .slice ox nx cx, .string sg]))
  case first =>
   clear HP7
   have HP7 := HP7x
   clear HP7x
   by_cases h0 : next.size = 0
   ·have hne := HNX.out.1 h0
    rw [hne]
    have h40 := Lib.hid (H40.out h0)
    have hd0 : Hid (decide (next.size = 0) = true) := Lib.hid (decide_eq_true h0)
    clear h0
    go_wp2_with fail
    go_meet
    exact ⟨Lib.hid (HP7.out.as ⟨by rw [h40.out, app_e], by rw [hd0.out]; simp⟩), HB7, HR7⟩
   ·have hne := HNX.out.2 h0
    rw [hne]
    have h41 := Lib.hid (H41.out h0)
    have hd0 : Hid (decide (next.size = 0) = false) := Lib.hid (decide_eq_false h0)
    clear hne h0
    go_wp2_with fail
    refine (HX.out _ HB7.out).mono ?_
    rintro e w8 ⟨rfl, hb⟩
    have HB8 := Lib.hid (HB7.out.trans (hb.mono HB7.out.size))
    have HP8 := Lib.hid (HP7.out.keep hb)
    have HR8 := Lib.hid (HR7.out.below hb HR7.out.lt)
    clear hb HB7 HP7 HR7
    clear z4 HX
    go_wp2_with fail
    refine (partsAdd_any (w.heap.size + 1) (w.heap.size + 1) _ _ _ _ w8 HP8.out (by simp only [ByteArray.size_append]; omega) (Nat.le_of_lt HP8.out.lt)).mono ?_
    rintro e w9 ⟨rfl, hP, hb⟩
    have HB9 := Lib.hid (HB8.out.trans (hb.mono (by omega)))
    have HP9 := Lib.hid hP
    have HR9 := Lib.hid (HR8.out.below hb (by omega))
    clear hP hb HB8 HP8 HR8
    go_wp2_with fail
    go_meet
    exact ⟨Lib.hid (HP9.out.as ⟨by rw [h41.out], by rw [hd0.out, Bool.false_or]⟩), HB9, HR9⟩
  case rest =>
   clear HP7 HP7x HB7 HR7 z4 HX H40 H41 HNX s7
   obtain ⟨HP1, HB1, HR1⟩ := hcut
   obtain ⟨w1, hw1⟩ : ∃ x, x = wc := ⟨_, rfl⟩
   subst hw1
   generalize hKN : (decide (next.size = 0) || KM) = KN at *
   clear hKN
   have z5 : w1.cell? ⟨w.heap.size, 5, none⟩ = some (.slice oe ne ce) := HR1.out.cell 5
   go_upto_if 42 with (fail)
   go_cut [] from 42 (fun wr => Hid (PAt wr (w.heap.size + 1) (w.heap.size + 1) (S0 ++ S1 ++ S2 ++ S3 ++ S4 ++ S5) (!K1 || !K2 || !K3 || !KN || !K5)) ∧ Hid (Below w.heap.size w wr) ∧ Hid (Row wr w.heap.size 27 [.bool v2, .slice oa na ca, .slice oi ni ci, .string this, .string next, .slice oe ne ce, .slice ox nx cx, .string sg]))
   case first =>
    by_cases h0 : ne = 0
    ·have hg0 : ¬ (0 : Int) < (ne : Int) := by omega
     have h50 := H50.out h0
     have H50' := Lib.hid h50
     clear h50 HOK h0 H50 H51 H60 H61
     go_wp2_with fail
     go_meet
     exact ⟨Lib.hid (HP1.out.as ⟨by rw [H50'.out.1, app_e], by rw [H50'.out.2]; simp⟩), HB1, HR1⟩
    ·have hg0 : (0 : Int) < (ne : Int) := by omega
     have H51' := Lib.hid (H51.out h0)
     have hsq : SEQ.size ≤ 56426 := by rw [H51'.out]; exact s5
     clear HOK h0 H50 H51 H60 H61
     go_wp2_with fail
     refine (HE.out _ HB1.out).mono ?_
     rintro e w2 ⟨rfl, hb⟩
     have HB2 := Lib.hid (HB1.out.trans (hb.mono HB1.out.size))
     have HP2 := Lib.hid (HP1.out.keep hb)
     have HR2 := Lib.hid (HR1.out.below hb HR1.out.lt)
     clear hb HB1 HP1 HR1
     clear z5 HE
     go_wp2_with fail
     refine (partsAdd_any (w.heap.size + 1) (w.heap.size + 1) _ _ _ _ w2 HP2.out (by simp only [ByteArray.size_append]; omega) (Nat.le_of_lt HP2.out.lt)).mono ?_
     rintro e w3 ⟨rfl, hP, hb⟩
     have HB3 := Lib.hid (HB2.out.trans (hb.mono (by omega)))
     have HP3 := Lib.hid hP
     have HR3 := Lib.hid (HR2.out.below hb (by omega))
     clear hP hb HB2 HP2 HR2
     go_wp2_with fail
     go_meet
     exact ⟨Lib.hid (HP3.out.as ⟨by rw [H51'.out], rfl⟩), HB3, HR3⟩
   case rest =>
    clear HP1 HB1 HR1 z5 HE H50 H51
    obtain ⟨HP1, HB1, HR1⟩ := hcut
    obtain ⟨w1, hw1⟩ : ∃ x, x = wc := ⟨_, rfl⟩
    subst hw1
    have z6 : w1.cell? ⟨w.heap.size, 6, none⟩ = some (.slice ox nx cx) := HR1.out.cell 6
    by_cases h0 : nx = 0
    ·have hg0 : ¬ (0 : Int) < (nx : Int) := by omega
     have h60 := H60.out h0
     have HOK2 : Hid ((!(!K1 || !K2 || !K3 || !KN || !K5)) = EOK) := Lib.hid (by rw [HOK.out, h60.2]; simp [Bool.and_assoc])
     have HEND2 : Hid (seqS (!K1 || !K2 || !K3 || !KN || !K5) (S0 ++ S1 ++ S2 ++ S3 ++ S4 ++ S5) = R) := Lib.hid (by
      have := HEND.out
      rw [h60.1, app_e, ← HOK2.out, Bool.not_not] at this
      exact this)
     clear h60 HEND HOK H60 H61 HXS HXE h0
     have HQ := Lib.hid (encSeq_any (w.heap.size + 1) (w.heap.size + 1) (S0 ++ S1 ++ S2 ++ S3 ++ S4 ++ S5) (!K1 || !K2 || !K3 || !KN || !K5) w1 (HP1.out.as (⟨by first | with_reducible rfl | simp only [e_app], by first | rfl | simp⟩)) (by simp only [ByteArray.size_append]; omega) (Nat.le_of_lt HP1.out.lt))
     rw [HEND2.out, HOK2.out] at HQ
     clear HEND2 HOK2
     go_wp2_with fail
     refine HQ.out.mono ?_
     rintro e w2 ⟨rfl, hb⟩
     have HB2 := Lib.hid (HB1.out.trans (hb.mono (by omega)))
     clear hb HQ
     go_wp2
     go_returns
     exact ⟨rfl, HB2.out⟩
    ·have hg0 : (0 : Int) < (nx : Int) := by omega
     have h61 := H61.out h0
     have HOK2 : Hid ((!(!K1 || !K2 || !K3 || !KN || !K5 || !K6)) = EOK) := Lib.hid (by rw [HOK.out, h61.2]; simp [Bool.and_assoc])
     have HEND2 : Hid (seqS (!K1 || !K2 || !K3 || !KN || !K5 || !K6) (S0 ++ S1 ++ S2 ++ S3 ++ S4 ++ S5 ++ SXE) = R) := Lib.hid (by
      have := HEND.out
      rw [← h61.1, ← HOK2.out, Bool.not_not] at this
      exact this)
     have hxs : SXE.size ≤ 4598 := by rw [h61.1]; exact s6
     clear h61 HEND HOK H60 H61 h0
     go_wp2_with fail
     refine (HXS.out _ HB1.out).mono ?_
     rintro e w2 ⟨rfl, hb⟩
     have HB2 := Lib.hid (HB1.out.trans (hb.mono HB1.out.size))
     have HP2 := Lib.hid (HP1.out.keep hb)
     have HR2 := Lib.hid (HR1.out.below hb HR1.out.lt)
     clear hb HB1 HP1 HR1
     clear z6 HXS
     go_wp2_with fail
     refine (HXE.out _).mono ?_
     rintro e w3 ⟨rfl, hb⟩
     have HB3 := Lib.hid (HB2.out.trans (hb.mono HB2.out.size))
     have HP3 := Lib.hid (HP2.out.keep hb)
     have HR3 := Lib.hid (HR2.out.below hb HR2.out.lt)
     clear hb HB2 HP2 HR2
     clear HXE
     go_wp2_with fail
     refine (partsAdd_any (w.heap.size + 1) (w.heap.size + 1) _ _ _ _ w3 HP3.out (by simp only [ByteArray.size_append]; omega) (Nat.le_of_lt HP3.out.lt)).mono ?_
     rintro e w4 ⟨rfl, hP, hb⟩
     have HB4 := Lib.hid (HB3.out.trans (hb.mono (by omega)))
     have HP4 := Lib.hid hP
     have HR4 := Lib.hid (HR3.out.below hb (by omega))
     clear hP hb HB3 HP3 HR3
     have HQ := Lib.hid (encSeq_any (w.heap.size + 1) (w.heap.size + 1) (S0 ++ S1 ++ S2 ++ S3 ++ S4 ++ S5 ++ SXE) (!K1 || !K2 || !K3 || !KN || !K5 || !K6) w4 (HP4.out.as (⟨by first | with_reducible rfl | simp only [e_app], by first | rfl | simp⟩)) (by simp only [ByteArray.size_append]; omega) (Nat.le_of_lt HP4.out.lt))
     rw [HEND2.out, HOK2.out] at HQ
     clear HEND2 HOK2
     go_wp2_with fail
     refine HQ.out.mono ?_
     rintro e w5 ⟨rfl, hb⟩
     have HB5 := Lib.hid (HB4.out.trans (hb.mono (by omega)))
     clear hb HQ
     go_wp2
     go_returns
     exact ⟨rfl, HB5.out⟩
end Go.Proofs.YtiecbagejdcafaaGreatDoor
/- Package encode in the landed code: what is signed, and a list; its calls are what the laws need. Within the sizes that layer 19's statements name. -/
namespace Go.Proofs.YtiecbagejdcafaaGreatDoor
open Go.RowKit Go.PlainAid
set_option linter.unusedVariables false
set_option maxRecDepth 100000 in
set_option maxHeartbeats 8000000 in
theorem encHas_any (c : CrlV) (r : CrlR) (hs : c.Small) (w : World) (hc : CameCrl w c r) :
  Calls Tryz.prog 32 #[crlV c r] w fun e w' => e = .returned (.bool c.has) ∧ Below w.heap.size w w' := by
 have HOK : Hid (c.has = (!c.exts.isEmpty || c.entries.any (fun x => !x.exts.isEmpty))) := Lib.hid rfl
 have HC := Lib.hid hc.entries
 have HS := Lib.hid hs.entries
 have hen : (c.entries.length : Int) ≤ 12 := by have := hs.many; omega
 have hxn : (c.exts.length : Int) ≤ 10 := by have := hs.few; omega
 have H60 : Hid (c.exts.length = 0 → c.exts.isEmpty = true) := Lib.hid (fun h => by rw [List.length_eq_zero_iff.1 h]; rfl)
 have H61 : Hid (c.exts.length ≠ 0 → c.exts.isEmpty = false) := Lib.hid (fun h => by cases hx : c.exts with | nil => rw [hx] at h; exact absurd rfl h | cons _ _ => rfl)
 unfold crlV
 obtain ⟨oa, ca, oi, ci, oe, ce, ox, cx⟩ := r
 dsimp only at *
 clear hs hc
 generalize c.has = R at *
 generalize c.sig = sg at *
 generalize c.entries = l at *
 generalize c.exts.isEmpty = em at *
 generalize c.exts.length = nx at *
 generalize c.alg.length = na at *
 generalize c.issuer.length = ni at *
 generalize c.this = this at *
 generalize c.next = next at *
 generalize c.v2 = v2 at *
 have HR1 : Hid (Row (w.alloc (.cells #[.bool v2, .slice oa na ca, .slice oi ni ci, .string this, .string next, .slice oe l.length ce, .slice ox nx cx, .string sg] 27)) w.heap.size 27 [.bool v2, .slice oa na ca, .slice oi ni ci, .string this, .string next, .slice oe l.length ce, .slice ox nx cx, .string sg]) := Lib.hid (Row.new w _ [.bool v2, .slice oa na ca, .slice oi ni ci, .string this, .string next, .slice oe l.length ce, .slice ox nx cx, .string sg])
 have HB1 : Hid (Below w.heap.size w (w.alloc (.cells #[.bool v2, .slice oa na ca, .slice oi ni ci, .string this, .string next, .slice oe l.length ce, .slice ox nx cx, .string sg] 27))) := Lib.hid ((Below.refl _ _).alloc (Nat.le_refl _) _)
 go_enter Tryz.func32, Tryz.ntmps32
 go_upto_region 1 with (fail)
 generalize w.alloc (.cells #[.bool v2, .slice oa na ca, .slice oi ni ci, .string this, .string next, .slice oe l.length ce, .slice ox nx cx, .string sg] 27) = w1 at *
 have z6 : w1.cell? ⟨w.heap.size, 6, none⟩ = some (.slice ox nx cx) := HR1.out.cell 6
 by_cases h0 : nx = 0
 ·have hg0 : ¬ (0 : Int) < (nx : Int) := by omega
  have hem := H60.out h0
  have HOK2 : Hid (R = l.any (fun x => !x.exts.isEmpty)) := Lib.hid (by rw [HOK.out, hem]; rfl)
  have z5 : w1.cell? ⟨w.heap.size, 5, none⟩ = some (.slice oe l.length ce) := HR1.out.cell 5
  clear h0 hem H60 H61 HOK HR1
  go_wp2_with fail
  go_loopg [12] l.length (fun gk iv wr => ∃ (i : Nat), iv = .int .i64 (i : Int) ∧ i ≤ l.length ∧ l.length - i ≤ gk ∧ Hid ((l.take i).any (fun x => !x.exts.isEmpty) = false) ∧ Hid (Below w.heap.size w wr))
  case atStart => exact ⟨0, rfl, by omega, by omega, Lib.hid rfl, HB1⟩
  case round =>
   clear HB1 z5 z6
   obtain ⟨i, rfl, hi, hgk, HT, HB1⟩ := hrel
   obtain ⟨w1, hw1⟩ : ∃ x, x = wr := ⟨_, rfl⟩
   subst hw1
   by_cases hlt : i < l.length
   ·have hlt2 : (i : Int) < (l.length : Int) := by omega
    obtain ⟨ad, oo, co, ho, hX⟩ := HC.out.below HB1.out i hlt
    subst ho
    obtain ⟨k0, k1, k2, hexs, hcap2⟩ := hX
    have hxe : (l[i].exts.length : Int) ≤ 10 := by have := (HS.out _ (List.getElem_mem hlt)).many; omega
    have HAN : Hid ((l.take (i + 1)).any (fun x => !x.exts.isEmpty) = decide (0 < (l[i].exts.length : Int))) := Lib.hid (by
     rw [List.take_succ_eq_append_getElem hlt, List.any_append, HT.out, List.any_cons, List.any_nil, Bool.or_false, some_len, Bool.false_or])
    have HAL : Hid (0 < (l[i].exts.length : Int) → l.any (fun x => !x.exts.isEmpty) = true) := Lib.hid (fun h => List.any_eq_true.2 ⟨l[i], List.getElem_mem hlt, by rw [some_len]; exact decide_eq_true h⟩)
    replace k1 : w1.cell? ⟨(ad.add (i * 3)).block, (ad.add (i * 3)).off + 1, none⟩ = some (.string l[i].date) := k1
    replace k2 : w1.cell? ⟨(ad.add (i * 3)).block, (ad.add (i * 3)).off + 2, none⟩ = some (.slice oo l[i].exts.length co) := k2
    clear hexs hcap2 HT
    generalize l[i].serial = ser at *
    generalize l[i].date = dat at *
    generalize l[i].exts.length = xn at *
    have HB2 : Hid (Below w.heap.size w (w1.alloc (.cells #[.string ser, .string dat, .slice oo xn co] 49))) := Lib.hid (HB1.out.alloc HB1.out.size _)
    by_cases hx : (0 : Int) < (xn : Int)
    ·have HF : Hid (R = true) := Lib.hid (by rw [HOK2.out]; exact HAL.out hx)
     clear HAN HAL HOK2 HB1
     go_wp2
     go_returns
     rw [HF.out]
     exact ⟨rfl, HB2.out⟩
    ·have HTN : Hid ((l.take (i + 1)).any (fun x => !x.exts.isEmpty) = false) := Lib.hid (by rw [HAN.out]; exact decide_eq_false hx)
     clear HAN HAL HB1
     go_wp2_with fail
     go_roundg (l.length - (i + 1))
     case measure => omega
     case rel => exact ⟨i + 1, by simp, by omega, by omega, HTN, HB2⟩
   ·have hlt2 : ¬ (i : Int) < (l.length : Int) := by omega
    obtain rfl : i = l.length := by omega
    rw [List.take_length] at HT
    have HF : Hid (R = false) := Lib.hid (by rw [HOK2.out]; exact HT.out)
    clear HT HOK2 HC HS
    go_wp2
    go_returns
    rw [HF.out]
    exact ⟨rfl, HB1.out⟩
 ·have hg0 : (0 : Int) < (nx : Int) := by omega
  have HF : Hid (R = true) := Lib.hid (by rw [HOK.out, H61.out h0]; rfl)
  clear HOK H60 H61 HC HS h0
  go_wp2
  go_returns
  rw [HF.out]
  exact ⟨rfl, HB1.out⟩
set_option maxRecDepth 100000 in
set_option maxHeartbeats 8000000 in
theorem encTbs_any (c : CrlV) (r : CrlR) (hs : c.Small) (hf : c.Fits) (hcap : CrlCap c r) (w : World) (hT : Tab w) (hc : CameCrl w c r) :
  Calls Tryz.prog 13 #[crlV c r] w fun e w' => e = .returned (.tuple #[.string (tbsS c), .int .i64 (tbsE c)]) ∧ Below w.heap.size w w' := by
 have HSG := Lib.hid (fun W (hb : Below w.heap.size w W) => encSigned_any c r hs hf hcap W (hT.on hb) (hc.below hb))
 have HHS := Lib.hid (fun W (hb : Below w.heap.size w W) => encHas_any c r hs W (hc.below hb))
 have HBAD : Hid (c.valOk = false → tbsE c = 7 ∧ tbsS c = ⟨#[]⟩) := Lib.hid tbs_bad
 have HHAS : Hid (c.valOk = true → c.has = true → c.v2 = false → tbsE c = 8 ∧ tbsS c = ⟨#[]⟩) := Lib.hid tbs_has
 have HGOOD : Hid (c.valOk = true → ¬ (c.has = true ∧ c.v2 = false) → tbsE c = 0 ∧ tbsS c = sgnS c) := Lib.hid (fun h h1 => by
  obtain ⟨h2, h3⟩ := tbs_good h h1
  exact ⟨h2, by rw [h3]; unfold sgnS; rw [if_pos h]⟩)
 unfold crlV
 obtain ⟨oa, ca, oi, ci, oe, ce, ox, cx⟩ := r
 unfold crlV at HSG HHS
 dsimp only at *
 clear hs hf hcap hT hc
 generalize c.sig = sg at *
 generalize c.entries.length = ne at *
 generalize c.exts.length = nx at *
 generalize c.alg.length = na at *
 generalize c.issuer.length = ni at *
 generalize c.this = this at *
 generalize c.next = next at *
 generalize sgnS c = SG at *
 generalize tbsE c = TE at *
 generalize tbsS c = TS at *
 generalize c.valOk = VO at *
 generalize c.has = HA at *
 generalize c.v2 = v2 at *
 have HR1 : Hid (Row (w.alloc (.cells #[.bool v2, .slice oa na ca, .slice oi ni ci, .string this, .string next, .slice oe ne ce, .slice ox nx cx, .string sg] 27)) w.heap.size 27 [.bool v2, .slice oa na ca, .slice oi ni ci, .string this, .string next, .slice oe ne ce, .slice ox nx cx, .string sg]) := Lib.hid (Row.new w _ [.bool v2, .slice oa na ca, .slice oi ni ci, .string this, .string next, .slice oe ne ce, .slice ox nx cx, .string sg])
 have HB1 : Hid (Below w.heap.size w (w.alloc (.cells #[.bool v2, .slice oa na ca, .slice oi ni ci, .string this, .string next, .slice oe ne ce, .slice ox nx cx, .string sg] 27))) := Lib.hid ((Below.refl _ _).alloc (Nat.le_refl _) _)
 go_enter Tryz.func13, Tryz.ntmps13
 go_upto_region 1 with (fail)
 generalize w.alloc (.cells #[.bool v2, .slice oa na ca, .slice oi ni ci, .string this, .string next, .slice oe ne ce, .slice ox nx cx, .string sg] 27) = w1 at *
 have z0 : w1.cell? ⟨w.heap.size, 0, none⟩ = some (.bool v2) := HR1.out.cell 0
 have z1 : w1.cell? ⟨w.heap.size, 1, none⟩ = some (.slice oa na ca) := HR1.out.cell 1
 have z2 : w1.cell? ⟨w.heap.size, 2, none⟩ = some (.slice oi ni ci) := HR1.out.cell 2
 have z3 : w1.cell? ⟨w.heap.size, 3, none⟩ = some (.string this) := HR1.out.cell 3
 have z4 : w1.cell? ⟨w.heap.size, 4, none⟩ = some (.string next) := HR1.out.cell 4
 have z5 : w1.cell? ⟨w.heap.size, 5, none⟩ = some (.slice oe ne ce) := HR1.out.cell 5
 have z6 : w1.cell? ⟨w.heap.size, 6, none⟩ = some (.slice ox nx cx) := HR1.out.cell 6
 have z7 : w1.cell? ⟨w.heap.size, 7, none⟩ = some (.string sg) := HR1.out.cell 7
 go_wp2_with fail
 refine (HSG.out _ HB1.out).mono ?_
 rintro e w2 ⟨rfl, hb⟩
 have HB2 := Lib.hid (HB1.out.trans (hb.mono HB1.out.size))
 have HR2 := Lib.hid (HR1.out.below hb HR1.out.lt)
 clear hb HSG HB1 HR1 z0 z1 z2 z3 z4 z5 z6 z7
 have z0 : w2.cell? ⟨w.heap.size, 0, none⟩ = some (.bool v2) := HR2.out.cell 0
 have z1 : w2.cell? ⟨w.heap.size, 1, none⟩ = some (.slice oa na ca) := HR2.out.cell 1
 have z2 : w2.cell? ⟨w.heap.size, 2, none⟩ = some (.slice oi ni ci) := HR2.out.cell 2
 have z3 : w2.cell? ⟨w.heap.size, 3, none⟩ = some (.string this) := HR2.out.cell 3
 have z4 : w2.cell? ⟨w.heap.size, 4, none⟩ = some (.string next) := HR2.out.cell 4
 have z5 : w2.cell? ⟨w.heap.size, 5, none⟩ = some (.slice oe ne ce) := HR2.out.cell 5
 have z6 : w2.cell? ⟨w.heap.size, 6, none⟩ = some (.slice ox nx cx) := HR2.out.cell 6
 have z7 : w2.cell? ⟨w.heap.size, 7, none⟩ = some (.string sg) := HR2.out.cell 7
 clear HR2
 cases VO with
 |false =>
  have HF := Lib.hid (HBAD.out rfl)
  clear HBAD HHAS HGOOD HHS z0 z1 z2 z3 z4 z5 z6 z7
  go_wp2
  go_returns
  rw [HF.out.1, HF.out.2]
  exact ⟨rfl, HB2.out⟩
 |true =>
  cases v2 with
  |true =>
   have HF := Lib.hid (HGOOD.out rfl (fun h => by cases h.2))
   clear HBAD HHAS HGOOD HHS z1 z2 z3 z4 z5 z6 z7
   go_wp2
   go_returns
   rw [HF.out.1, HF.out.2]
   exact ⟨rfl, HB2.out⟩
  |false =>
   have HHS2 := Lib.hid (HHS.out _ HB2.out)
   cases HA with
   |true =>
    have HF := Lib.hid (HHAS.out rfl rfl rfl)
    clear HBAD HHAS HGOOD HHS
    go_wp2_with fail
    refine HHS2.out.mono ?_
    rintro e w3 ⟨rfl, hb⟩
    have HB3 := Lib.hid (HB2.out.trans (hb.mono HB2.out.size))
    clear hb HHS2 HB2 z0 z1 z2 z3 z4 z5 z6 z7
    go_wp2
    go_returns
    rw [HF.out.1, HF.out.2]
    exact ⟨rfl, HB3.out⟩
   |false =>
    have HF := Lib.hid (HGOOD.out rfl (fun h => by cases h.1))
    clear HBAD HHAS HGOOD HHS
    go_wp2_with fail
    refine HHS2.out.mono ?_
    rintro e w3 ⟨rfl, hb⟩
    have HB3 := Lib.hid (HB2.out.trans (hb.mono HB2.out.size))
    clear hb HHS2 HB2 z0 z1 z2 z3 z4 z5 z6 z7
    go_wp2
    go_returns
    rw [HF.out.1, HF.out.2]
    exact ⟨rfl, HB3.out⟩
theorem bits_zero (s : ByteArray) (h : s.size ≤ 1000000) : bpS 0 s = ⟨#[0]⟩ ++ s ∧ bpB 0 s = true := by
 have h : strOfNums [0] = ⟨#[0]⟩ := by decide +kernel
 refine ⟨(bp_whole s).2.trans ?_, (bp_whole s).1⟩
 unfold bpC one8
 rw [h]
set_option maxRecDepth 100000 in
set_option maxHeartbeats 8000000 in
theorem encEncode_any (c : CrlV) (r : CrlR) (hs : c.Small) (hf : c.Fits) (hcap : CrlCap c r) (w : World) (hT : Tab w) (hc : CameCrl w c r) :
  Calls Tryz.prog 11 #[crlV c r] w fun e w' => e = .returned (.tuple #[.string (crlS c), .int .i64 (tbsE c)]) ∧ Below w.heap.size w w' := by
 have HSG := Lib.hid (fun W (hb : Below w.heap.size w W) => encTbs_any c r hs hf hcap W (hT.on hb) (hc.below hb))
 have HHS := Lib.hid (fun W (hb : Below w.heap.size w W) => encAlg_any r.oa r.ca c.alg hs.alg hs.ain hcap.a W (hc.alg.below hb))
 have hsg := hs.sig
 have HBP := Lib.hid (bsPut_any 0 c.sig (by omega))
 rw [(bits_zero c.sig (by omega)).1] at HBP
 have HL3 := Lib.hid (encPrim_lf 3 (⟨#[0]⟩ ++ c.sig) (by decide) (by rw [ByteArray.size_append]; show 1 + c.sig.size ≤ 100000; omega))
 rw [bl_zero] at HL3
 have s3 : (encS (lf 3 (0 :: bl c.sig))).size ≤ 315 := by
  have h3 := (lf_len (t := 3) (C := 0 :: bl c.sig) (by decide) (by decide) (by rw [List.length_cons, bl_length]; omega)).2
  rw [List.length_cons, bl_length] at h3
  rw [encS_size]; omega
 have s1 := algS_le c.alg hs.alg hs.ain
 have HBAD : Hid (tbsE c ≠ 0 → crlS c = ⟨#[]⟩) := Lib.hid (fun h => by unfold crlS; rw [if_neg h])
 have HGOOD : Hid (tbsE c = 0 → (tbsS c).size ≤ 83367 ∧ elS 0 16 true (tbsS c ++ algS c.alg ++ encS (lf 3 (0 :: bl c.sig))) = crlS c) := Lib.hid (fun h => by
  have hv := tbsE_zero h
  have h1 := (CrlV.valOk_iff.1 hv).1
  have ht := (tbsF_len hs hv).2
  have hk := (crlK_len hs hv).2
  have e1 : tbsS c = encS (tbsF c) := by unfold tbsS; rw [if_pos h]
  have e2 : algS c.alg = encS (algF c.alg) := by unfold algS; rw [if_pos h1]
  have e3 : crlS c = encS (crlF c) := by unfold crlS; rw [if_pos h]
  rw [e1, e2, e3, ← crlF_enc]
  refine ⟨by rw [encS_size]; exact ht, ?_⟩
  rw [elS_node (by decide) _ (by rw [encS_size]; omega)]
  rfl)
 unfold crlV at *
 obtain ⟨oa, ca, oi, ci, oe, ce, ox, cx⟩ := r
 dsimp only at *
 clear hs hf hcap hT hc
 generalize encS (lf 3 (0 :: bl c.sig)) = S3 at *
 generalize bpB 0 c.sig = BB at *
 generalize ⟨#[0]⟩ ++ c.sig = SB at *
 generalize c.sig = sg at *
 generalize tbsE c = TE at *
 generalize tbsS c = TS at *
 generalize crlS c = CS at *
 generalize algS c.alg = S1 at *
 generalize arcsOk c.alg = K1 at *
 generalize c.entries.length = ne at *
 generalize c.exts.length = nx at *
 generalize c.alg.length = na at *
 generalize c.issuer.length = ni at *
 generalize c.this = this at *
 generalize c.next = next at *
 generalize c.v2 = v2 at *
 have HR1 : Hid (Row (w.alloc (.cells #[.bool v2, .slice oa na ca, .slice oi ni ci, .string this, .string next, .slice oe ne ce, .slice ox nx cx, .string sg] 27)) w.heap.size 27 [.bool v2, .slice oa na ca, .slice oi ni ci, .string this, .string next, .slice oe ne ce, .slice ox nx cx, .string sg]) := Lib.hid (Row.new w _ [.bool v2, .slice oa na ca, .slice oi ni ci, .string this, .string next, .slice oe ne ce, .slice ox nx cx, .string sg])
 have HB1 : Hid (Below w.heap.size w (w.alloc (.cells #[.bool v2, .slice oa na ca, .slice oi ni ci, .string this, .string next, .slice oe ne ce, .slice ox nx cx, .string sg] 27))) := Lib.hid ((Below.refl _ _).alloc (Nat.le_refl _) _)
 go_enter Tryz.func11, Tryz.ntmps11
 go_upto_region 1 with (fail)
 generalize w.alloc (.cells #[.bool v2, .slice oa na ca, .slice oi ni ci, .string this, .string next, .slice oe ne ce, .slice ox nx cx, .string sg] 27) = w1 at *
 have z0 : w1.cell? ⟨w.heap.size, 0, none⟩ = some (.bool v2) := HR1.out.cell 0
 have z1 : w1.cell? ⟨w.heap.size, 1, none⟩ = some (.slice oa na ca) := HR1.out.cell 1
 have z2 : w1.cell? ⟨w.heap.size, 2, none⟩ = some (.slice oi ni ci) := HR1.out.cell 2
 have z3 : w1.cell? ⟨w.heap.size, 3, none⟩ = some (.string this) := HR1.out.cell 3
 have z4 : w1.cell? ⟨w.heap.size, 4, none⟩ = some (.string next) := HR1.out.cell 4
 have z5 : w1.cell? ⟨w.heap.size, 5, none⟩ = some (.slice oe ne ce) := HR1.out.cell 5
 have z6 : w1.cell? ⟨w.heap.size, 6, none⟩ = some (.slice ox nx cx) := HR1.out.cell 6
 have z7 : w1.cell? ⟨w.heap.size, 7, none⟩ = some (.string sg) := HR1.out.cell 7
 go_wp2_with fail
 refine (HSG.out _ HB1.out).mono ?_
 rintro e w2 ⟨rfl, hb⟩
 have HB2 := Lib.hid (HB1.out.trans (hb.mono HB1.out.size))
 have HR2 := Lib.hid (HR1.out.below hb HR1.out.lt)
 clear hb HSG HB1 HR1 z0 z1 z2 z3 z4 z5 z6 z7
 by_cases h0 : TE = 0
 ·subst h0
  obtain ⟨sT, hC⟩ := HGOOD.out rfl
  have HQ := Lib.hid (encCons_any 16 (TS ++ S1 ++ S3) (by unfold InI; omega) (by rw [ByteArray.size_append, ByteArray.size_append]; omega))
  rw [hC] at HQ
  have o1 : ¬ 9223372036854775807 < TS.size + S1.size := by omega
  have o2 : ¬ 9223372036854775807 < (TS ++ S1).size + S3.size := by rw [ByteArray.size_append]; omega
  have z1 : w2.cell? ⟨w.heap.size, 1, none⟩ = some (.slice oa na ca) := HR2.out.cell 1
  clear HGOOD HBAD hC sT
  go_wp2_with fail
  refine (HHS.out _ HB2.out).mono ?_
  rintro e w3 ⟨rfl, hb⟩
  have HB3 := Lib.hid (HB2.out.trans (hb.mono HB2.out.size))
  have HR3 := Lib.hid (HR2.out.below hb HR2.out.lt)
  have z7 : w3.cell? ⟨w.heap.size, 7, none⟩ = some (.string sg) := HR3.out.cell 7
  clear hb HHS HB2 HR2 z1
  go_wp2_with fail
  refine (HBP.out _).mono ?_
  rintro e w4 ⟨rfl, hb⟩
  have HB4 := Lib.hid (HB3.out.trans (hb.mono HB3.out.size))
  clear hb HBP HB3 HR3 z7
  go_wp2_with fail
  refine (HL3.out _).mono ?_
  rintro e w5 ⟨rfl, hb⟩
  have HB5 := Lib.hid (HB4.out.trans (hb.mono HB4.out.size))
  clear hb HL3 HB4
  go_wp2_with fail
  refine (HQ.out _).mono ?_
  rintro e w6 ⟨rfl, hb⟩
  have HB6 := Lib.hid (HB5.out.trans (hb.mono HB5.out.size))
  clear hb HQ HB5
  go_wp2
  go_returns
  exact ⟨rfl, HB6.out⟩
 ·have hne : (TE != 0) = true := by simpa using h0
  have hcs := HBAD.out h0
  have HCS := Lib.hid hcs
  clear HBAD HGOOD h0 hcs HHS HL3 HBP HR2
  go_wp2
  go_returns
  rw [HCS.out]
  exact ⟨rfl, HB2.out⟩
theorem encSpec : EncSpec where
 element := fun c t k n0 b hc ht hb w => encElement_any c t k n0 b hc ht hb w
 name := fun oi ci l hl hs hf hcap w _ hc => encName_any oi ci l hl hs hf hcap w hc
 exts := fun ox cx l hl hs hcap w _ hc => encExts_any ox cx l hl hs hcap w hc
 tbs := fun c r hs hf hcap w hT hc => encTbs_any c r hs hf hcap w hT hc
 encode := fun c r hs hf hcap w hT hc => encEncode_any c r hs hf hcap w hT hc
end Go.Proofs.YtiecbagejdcafaaGreatDoor
