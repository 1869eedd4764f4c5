/- Layer 19's reference: its small functions (leaf, Seq, id, date). -/
import Derived.Test.YtiiimhamfibdbaaGreatF1
import Derived.Test.YtiiimhamfibdbaaGreatC1
import Derived.Test.YtiiimhamfibdbaaGreatT2
import Derived.Test.YtiiimhamfibdbaaGreatN1
import Derived.Deep.LoopGhost
import Derived.Deep.CutRange
import Derived.Deep.QuietTactic
import Derived.BigQuiet
namespace Go.Proofs.YtiiimhamfibdbaaGreat
open Go.RowKit Go.PlainAid
set_option linter.unusedVariables false
theorem encS_app (f s : Fo) : encS (f.app s) = encS f ++ encS s := by unfold encS; rw [Fo.enc_app, strOfNums_append]
theorem encS_nil : encS .nil = ⟨#[]⟩ := rfl
theorem encS_size (f : Fo) : (encS f).size = f.enc.length := by unfold encS; rw [strOfNums_size]
theorem hpS_of {c t : Int} {k : Bool} {n : Nat} (h : idOk c t = true) (hn : n ≤ 1000000000) : hpS c t k (n : Int) = strOfNums (hdPut c t k (n : Int)) := by
 unfold hpS
 rw [if_pos (by rw [hdOk_iff]; exact ⟨h, by rw [lenOk_iff]; omega⟩)]
theorem encS_lf (t : Int) (s : ByteArray) : encS (lf t (bl s)) = strOfNums (hdPut 0 t false (s.size : Int)) ++ s := by
 unfold encS lf
 show strOfNums (hdPut 0 t false ((bl s).length : Int) ++ bl s ++ []) = _
 rw [List.append_nil, strOfNums_append, str_bl, bl_length]
theorem encS_node (c t : Int) (k : Fo) : encS (.node c t k .nil) = strOfNums (hdPut c t true ((encS k).size : Int)) ++ encS k := by
 rw [encS_size]
 unfold encS
 show strOfNums (hdPut c t true (k.enc.length : Int) ++ k.enc ++ []) = _
 rw [List.append_nil, strOfNums_append]
theorem encS_leaf (t : Int) (C : List Int) (r : Fo) : encS (.leaf 0 t C r) = encS (lf t C) ++ encS r := by
 unfold encS lf
 show strOfNums (hdPut 0 t false (C.length : Int) ++ C ++ r.enc) = strOfNums (hdPut 0 t false (C.length : Int) ++ C ++ []) ++ _
 rw [List.append_nil, strOfNums_append]
theorem opS_bl {l : List Int} (h : arcsOk l = true) : bl (opS l) = oL l := by rw [opS_ok h, bl_str (oL_isB l)]
theorem opS_size (l : List Int) (hl : l.length ≤ 20) (hi : ∀ y ∈ l, inK .u64 y) : (opS l).size ≤ 200 := by
 cases h : arcsOk l with
 |true => rw [← bl_length, opS_bl h]; exact oL_le h hl hi
 |false => rw [opS_bad h]; exact Nat.zero_le _
theorem refLeaf19_any (t : Int) (s : ByteArray) (ht : 0 ≤ t ∧ t ≤ 268435455) (hs : s.size ≤ 100000) (w : World) :
  Calls Tryz.prog 29 #[.int .i64 t, .string s] w fun e w' => e = .returned (.string (encS (lf t (bl s)))) ∧ Below w.heap.size w w' := by
 have HE := Lib.hid (refElement_any 0 t false 0 s hs)
 have HF : Hid (hpS 0 t false (s.size : Int) ++ s = encS (lf t (bl s))) := Lib.hid (by rw [encS_lf, hpS_of (idOk_leaf ht.1 ht.2) (by omega)])
 rw [HF.out] at HE
 generalize encS (lf t (bl s)) = R at *
 clear HF
 go_enter Tryz.func29, Tryz.ntmps29
 go_wp2_with fail
 refine (HE.out _).mono ?_
 rintro e w1 ⟨rfl, hb⟩
 clear HE
 go_wp2
 go_returns
 exact ⟨rfl, hb⟩
theorem refSeq_any (k : Fo) (hs : k.enc.length ≤ 100000) (w : World) :
  Calls Tryz.prog 28 #[.string (encS k)] w fun e w' => e = .returned (.string (encS (sq k))) ∧ Below w.heap.size w w' := by
 have hz := encS_size k
 have HE := Lib.hid (refElement_any 0 16 true 0 (encS k) (by omega))
 have HF : Hid (hpS 0 16 true ((encS k).size : Int) ++ encS k = encS (sq k)) := Lib.hid (by unfold sq; rw [encS_node, hpS_of (by decide) (by omega)])
 rw [HF.out] at HE
 generalize encS (sq k) = R at *
 generalize encS k = s at *
 clear HF hz
 go_enter Tryz.func28, Tryz.ntmps28
 go_wp2_with fail
 refine (HE.out _).mono ?_
 rintro e w1 ⟨rfl, hb⟩
 clear HE
 go_wp2
 go_returns
 exact ⟨rfl, hb⟩
theorem refId_any (o : Option Addr) (c : Nat) (l : List Int) (hl : l.length ≤ 20) (hin : ∀ x ∈ l, inK .u64 x) (w : World) (hc : Came w o (ivs .u64 l)) :
  Calls Tryz.prog 27 #[.slice o l.length c] w fun e w' => e = .returned (.tuple #[.string (encS (lf 6 (bl (opS l)))), .bool (arcsOk l)]) ∧ Below w.heap.size w w' := by
 have HP := Lib.hid (refOidPut_any o c l (by omega) hin w hc)
 have HL := Lib.hid (refLeaf19_any 6 (opS l) (by decide) (by have := opS_size l hl hin; omega))
 generalize encS (lf 6 (bl (opS l))) = R at *
 generalize opS l = s at *
 generalize arcsOk l = ok at *
 clear hc hin
 go_enter Tryz.func27, Tryz.ntmps27
 go_wp2_with fail
 refine HP.out.mono ?_
 rintro e w1 ⟨rfl, hb⟩
 have HB := Lib.hid hb
 clear hb HP
 go_wp2_with fail
 refine (HL.out _).mono ?_
 rintro e w2 ⟨rfl, hb2⟩
 have hB := HB.out.trans (hb2.mono HB.out.size)
 clear hb2 HB HL
 go_wp2
 go_returns
 exact ⟨rfl, hB⟩
theorem refDate19_any (s : ByteArray) (hs : s.size ≤ 1000) (w : World) :
  Calls Tryz.prog 44 #[.string s] w fun e w' => e = .returned (.tuple #[.string (if wOk s = true then encS (dateF s) else ⟨#[]⟩), .bool (wOk s)]) ∧ Below w.heap.size w w' := by
 have HD := Lib.hid (refDate_any s (by omega) w)
 have hb9 : (s.size : Int) ≤ 1000 := by omega
 by_cases hd : dateP (bl s)
 ·have h14 : s.size = 14 := by rw [← bl_length]; exact hd.1
  have hl1 := less_1950 s hd
  have hl2 := less_2050d s hd
  rw [decide_eq_true hd] at HD
  by_cases h19 : yr (bl s) < 1950
  ·have hw : wOk s = false := by unfold wOk; rw [decide_eq_false]; omega
   rw [hw]
   rw [decide_eq_true h19] at hl1
   clear hl2
   go_enter Tryz.func44, Tryz.ntmps44
   go_wp2_with fail
   refine HD.out.mono ?_
   rintro e w1 ⟨rfl, rfl⟩
   go_wp2
   go_returns
   exact ⟨rfl, Below.refl _ _⟩
  ·have hw : wOk s = true := by rw [wOk_iff]; exact ⟨hd, by omega⟩
   rw [hw, if_pos rfl]
   rw [decide_eq_false h19] at hl1
   by_cases h20 : yr (bl s) < 2050
   ·have ht : wTag s = 23 := by unfold wTag; rw [if_pos h20]
    have hc : wC s = s.extract 2 14 ++ ⟨#[90]⟩ := by unfold wC; rw [if_pos h20]
    have HL := Lib.hid (refLeaf19_any 23 (s.extract 2 14 ++ ⟨#[90]⟩) (by decide) (by rw [← hc, (w_put hw).2.2]; split <;> omega))
    have HR : Hid (encS (dateF s) = encS (lf 23 (bl (s.extract 2 14 ++ ⟨#[90]⟩)))) := Lib.hid (by unfold dateF; rw [ht, hc])
    rw [HR.out]
    rw [decide_eq_true h20] at hl2
    have hov : ¬ 9223372036854775807 < (s.extract 2 14).size + (⟨#[90]⟩ : ByteArray).size := by rw [ByteArray.size_extract]; show ¬ 9223372036854775807 < min 14 s.size - 2 + 1; omega
    generalize encS (lf 23 (bl (s.extract 2 14 ++ ⟨#[90]⟩))) = R at *
    have h14i : (s.size : Int) = 14 := by omega
    clear HR ht hc hd hb9 h20 h19 hs
    go_enter Tryz.func44, Tryz.ntmps44
    go_wp2_with fail
    refine HD.out.mono ?_
    rintro e w1 ⟨rfl, rfl⟩
    go_wp2_with fail
    refine (HL.out _).mono ?_
    rintro e w2 ⟨rfl, hb2⟩
    clear HL
    go_wp2
    go_returns
    exact ⟨rfl, hb2⟩
   ·have ht : wTag s = 24 := by unfold wTag; rw [if_neg h20]
    have hc : wC s = s ++ ⟨#[90]⟩ := by unfold wC; rw [if_neg h20]
    have HL := Lib.hid (refLeaf19_any 24 (s ++ ⟨#[90]⟩) (by decide) (by rw [← hc, (w_put hw).2.2]; split <;> omega))
    have HR : Hid (encS (dateF s) = encS (lf 24 (bl (s ++ ⟨#[90]⟩)))) := Lib.hid (by unfold dateF; rw [ht, hc])
    rw [HR.out]
    rw [decide_eq_false h20] at hl2
    have hov : ¬ 9223372036854775807 < s.size + (⟨#[90]⟩ : ByteArray).size := by show ¬ 9223372036854775807 < s.size + 1; omega
    generalize encS (lf 24 (bl (s ++ ⟨#[90]⟩))) = R at *
    clear HR ht hc hd hb9 h20 h19 hs h14
    go_enter Tryz.func44, Tryz.ntmps44
    go_wp2_with fail
    refine HD.out.mono ?_
    rintro e w1 ⟨rfl, rfl⟩
    go_wp2_with fail
    refine (HL.out _).mono ?_
    rintro e w2 ⟨rfl, hb2⟩
    clear HL
    go_wp2
    go_returns
    exact ⟨rfl, hb2⟩
 ·have hw : wOk s = false := by unfold wOk; rw [decide_eq_false]; exact fun h => hd h.1
  rw [hw]
  rw [decide_eq_false hd] at HD
  go_enter Tryz.func44, Tryz.ntmps44
  go_wp2_with fail
  refine HD.out.mono ?_
  rintro e w1 ⟨rfl, rfl⟩
  go_wp2
  go_returns
  exact ⟨rfl, Below.refl _ _⟩
end Go.Proofs.YtiiimhamfibdbaaGreat
/- Layer 19's reference: extensions, and an entry. -/
namespace Go.Proofs.YtiiimhamfibdbaaGreat
open Go.RowKit Go.PlainAid
set_option linter.unusedVariables false
theorem refSeq_is (k : Fo) {s : ByteArray} (h : encS k = s) (hs : k.enc.length ≤ 100000) (w : World) :
  Calls Tryz.prog 28 #[.string s] w fun e w' => e = .returned (.string (encS (sq k))) ∧ Below w.heap.size w w' := by subst h; exact refSeq_any k hs w
theorem str_e (s : ByteArray) : s ++ (⟨#[]⟩ : ByteArray) = s := bl_inj (by rw [bl_append]; exact List.append_nil _)
theorem e_str (s : ByteArray) : (⟨#[]⟩ : ByteArray) ++ s = s := bl_inj (by rw [bl_append]; rfl)
theorem joinF_append (l m : List Fo) : joinF (l ++ m) = (joinF l).app (joinF m) := by
 induction l with
 |nil => rfl
 |cons f l ih =>
  show f.app (joinF (l ++ m)) = (f.app (joinF l)).app (joinF m)
  rw [ih]
  have : ∀ a b c : Fo, a.app (b.app c) = (a.app b).app c := by
   intro a
   induction a with
   |nil => intro b c; rfl
   |leaf c' t C r ih => intro b c; show Fo.leaf c' t C (r.app (b.app c)) = Fo.leaf c' t C ((r.app b).app c); rw [ih]
   |node c' t k r _ ih => intro b c; show Fo.node c' t k (r.app (b.app c)) = Fo.node c' t k ((r.app b).app c); rw [ih]
  exact this _ _ _
theorem join_snoc (l : List Fo) (f : Fo) : encS (joinF (l ++ [f])) = encS (joinF l) ++ encS f := by
 rw [joinF_append, encS_app]
 show _ ++ encS (f.app .nil) = _
 rw [app_nil]
theorem take_all {α : Type} {l : List α} {i : Nat} (h : i < l.length) (p : α → Bool) : (l.take (i + 1)).all p = ((l.take i).all p && p l[i]) := by
 rw [List.take_succ_eq_append_getElem h, List.all_append]; simp
theorem all_false {α : Type} {l : List α} {i : Nat} (h : i < l.length) {p : α → Bool} (hp : p l[i] = false) : l.all p = false := by
 rw [Bool.eq_false_iff]
 intro h'
 rw [List.all_eq_true] at h'
 rw [h' _ (List.getElem_mem h)] at hp
 cases hp
theorem join_len_take {α : Type} (F : α → Fo) (l : List α) (i n m : Nat) (h : ∀ x ∈ l.take i, (F x).enc.length ≤ n) (hl : l.length ≤ m) : (encS (joinF ((l.take i).map F))).size ≤ m * n := by
 rw [encS_size]
 exact join_len _ n m (fun f hf => by obtain ⟨x, hx, rfl⟩ := List.mem_map.1 hf; exact h x hx) (by rw [List.length_map, List.length_take]; omega)
set_option maxRecDepth 100000 in
set_option maxHeartbeats 8000000 in
theorem refExts_any (ox : Option Addr) (cx : Nat) (l : List ExtV) (hl : l.length ≤ 10) (hs : ∀ x ∈ l, x.Small) (hcx : l.length ≤ cx ∧ cx ≤ maxLen) (w : World) (hc : CameExts w ox l) :
  Calls Tryz.prog 46 #[.slice ox l.length cx] w fun e w' => e = .returned (.tuple #[.string (extsS l), .bool (extsOk l)]) ∧ Below w.heap.size w w' := by
 have HC := Lib.hid hc
 have HS := Lib.hid hs
 clear hc hs
 by_cases h0 : l.length = 0
 ·have hz : ((l.length : Int) == 0) = true := by simp; exact List.length_eq_zero_iff.1 h0
  have he : extsOk l = false := by rw [List.length_eq_zero_iff.1 h0]; rfl
  have hS : extsS l = ⟨#[]⟩ := by unfold extsS; rw [he]; rfl
  rw [hS, he]
  clear h0 he hS
  go_enter Tryz.func46, Tryz.ntmps46
  go_wp2
  go_returns
  exact ⟨rfl, Below.refl _ _⟩
 ·have hz : ((l.length : Int) == 0) = false := by simp; intro h; rw [h] at h0; exact h0 rfl
  have HNE : Hid (l.isEmpty = false) := Lib.hid (by cases l with | nil => exact absurd rfl h0 | cons _ _ => rfl)
  have HOK : Hid (l.all extOk = true → extsOk l = true ∧ extsS l = encS (extsF l)) := Lib.hid (fun h => by
   have : extsOk l = true := by unfold extsOk; rw [HNE.out, h]; rfl
   exact ⟨this, by unfold extsS; rw [if_pos this]⟩)
  have HNO : Hid (l.all extOk = false → extsOk l = false ∧ extsS l = ⟨#[]⟩) := Lib.hid (fun h => by
   have : extsOk l = false := by unfold extsOk; rw [h, Bool.and_false]
   exact ⟨this, by unfold extsS; rw [this]; rfl⟩)
  have hl9 : (l.length : Int) ≤ 10 := by omega
  generalize extsOk l = OK at *
  generalize extsS l = RS at *
  clear h0 HNE
  go_enter Tryz.func46, Tryz.ntmps46
  go_wp2_with fail
  go_loopg [4, 5] l.length (fun gk ov iv wr => ∃ (i : Nat) (o : ByteArray), ov = .string o ∧ iv = .int .i64 (i : Int) ∧ i ≤ l.length ∧ l.length - i ≤ gk ∧ o.size ≤ 4570 ∧ Hid (o = encS (joinF ((l.take i).map extF))) ∧ Hid ((l.take i).all extOk = true) ∧ Hid (Below w.heap.size w wr))
  case atStart => exact ⟨0, _, rfl, rfl, by omega, by omega, Nat.zero_le _, Lib.hid rfl, Lib.hid rfl, Lib.hid (Below.refl _ _)⟩
  case round =>
   obtain ⟨i, o, rfl, rfl, hi, hgk, hos, HO, HT, HB⟩ := hrel
   by_cases hlt : i < l.length
   ·have hlt2 : (i : Int) < (l.length : Int) := by omega
    obtain ⟨ad, oo, co, ho, hX⟩ := HC.out.below HB.out i hlt
    subst ho
    have hsm := HS.out l[i] (List.getElem_mem hlt)
    have HT2 := Lib.hid (take_all hlt extOk)
    rw [HT.out] at HT2
    have HAF : Hid (extOk l[i] = false → l.all extOk = false) := Lib.hid (fun h => all_false hlt h)
    have HTK : Hid (encS (joinF ((l.take (i + 1)).map extF)) = encS (joinF ((l.take i).map extF)) ++ encS (extF l[i])) := Lib.hid (by rw [List.take_succ_eq_append_getElem hlt, List.map_append, List.map_cons, List.map_nil, join_snoc])
    have HLT : Hid (extOk l[i] = true → (encS (joinF ((l.take (i + 1)).map extF))).size ≤ 4570) := Lib.hid (fun h => join_len_take extF l (i + 1) 457 10 (fun x hx => extF_len (HS.out x (List.mem_of_mem_take hx)) (List.all_eq_true.1 (show (l.take (i + 1)).all extOk = true by rw [HT2.out, h]; rfl) x hx)) hl)
    have hbw := HB.out
    obtain ⟨k0, k1, k2, hoid, hcap⟩ := hX
    have HID := Lib.hid (fun W (hb : Below wr.heap.size wr W) => refId_any oo co l[i].oid hsm.oid hsm.oin W (hoid.below hb))
    have K1 := Lib.hid k1
    have K2 := Lib.hid k2
    have hval := hsm.val
    have hol : extOk l[i] = true → (oL l[i].oid).length ≤ 200 := fun h => oL_le h hsm.oid hsm.oin
    have HX : Hid (l[i] = ⟨l[i].oid, l[i].crit, l[i].val⟩) := Lib.hid rfl
    clear k1 k2 hoid hcap hsm
    generalize hx : l[i] = x at *
    obtain ⟨oid, crit, val⟩ := x
    replace k0 : wr.cell? (ad.add (i * 3)) = some (.slice oo oid.length co) := k0
    replace K1 : Hid (wr.cell? ⟨(ad.add (i * 3)).block, (ad.add (i * 3)).off + 1, none⟩ = some (.bool crit)) := K1
    replace K2 : Hid (wr.cell? ⟨(ad.add (i * 3)).block, (ad.add (i * 3)).off + 2, none⟩ = some (.string val)) := K2
    replace hval : val.size ≤ 200 := hval
    replace HID : Hid (∀ W (hb : Below wr.heap.size wr W), Calls Tryz.prog 27 #[.slice oo oid.length co] W fun e w' => e = .returned (.tuple #[.string (encS (lf 6 (bl (opS oid)))), .bool (arcsOk oid)]) ∧ Below W.heap.size W w') := HID
    have hv9 : (val.size : Int) ≤ 200 := by omega
    clear hx HX
    cases hok : arcsOk oid with
    |false =>
     have hno := HNO.out (HAF.out hok)
     have HF := Lib.hid hno
     clear HAF HTK HLT HT2 hol hno HOK HNO HT HO HS
     go_wp2_with fail
     refine (HID.out _ (Below.refl _ _)).mono ?_
     rintro e w1 ⟨rfl, hb1⟩
     rw [hok]
     have HB1 := Lib.hid (HB.out.trans (hb1.mono HB.out.size))
     clear hb1 HID hbw
     go_wp2
     go_returns
     rw [HF.out.1, HF.out.2]
     exact ⟨rfl, HB1.out⟩
    |true =>
     have hol : (oL oid).length ≤ 200 := hol hok
     have hop : bl (opS oid) = oL oid := opS_bl hok
     have HE : Hid (extF ⟨oid, crit, val⟩ = sq (.leaf 0 6 (oL oid) ((if crit = true then lf 1 [255] else .nil).app (lf 4 (bl val))))) := Lib.hid rfl
     have HEx : Hid (encS (.leaf 0 6 (oL oid) ((if crit = true then lf 1 [255] else .nil).app (lf 4 (bl val)))) = encS (lf 6 (oL oid)) ++ encS (if crit = true then lf 1 [255] else .nil) ++ encS (lf 4 (bl val))) := Lib.hid (by rw [encS_leaf, encS_app, ByteArray.append_assoc])
     have s6 : (encS (lf 6 (oL oid))).size ≤ 214 := by rw [encS_size]; have := (lf_len (t := 6) (C := oL oid) (by decide) (by decide) (by omega)).2; omega
     have s4 : (encS (lf 4 (bl val))).size ≤ 214 := by rw [encS_size]; have := (lf_len (t := 4) (C := bl val) (by decide) (by decide) (by rw [bl_length]; omega)).2; rw [bl_length] at this; omega
     have s1 : (encS (lf 1 [255])).size ≤ 15 := by rw [encS_size]; exact (lf_len (t := 1) (C := [255]) (by decide) (by decide) (by decide)).2
     have HLT2 := HLT.out hok
     rw [HTK.out, ← HO.out] at HLT2
     have HTN : Hid ((l.take (i + 1)).all extOk = true) := Lib.hid (by rw [HT2.out]; exact hok)
     have HL4 := Lib.hid (refLeaf19_any 4 val (by decide) (by omega))
     have HL1 := Lib.hid (refLeaf19_any 1 ⟨#[255]⟩ (by decide) (by decide +kernel))
     have HSL : (Fo.leaf 0 6 (oL oid) ((if crit = true then lf 1 [255] else .nil).app (lf 4 (bl val)))).enc.length ≤ 100000 := by
      rw [← encS_size, HEx.out, ByteArray.size_append, ByteArray.size_append]
      have : (encS (if crit = true then lf 1 [255] else Fo.nil)).size ≤ 15 := by split; exact s1; exact Nat.zero_le _
      omega
     have HSQ := Lib.hid (fun s (h : encS (.leaf 0 6 (oL oid) ((if crit = true then lf 1 [255] else .nil).app (lf 4 (bl val)))) = s) => refSeq_is _ h HSL)
     rw [← HE.out] at HSQ
     have e255 : bl ⟨#[255]⟩ = [255] := rfl
     rw [hop] at HID
     rw [e255] at HL1
     clear HE HLT HAF HT HT2 hop e255 HNO HSL HS
     generalize encS (lf 6 (oL oid)) = S6 at *
     generalize encS (lf 4 (bl val)) = S4 at *
     generalize hS1 : encS (lf 1 [255]) = S1 at *
     generalize hEX : encS (extF ⟨oid, crit, val⟩) = SX at *
     have h1 : ¬ 9223372036854775807 < o.size + SX.size := by rw [ByteArray.size_append] at HLT2; omega
     clear hEX
     cases crit with
     |false =>
      have h2 : ¬ 9223372036854775807 < S6.size + S4.size := by omega
      have hj : encS (Fo.leaf 0 6 (oL oid) ((if false = true then lf 1 [255] else Fo.nil).app (lf 4 (bl val)))) = S6 ++ S4 := by
       rw [HEx.out, if_neg (by decide), encS_nil, str_e]
      have HQ := Lib.hid (HSQ.out _ hj)
      clear hj HEx HSQ HL1 s1 hS1
      go_wp2_with fail
      refine (HID.out _ (Below.refl _ _)).mono ?_
      rintro e w1 ⟨rfl, hb1⟩
      rw [hok]
      have p1 := cell_keep K1.out hb1
      have p2 := cell_keep K2.out hb1
      have HB1 := Lib.hid (HB.out.trans (hb1.mono HB.out.size))
      clear hb1 HID hbw K1 K2 k0
      go_wp2_with fail
      refine (HL4.out _).mono ?_
      rintro e w2 ⟨rfl, hb2⟩
      have HB2 := Lib.hid (HB1.out.trans (hb2.mono HB1.out.size))
      clear hb2 HB1 HL4 p1 p2
      go_wp2_with fail
      refine (HQ.out _).mono ?_
      rintro e w3 ⟨rfl, hb3⟩
      have HB3 := Lib.hid (HB2.out.trans (hb3.mono HB2.out.size))
      clear hb3 HB2 HQ
      go_wp2_with fail
      go_roundg (l.length - (i + 1))
      case measure => omega
      case rel => exact ⟨i + 1, _, rfl, by simp, by omega, by omega, HLT2, Lib.hid (by rw [HTK.out, HO.out]), HTN, HB3⟩
     |true =>
      have h2 : ¬ 9223372036854775807 < S6.size + S1.size := by omega
      have h3 : ¬ 9223372036854775807 < (S6 ++ S1).size + S4.size := by rw [ByteArray.size_append]; omega
      have hj : encS (Fo.leaf 0 6 (oL oid) ((if true = true then lf 1 [255] else Fo.nil).app (lf 4 (bl val)))) = S6 ++ S1 ++ S4 := by
       rw [HEx.out, if_pos rfl, hS1]
      have HQ := Lib.hid (HSQ.out _ hj)
      clear hj HEx HSQ hS1
      go_wp2_with fail
      refine (HID.out _ (Below.refl _ _)).mono ?_
      rintro e w1 ⟨rfl, hb1⟩
      rw [hok]
      have p1 := cell_keep K1.out hb1
      have P2 := Lib.hid (cell_keep K2.out hb1)
      have HB1 := Lib.hid (HB.out.trans (hb1.mono HB.out.size))
      clear hb1 HID hbw K1 K2 k0
      go_wp2_with fail
      refine (HL1.out _).mono ?_
      rintro e w2 ⟨rfl, hb2⟩
      have p2 := cell_keep P2.out hb2
      have HB2 := Lib.hid (HB1.out.trans (hb2.mono HB1.out.size))
      clear hb2 HB1 HL1 p1 P2
      go_wp2_with fail
      refine (HL4.out _).mono ?_
      rintro e w4 ⟨rfl, hb4⟩
      have HB4 := Lib.hid (HB2.out.trans (hb4.mono HB2.out.size))
      clear hb4 HB2 HL4 p2
      go_wp2_with fail
      refine (HQ.out _).mono ?_
      rintro e w3 ⟨rfl, hb3⟩
      have HB3 := Lib.hid (HB4.out.trans (hb3.mono HB4.out.size))
      clear hb3 HB4 HQ
      go_wp2_with fail
      go_roundg (l.length - (i + 1))
      case measure => omega
      case rel => exact ⟨i + 1, _, rfl, by simp, by omega, by omega, HLT2, Lib.hid (by rw [HTK.out, HO.out]), HTN, HB3⟩
   ·have hlt2 : ¬ (i : Int) < (l.length : Int) := by omega
    have hall : l.all extOk = true := by have := HT.out; rw [List.take_of_length_le (by omega)] at this; exact this
    have HF := Lib.hid (HOK.out hall)
    have hjn : encS (joinF (l.map extF)) = o := by rw [HO.out, List.take_of_length_le (by omega)]
    have HQ := Lib.hid (refSeq_is (joinF (l.map extF)) hjn (by rw [← encS_size, hjn]; omega))
    clear hall hjn HO HT HNO HOK HC HS
    go_wp2_with fail
    refine (HQ.out _).mono ?_
    rintro e w3 ⟨rfl, hb3⟩
    have HB3 := Lib.hid (HB.out.trans (hb3.mono HB.out.size))
    clear hb3 HB HQ
    go_wp2
    go_returns
    rw [HF.out.1, HF.out.2]
    exact ⟨rfl, HB3.out⟩
end Go.Proofs.YtiiimhamfibdbaaGreat
/- Layer 19's reference: an entry. -/
namespace Go.Proofs.YtiiimhamfibdbaaGreat
open Go.RowKit Go.PlainAid
set_option linter.unusedVariables false
def entryS (x : EntryV) : ByteArray := if entryOk x = true then encS (entryF x) else ⟨#[]⟩
set_option maxRecDepth 100000 in
set_option maxHeartbeats 8000000 in
theorem refEntry_any (x : EntryV) (oo : Option Addr) (co : Nat) (hs : x.Small) (hcx : x.exts.length ≤ co ∧ co ≤ maxLen) (w : World) (hc : CameExts w oo x.exts) :
  Calls Tryz.prog 45 #[.agg #[.string x.serial, .string x.date, .slice oo x.exts.length co]] w fun e w' => e = .returned (.tuple #[.string (entryS x), .bool (entryOk x)]) ∧ Below w.heap.size w w' := by
 have h1 := hs.serial
 have h2 := hs.date
 have h3 := hs.many
 have HX := Lib.hid (fun W (hb : Below w.heap.size w W) => refExts_any oo co x.exts hs.many hs.exts hcx W (hc.below hb))
 have HK0 : Hid (Row (w.alloc (.cells [Value.string x.serial, .string x.date, .slice oo x.exts.length co].toArray 79)) w.heap.size 79 [.string x.serial, .string x.date, .slice oo x.exts.length co]) := Lib.hid (Row.new w _ _)
 have HB0 : Hid (Below w.heap.size w (w.alloc (.cells [Value.string x.serial, .string x.date, .slice oo x.exts.length co].toArray 79))) := Lib.hid ((Below.refl _ _).alloc (Nat.le_refl _) _)
 have HN := Lib.hid (refNumInt_any 2 x.serial.size x.serial (by unfold maxLen; omega) (by omega) (.inl rfl))
 have HD := Lib.hid (refDate19_any x.date (by omega))
 have HL := Lib.hid (refLeaf19_any 2 x.serial (by decide) (by omega))
 have HOK : Hid (entryOk x = (serOk x.serial && wOk x.date && (x.exts.isEmpty || extsOk x.exts))) := Lib.hid rfl
 have HSER : Hid (serOk x.serial = decide (0 < x.serial.size ∧ nmWrong 2 x.serial.size x.serial = -1)) := Lib.hid rfl
 have HYES : Hid (entryOk x = true → entryS x = encS (entryF x)) := Lib.hid (fun h => by unfold entryS; rw [if_pos h])
 have HNO : Hid (entryOk x = false → entryS x = ⟨#[]⟩) := Lib.hid (fun h => by unfold entryS; rw [h]; rfl)
 have HEF : Hid (encS (entryF x) = encS (sq (.leaf 0 2 (bl x.serial) ((dateF x.date).app (if x.exts.isEmpty = true then .nil else extsF x.exts))))) := Lib.hid rfl
 have HIN : Hid (encS (.leaf 0 2 (bl x.serial) ((dateF x.date).app (if x.exts.isEmpty = true then .nil else extsF x.exts))) = encS (lf 2 (bl x.serial)) ++ encS (dateF x.date) ++ encS (if x.exts.isEmpty = true then Fo.nil else extsF x.exts)) := Lib.hid (by rw [encS_leaf, encS_app, ByteArray.append_assoc])
 have sL : (encS (lf 2 (bl x.serial))).size ≤ 74 := by rw [encS_size]; have := (lf_len (t := 2) (C := bl x.serial) (by decide) (by decide) (by rw [bl_length]; omega)).2; rw [bl_length] at this; omega
 have HSD : Hid (wOk x.date = true → (encS (dateF x.date)).size ≤ 29) := Lib.hid (fun h => by rw [encS_size]; exact dateF_len h)
 have HSX : Hid (extsOk x.exts = true → extsS x.exts = encS (extsF x.exts) ∧ (encS (extsF x.exts)).size ≤ 4584) := Lib.hid (fun h => ⟨by unfold extsS; rw [if_pos h], by rw [encS_size]; exact extsF_len hs.many hs.exts h⟩)
 have HEM : Hid (x.exts.isEmpty = decide (x.exts.length = 0)) := Lib.hid (by cases x.exts <;> simp)
 have HSQ := Lib.hid (fun s (h : encS (.leaf 0 2 (bl x.serial) ((dateF x.date).app (if x.exts.isEmpty = true then .nil else extsF x.exts))) = s) hl => refSeq_is _ h hl)
 rw [← HEF.out] at HSQ
 have hsi : (x.serial.size : Int) ≤ 60 := by omega
 have hdi : (x.date.size : Int) ≤ 50 := by omega
 have hxi : (x.exts.length : Int) ≤ 10 := by omega
 generalize encS (entryF x) = RS at *
 generalize entryS x = ES at *
 generalize entryOk x = OK at *
 generalize hsv : x.serial = sv at *
 generalize hdv : x.date = dv at *
 generalize x.exts = xs at *
 clear hs hc hsv hdv HEF
 have go_no : ∀ W : World, OK = false → True := fun _ _ => trivial
 clear go_no
 by_cases h0 : sv.size = 0
 ·have hz : ((sv.size : Int) == 0) = true := by rw [h0]; rfl
  have ho : OK = false := by rw [HOK.out, HSER.out, decide_eq_false (by omega)]; rfl
  have hE := HNO.out ho
  rw [hE, ho]
  clear HX HN HD HL HOK HSER HYES HNO HIN HSD HSX HEM HSQ ho hE h0
  go_enter Tryz.func45, Tryz.ntmps45
  have k0 : (w.alloc (.cells [Value.string sv, .string dv, .slice oo xs.length co].toArray 79)).cell? ⟨w.heap.size, 0, none⟩ = some (.string sv) := HK0.out.cell 0
  go_wp2
  go_returns
  exact ⟨rfl, HB0.out⟩
 ·have hz : ((sv.size : Int) == 0) = false := by simp; intro h; rw [h] at h0; exact h0 rfl
  by_cases hw : nmWrong 2 sv.size sv = -1
  ·rw [hw] at HN
   have hser : serOk sv = true := by rw [HSER.out, decide_eq_true ⟨by omega, hw⟩]
   rw [hser, Bool.true_and] at HOK
   cases hd : wOk dv with
   |false =>
    rw [hd, Bool.false_and] at HOK
    have ho : OK = false := HOK.out
    have hE := HNO.out ho
    rw [hE, ho]
    rw [hd] at HD
    clear HX HL HOK HSER HYES HNO HIN HSD HSX HEM HSQ ho hE h0 hw hser
    go_enter Tryz.func45, Tryz.ntmps45
    go_wp2_with fail
    refine (HN.out _).mono ?_
    rintro e w1 ⟨rfl, rfl⟩
    go_wp2_with fail
    refine (HD.out _).mono ?_
    rintro e w2 ⟨rfl, hb2⟩
    have HB2 := Lib.hid (HB0.out.trans (hb2.mono HB0.out.size))
    have HK2 := Lib.hid (HK0.out.below hb2 HK0.out.lt)
    clear hb2 HB0 HK0 HD HN
    have q0 : w2.cell? ⟨w.heap.size, 0, none⟩ = some (.string sv) := HK2.out.cell 0
    have q1 : w2.cell? ⟨w.heap.size, 1, none⟩ = some (.string dv) := HK2.out.cell 1
    have q2 : w2.cell? ⟨w.heap.size, 2, none⟩ = some (.slice oo xs.length co) := HK2.out.cell 2
    go_wp2
    go_returns
    exact ⟨rfl, HB2.out⟩
   |true =>
    rw [hd, Bool.true_and] at HOK
    have sD := HSD.out hd
    rw [hd, if_pos rfl] at HD
    by_cases hx : xs.length = 0
    ·have hem : xs.isEmpty = true := by rw [HEM.out, decide_eq_true hx]
     rw [hem, Bool.true_or] at HOK
     have ho : OK = true := HOK.out
     have hE := HYES.out ho
     rw [hE, ho]
     rw [hem, if_pos rfl, encS_nil, str_e] at HIN
     rw [hem, if_pos rfl] at HSQ
     have hgt : ¬ (0 : Int) < (xs.length : Int) := by omega
     have HQ := Lib.hid (HSQ.out _ HIN.out (by rw [← encS_size, HIN.out, ByteArray.size_append]; omega))
     generalize encS (lf 2 (bl sv)) = SL at *
     generalize encS (dateF dv) = SD at *
     have hov : ¬ 9223372036854775807 < SL.size + SD.size := by omega
     clear HX HOK HSER HYES HNO HIN HSD HSX HEM HSQ ho hE h0 hw hser hx hem hd
     go_enter Tryz.func45, Tryz.ntmps45
     go_wp2_with fail
     refine (HN.out _).mono ?_
     rintro e w1 ⟨rfl, rfl⟩
     go_wp2_with fail
     refine (HD.out _).mono ?_
     rintro e w2 ⟨rfl, hb2⟩
     have HB2 := Lib.hid (HB0.out.trans (hb2.mono HB0.out.size))
     have HK2 := Lib.hid (HK0.out.below hb2 HK0.out.lt)
     clear hb2 HB0 HK0 HD HN
     have q0 : w2.cell? ⟨w.heap.size, 0, none⟩ = some (.string sv) := HK2.out.cell 0
     have q1 : w2.cell? ⟨w.heap.size, 1, none⟩ = some (.string dv) := HK2.out.cell 1
     have q2 : w2.cell? ⟨w.heap.size, 2, none⟩ = some (.slice oo xs.length co) := HK2.out.cell 2
     go_wp2_with fail
     refine (HL.out _).mono ?_
     rintro e w3 ⟨rfl, hb3⟩
     have HB3 := Lib.hid (HB2.out.trans (hb3.mono HB2.out.size))
     have HK3 := Lib.hid (HK2.out.below hb3 HK2.out.lt)
     clear hb3 HB2 HK2 HL q0 q1 q2
     have q0 : w3.cell? ⟨w.heap.size, 0, none⟩ = some (.string sv) := HK3.out.cell 0
     have q2 : w3.cell? ⟨w.heap.size, 2, none⟩ = some (.slice oo xs.length co) := HK3.out.cell 2
     have HBX := HB3
     clear HB3
     go_wp2_with fail
     refine (HQ.out _).mono ?_
     rintro e w5 ⟨rfl, hb5⟩
     have HB5 := Lib.hid (HBX.out.trans (hb5.mono HBX.out.size))
     clear hb5 HBX HQ
     go_wp2
     go_returns
     exact ⟨rfl, HB5.out⟩
    ·have hem : xs.isEmpty = false := by rw [HEM.out, decide_eq_false hx]
     rw [hem, Bool.false_or] at HOK
     have hgt : (0 : Int) < (xs.length : Int) := by omega
     cases hxo : extsOk xs with
     |false =>
      rw [hxo] at HOK HX
      have ho : OK = false := HOK.out
      have hE := HNO.out ho
      rw [hE, ho]
      generalize encS (lf 2 (bl sv)) = SL at *
      generalize encS (dateF dv) = SD at *
      have hov : ¬ 9223372036854775807 < SL.size + SD.size := by omega
      generalize extsS xs = SX at *
      clear HOK HSER HYES HNO HIN HSD HSX HEM HSQ ho hE h0 hw hser hx hem hd hxo
      go_enter Tryz.func45, Tryz.ntmps45
      go_wp2_with fail
      refine (HN.out _).mono ?_
      rintro e w1 ⟨rfl, rfl⟩
      go_wp2_with fail
      refine (HD.out _).mono ?_
      rintro e w2 ⟨rfl, hb2⟩
      have HB2 := Lib.hid (HB0.out.trans (hb2.mono HB0.out.size))
      have HK2 := Lib.hid (HK0.out.below hb2 HK0.out.lt)
      clear hb2 HB0 HK0 HD HN
      have q0 : w2.cell? ⟨w.heap.size, 0, none⟩ = some (.string sv) := HK2.out.cell 0
      have q1 : w2.cell? ⟨w.heap.size, 1, none⟩ = some (.string dv) := HK2.out.cell 1
      have q2 : w2.cell? ⟨w.heap.size, 2, none⟩ = some (.slice oo xs.length co) := HK2.out.cell 2
      go_wp2_with fail
      refine (HL.out _).mono ?_
      rintro e w3 ⟨rfl, hb3⟩
      have HB3 := Lib.hid (HB2.out.trans (hb3.mono HB2.out.size))
      have HK3 := Lib.hid (HK2.out.below hb3 HK2.out.lt)
      clear hb3 HB2 HK2 HL q0 q1 q2
      have q0 : w3.cell? ⟨w.heap.size, 0, none⟩ = some (.string sv) := HK3.out.cell 0
      have q2 : w3.cell? ⟨w.heap.size, 2, none⟩ = some (.slice oo xs.length co) := HK3.out.cell 2
      go_wp2_with fail
      refine (HX.out _ HB3.out).mono ?_
      rintro e w4 ⟨rfl, hb4⟩
      have HB2 := Lib.hid (HB3.out.trans (hb4.mono HB3.out.size))
      clear hb4 HX
      go_wp2
      go_returns
      exact ⟨rfl, HB2.out⟩
     |true =>
      rw [hxo] at HOK HX
      obtain ⟨hxs, sX⟩ := HSX.out hxo
      rw [hxs] at HX
      have ho : OK = true := HOK.out
      have hE := HYES.out ho
      rw [hE, ho]
      rw [hem, if_neg (by decide)] at HIN
      rw [hem, if_neg (by decide)] at HSQ
      have HQ := Lib.hid (HSQ.out _ HIN.out (by rw [← encS_size, HIN.out, ByteArray.size_append, ByteArray.size_append]; omega))
      generalize encS (lf 2 (bl sv)) = SL at *
      generalize encS (dateF dv) = SD at *
      generalize encS (extsF xs) = SX at *
      have hov : ¬ 9223372036854775807 < SL.size + SD.size := by omega
      have hov2 : ¬ 9223372036854775807 < (SL ++ SD).size + SX.size := by rw [ByteArray.size_append]; omega
      clear HOK HSER HYES HNO HIN HSD HSX HEM HSQ ho hE h0 hw hser hx hem hd hxo hxs
      go_enter Tryz.func45, Tryz.ntmps45
      go_wp2_with fail
      refine (HN.out _).mono ?_
      rintro e w1 ⟨rfl, rfl⟩
      go_wp2_with fail
      refine (HD.out _).mono ?_
      rintro e w2 ⟨rfl, hb2⟩
      have HB2 := Lib.hid (HB0.out.trans (hb2.mono HB0.out.size))
      have HK2 := Lib.hid (HK0.out.below hb2 HK0.out.lt)
      clear hb2 HB0 HK0 HD HN
      have q0 : w2.cell? ⟨w.heap.size, 0, none⟩ = some (.string sv) := HK2.out.cell 0
      have q1 : w2.cell? ⟨w.heap.size, 1, none⟩ = some (.string dv) := HK2.out.cell 1
      have q2 : w2.cell? ⟨w.heap.size, 2, none⟩ = some (.slice oo xs.length co) := HK2.out.cell 2
      go_wp2_with fail
      refine (HL.out _).mono ?_
      rintro e w3 ⟨rfl, hb3⟩
      have HB3 := Lib.hid (HB2.out.trans (hb3.mono HB2.out.size))
      have HK3 := Lib.hid (HK2.out.below hb3 HK2.out.lt)
      clear hb3 HB2 HK2 HL q0 q1 q2
      have q0 : w3.cell? ⟨w.heap.size, 0, none⟩ = some (.string sv) := HK3.out.cell 0
      have q2 : w3.cell? ⟨w.heap.size, 2, none⟩ = some (.slice oo xs.length co) := HK3.out.cell 2
      go_wp2_with fail
      refine (HX.out _ HB3.out).mono ?_
      rintro e w4 ⟨rfl, hb4⟩
      have HBX := Lib.hid (HB3.out.trans (hb4.mono HB3.out.size))
      clear hb4 HX
      go_wp2_with fail
      refine (HQ.out _).mono ?_
      rintro e w5 ⟨rfl, hb5⟩
      have HB5 := Lib.hid (HBX.out.trans (hb5.mono HBX.out.size))
      clear hb5 HBX HQ
      go_wp2
      go_returns
      exact ⟨rfl, HB5.out⟩
  ·have hwb : (nmWrong 2 sv.size sv != -1) = true := by simpa using hw
   have ho : OK = false := by rw [HOK.out, HSER.out, decide_eq_false (by omega)]; rfl
   have hE := HNO.out ho
   rw [hE, ho]
   generalize nmWrong 2 sv.size sv = W at *
   clear HX HD HL HOK HSER HYES HNO HIN HSD HSX HEM HSQ ho hE h0 hw
   go_enter Tryz.func45, Tryz.ntmps45
   go_wp2_with fail
   refine (HN.out _).mono ?_
   rintro e w1 ⟨rfl, rfl⟩
   go_wp2
   go_returns
   exact ⟨rfl, HB0.out⟩
end Go.Proofs.YtiiimhamfibdbaaGreat
