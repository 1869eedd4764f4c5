/- Package encode in the landed code: an attribute. Within the sizes that layer 19's statements name. -/
import Derived.Test.YtiecbagejdcafaaGreatDoorEncAttrN
import Derived.Test.YtiecbagejdcafaaGreatDoorEncAttrY
import Derived.Test.YtiecbagejdcafaaGreatDoorS2
import Derived.Test.YtiecbagejdcafaaGreatDoorShelf
import Derived.Laws.MakeOwn
namespace Go.Proofs.YtiecbagejdcafaaGreatDoor
open Go.RowKit Go.PlainAid
set_option linter.unusedVariables false
theorem encAttr_any (a : AttrV) (oo : Option Addr) (co : Nat) (hs : a.Small) (hf : a.Fits) (hcap : a.oid.length ≤ co ∧ co ≤ maxLen) (w : World) (hc : Came w oo (ivs .u64 a.oid)) :
  Calls Tryz.prog 59 #[.agg #[.slice oo a.oid.length co, .int .i64 a.tag, .string a.text]] w fun e w' => e = .returned (.tuple #[.string (attrS a), .bool (attrOk a)]) ∧ Below w.heap.size w w' := by
 have HI := Lib.hid (fun W (hb : Below w.heap.size w W) => encId_any oo co a.oid hs.oid hs.oin hcap W (hc.below hb))
 have HL := Lib.hid (encPrim_any a.tag a.text hf.tag (by have := hs.text; omega))
 have HS := Lib.hid (encIsStr_any a.tag hf.tag)
 have HK := Lib.hid (textCheck_any a.tag a.text (by have := hs.text; omega))
 have hok : attrOk a = (arcsOk a.oid && decide (a.tag = 12 ∨ a.tag = 19 ∨ a.tag = 22) && decide (rightT a.tag (bl a.text))) := rfl
 have hE := att_end a hs
 have s0 := hs.text
 have s1 := elS_le 0 a.tag false a.text
 have s2 := idS_le a.oid hs.oid hs.oin
 cases hos : decide (a.tag = 12 ∨ a.tag = 19 ∨ a.tag = 22) with
 |false =>
  rw [hos] at HS hok
  have hx : (!(!arcsOk a.oid || !false)) = attrOk a := by rw [hok]; cases arcsOk a.oid <;> rfl
  rw [← hx]
  exact encAttr_no oo co a.oid.length a.tag a.text (idS a.oid) (elS 0 a.tag false a.text) (attrS a) (arcsOk a.oid) true w s2 (by omega) HI HL HS (Lib.hid (by rw [← hE, ← hx, Bool.not_not]))
 |true =>
  rw [hos] at HS hok
  have hx : (!(!arcsOk a.oid || !decide (rightT a.tag (bl a.text)))) = attrOk a := by rw [hok]; cases arcsOk a.oid <;> cases decide (rightT a.tag (bl a.text)) <;> rfl
  rw [← hx]
  exact encAttr_yes oo co a.oid.length a.tag a.text (idS a.oid) (elS 0 a.tag false a.text) (attrS a) (arcsOk a.oid) (decide (rightT a.tag (bl a.text))) w s2 (by omega) HI HL HS HK (Lib.hid (by rw [← hE, ← hx, Bool.not_not]))
end Go.Proofs.YtiecbagejdcafaaGreatDoor
/- Package encode in the landed code: a set of attributes, a name. Within the sizes that layer 19's statements name. -/
namespace Go.Proofs.YtiecbagejdcafaaGreatDoor
open Go.RowKit Go.PlainAid
set_option linter.unusedVariables false
theorem made_strs (n : Nat) (hn : n ≤ 1000000) (w : World) : (Instr.makeSlice 65 (.int .i64 (n : Int)) (.int .i64 (n : Int))).run Tryz.prog w = .ok (.slice (some ⟨w.heap.size, 0, none⟩) n n) (w.alloc (.cells (svs (List.replicate n ⟨#[]⟩)).toArray 9)) := by
 obtain ⟨i0, hi, hz0, hz1, hz2⟩ := info_parts infoStr
 have hr := run_make (P := Tryz.prog) w 65 9 i0 _ Tryz.underlying65 hi hz0 .i64 .i64 n n (by omega) (Int.le_refl _) (by rw [hz2]; omega) (by omega)
 simp only [Int.toNat_natCast, hz1] at hr
 have e : madeCells (Value.string ⟨#[]⟩).cells (n * 1) = (svs (List.replicate n ⟨#[]⟩)).toArray := by
  apply Array.ext
  ·rw [size_madeCells]; simp [svs]
  ·intro j h1 h2
   simp [madeCells, Value.cells, svs, Nat.mod_one]
 rw [e] at hr
 exact hr
def fillS (l : List AttrV) (i : Nat) : List ByteArray := (l.take i).map attrS ++ List.replicate (l.length - i) ⟨#[]⟩
theorem fillS_len (l : List AttrV) (i : Nat) (h : i ≤ l.length) : (fillS l i).length = l.length := by
 unfold fillS
 rw [List.length_append, List.length_map, List.length_take, List.length_replicate]; omega
theorem fillS_set (l : List AttrV) (i : Nat) (h : i < l.length) : (svs (fillS l i)).set i (.string (attrS l[i])) = svs (fillS l (i + 1)) := by
 have hl : ((l.take i).map attrS).length = i := by rw [List.length_map, List.length_take]; omega
 have hr : List.replicate (l.length - i) (⟨#[]⟩ : ByteArray) = ⟨#[]⟩ :: List.replicate (l.length - (i + 1)) ⟨#[]⟩ := by
  rw [← List.replicate_succ]; congr 1; omega
 have ht : (l.take (i + 1)).map attrS = (l.take i).map attrS ++ [attrS l[i]] := by rw [List.take_succ_eq_append_getElem h, List.map_append]; rfl
 have he : (fillS l i).set i (attrS l[i]) = fillS l (i + 1) := by
  unfold fillS
  rw [ht, hr]
  generalize (l.take i).map attrS = A at *
  rw [List.set_append_right _ _ (by omega), hl, Nat.sub_self, List.set_cons_zero, List.append_assoc]
  rfl
 rw [← he]
 unfold svs
 rw [List.map_set]
theorem fillS_all (l : List AttrV) (h : l.all attrOk = true) : fillS l l.length = attrB l := by
 unfold fillS attrB
 rw [List.take_length, Nat.sub_self, List.replicate_zero, List.append_nil]
 exact List.map_congr_left (fun a ha => by unfold attrS; rw [if_pos (List.all_eq_true.1 h a ha)])
theorem join_cat (l : List ByteArray) : (⟨(Lib.join (l.map (·.data.toList)) (⟨#[]⟩ : ByteArray).data.toList).toArray⟩ : ByteArray) = catS l := by
 have h : ∀ l : List ByteArray, Lib.join (l.map (·.data.toList)) [] = (catS l).data.toList := by
  intro l
  induction l with
  |nil => rfl
  |cons x r ih =>
   rw [List.map_cons, Lib.join_cons]
   have e : ∀ r : List (List UInt8), Lib.joinTail [] r = Lib.join r [] := by
    intro r
    cases r with
    |nil => rfl
    |cons y r =>
     rw [Lib.join_cons]
     simp [Lib.joinTail]
   rw [e, ih]
   show _ = (x ++ catS r).data.toList
   rw [ByteArray.data_append, Array.toList_append]
 show (⟨(Lib.join (l.map (·.data.toList)) []).toArray⟩ : ByteArray) = _
 rw [h]
theorem join_size (l : List ByteArray) : (Lib.join (l.map (·.data.toList)) (⟨#[]⟩ : ByteArray).data.toList).length = (catS l).size := by
 rw [← join_cat]; simp [ByteArray.size]
def setS (l : List AttrV) : ByteArray := if setOk l = true then encS (setF l) else ⟨#[]⟩
theorem setS_le (l : List AttrV) (hl : l.length ≤ 8) (hs : ∀ a ∈ l, a.Small) : (setS l).size ≤ 2750 := by
 unfold setS
 split
 ·rename_i h; rw [encS_size]; exact setF_len hl hs h
 ·exact Nat.zero_le _
theorem set_end (l : List AttrV) (hl : l.length ≤ 8) (hs : ∀ a ∈ l, a.Small) (h0 : l.length ≠ 0) (ha : l.all attrOk = true) : setOk l = true ∧ elS 0 17 true (catS (sortS (attrB l))) = setS l ∧ (catS (sortS (attrB l))).size ≤ 2736 := by
 have h1 : setOk l = true := by
  unfold setOk
  rw [ha]
  cases l with
  |nil => exact absurd rfl h0
  |cons _ _ => rfl
 have h2 := setK_len hl hs h1
 have h3 : setS l = encS (setF l) := by unfold setS; rw [if_pos h1]
 have h4 : (encS (joinF (sortF (l.map attrF)))).size ≤ 2736 := by rw [encS_size]; exact h2
 rw [attrB_sort]
 exact ⟨h1, by rw [h3, elS_node (by decide) _ (by omega)]; rfl, h4⟩
set_option maxRecDepth 100000 in
set_option maxHeartbeats 8000000 in
theorem encSet_any (oa : Option Addr) (ca : Nat) (l : List AttrV) (hl : l.length ≤ 8) (hs : ∀ a ∈ l, a.Small) (hf : ∀ a ∈ l, a.Fits) (hcap : l.length ≤ ca ∧ ca ≤ maxLen) (w : World) (hc : CameAttrs w oa l) :
  Calls Tryz.prog 36 #[.slice oa l.length ca] w fun e w' => e = .returned (.tuple #[.string (setS l), .bool (setOk l)]) ∧ Below w.heap.size w w' := by
 have hl9 : (l.length : Int) ≤ 8 := by omega
 have HC := Lib.hid hc
 have HS := Lib.hid hs
 have HF := Lib.hid hf
 clear hc hs hf hcap
 by_cases h0 : l.length = 0
 ·have hz : ((l.length : Int) == 0) = true := by simp; exact List.length_eq_zero_iff.1 h0
  have he : setOk l = false := by rw [List.length_eq_zero_iff.1 h0]; rfl
  have hS : setS l = ⟨#[]⟩ := by unfold setS; rw [he]; rfl
  rw [hS, he]
  clear h0 he hS
  go_enter Tryz.func36, Tryz.ntmps36
  go_wp2
  go_returns
  exact ⟨rfl, Below.refl _ _⟩
 ·have hz : ((l.length : Int) == 0) = false := by simp; intro h; rw [h] at h0; exact h0 rfl
  have HEND : Hid (l.all attrOk = true → setOk l = true ∧ elS 0 17 true (catS (sortS (attrB l))) = setS l ∧ (catS (sortS (attrB l))).size ≤ 2736) := Lib.hid (set_end l hl HS.out h0)
  have HBAD : Hid (l.all attrOk = false → setS l = ⟨#[]⟩ ∧ setOk l = false) := Lib.hid (fun h => by
   have : setOk l = false := by unfold setOk; rw [h, Bool.and_false]
   exact ⟨by unfold setS; rw [this]; rfl, this⟩)
  generalize setS l = R at *
  generalize setOk l = EOK at *
  have HMK := made_strs l.length (by omega) w
  have HSl : Hid (Sl (w.alloc (.cells (svs (List.replicate l.length ⟨#[]⟩)).toArray 9)) 9 (.slice (some ⟨w.heap.size, 0, none⟩) l.length l.length) (svs (fillS l 0)) w.heap.size) := Lib.hid (by
   have := sl_new_strs w (List.replicate l.length ⟨#[]⟩) (by rw [List.length_replicate]; unfold maxLen; omega)
   rw [List.length_replicate] at this
   have e : fillS l 0 = List.replicate l.length ⟨#[]⟩ := by unfold fillS; rw [List.take_zero, List.map_nil, List.nil_append, Nat.sub_zero]
   rw [e]; exact this)
  have HB1 : Hid (Below w.heap.size w (w.alloc (.cells (svs (List.replicate l.length ⟨#[]⟩)).toArray 9))) := Lib.hid ((Below.refl _ _).alloc (Nat.le_refl _) _)
  go_enter Tryz.func36, Tryz.ntmps36
  go_upto_region 4 with (fail)
  clear HMK
  generalize w.alloc (.cells (svs (List.replicate l.length ⟨#[]⟩)).toArray 9) = w1 at *
  go_wp2_with fail
  go_loopg [17] l.length (fun gk iv wr => ∃ (i : Nat), iv = .int .i64 (i : Int) ∧ i ≤ l.length ∧ l.length - i ≤ gk ∧ Hid (Sl wr 9 (.slice (some ⟨w.heap.size, 0, none⟩) l.length l.length) (svs (fillS l i)) w.heap.size) ∧ Hid ((l.take i).all attrOk = true) ∧ Hid (Below w.heap.size w wr))
  case atStart => exact ⟨0, rfl, by omega, by omega, HSl, Lib.hid rfl, HB1⟩
  case round =>
   clear HSl HB1
   obtain ⟨i, rfl, hi, hgk, HSl, HT, HB1⟩ := hrel
   obtain ⟨w1, hw1⟩ : ∃ x, x = wr := ⟨_, rfl⟩
   subst hw1
   by_cases hlt : i < l.length
   ·have hlt2 : (i : Int) < (l.length : Int) := by omega
    obtain ⟨ad, oo, co, ho, hX⟩ := HC.out.below HB1.out i hlt
    subst ho
    obtain ⟨k0, k1, k2, hoid, hcap⟩ := hX
    have HCL := Lib.hid (encAttr_any l[i] oo co (HS.out _ (List.getElem_mem hlt)) (HF.out _ (List.getElem_mem hlt)) hcap)
    have HD := Lib.hid hoid
    have HFS := Lib.hid (fillS_set l i hlt)
    have HT2 := Lib.hid (take_all hlt attrOk)
    rw [HT.out, Bool.true_and] at HT2
    have HAF : Hid (attrOk l[i] = false → l.all attrOk = false) := Lib.hid (fun h => all_false hlt h)
    replace k1 : w1.cell? ⟨(ad.add (i * 3)).block, (ad.add (i * 3)).off + 1, none⟩ = some (.int .i64 l[i].tag) := k1
    replace k2 : w1.cell? ⟨(ad.add (i * 3)).block, (ad.add (i * 3)).off + 2, none⟩ = some (.string l[i].text) := k2
    clear hoid hcap HT
    generalize attrS l[i] = SX at *
    generalize attrOk l[i] = OX at *
    generalize l[i].oid = oid at *
    generalize l[i].tag = tag at *
    generalize l[i].text = txt at *
    have hba : Below w1.heap.size w1 (w1.alloc (.cells #[.slice oo oid.length co, .int .i64 tag, .string txt] 46)) := (Below.refl _ _).alloc (Nat.le_refl _) _
    have HB2 : Hid (Below w.heap.size w (w1.alloc (.cells #[.slice oo oid.length co, .int .i64 tag, .string txt] 46))) := Lib.hid (HB1.out.alloc HB1.out.size _)
    have HSl2 := Lib.hid (HSl.out.keep hba)
    have HCL2 := Lib.hid (HCL.out _ (HD.out.below hba))
    clear HB1 HSl HD HCL hba
    go_wp2_with fail
    refine HCL2.out.mono ?_
    rintro e w3 ⟨rfl, hb⟩
    have HB3 := Lib.hid (HB2.out.trans (hb.mono HB2.out.size))
    have HSl3 := Lib.hid (HSl2.out.keep hb)
    clear hb HB2 HSl2 HCL2 k0 k1 k2
    cases OX with
    |false =>
     have hF := HBAD.out (HAF.out rfl)
     have HF2 := Lib.hid hF
     clear hF HAF HFS HT2 HEND HBAD HSl3
     go_wp2
     go_returns
     rw [HF2.out.1, HF2.out.2]
     exact ⟨rfl, HB3.out⟩
    |true =>
     have hil : i < (svs (fillS l i)).length := by rw [svs_length, fillS_len l i hi]; exact hlt
     have hcl : w3.cell? ⟨w.heap.size, i, none⟩ = some ((svs (fillS l i))[i]) := HSl3.out.cell hil
     have hfz : w3.frozen? ⟨w.heap.size, i, none⟩ = false := HSl3.out.frozen i
     have HSl4 : Hid (Sl (w3.setCell ⟨w.heap.size, i, none⟩ (.string SX)) 9 (.slice (some ⟨w.heap.size, 0, none⟩) l.length l.length) (svs (fillS l (i + 1))) w.heap.size) := Lib.hid (by have := HSl3.out.set hil (.string SX); rw [HFS.out] at this; exact this)
     have HB4 : Hid (Below w.heap.size w (w3.setCell ⟨w.heap.size, i, none⟩ (.string SX))) := Lib.hid (HB3.out.setCell (p := ⟨w.heap.size, i, none⟩) (Nat.le_refl _) _)
     generalize (svs (fillS l i))[i] = old at hcl
     clear HAF HFS HSl3 HB3
     go_wp2_with fail
     go_roundg (l.length - (i + 1))
     case measure => omega
     case rel => exact ⟨i + 1, by simp, by omega, by omega, HSl4, HT2, HB4⟩
   ·have hlt2 : ¬ (i : Int) < (l.length : Int) := by omega
    obtain rfl : i = l.length := by omega
    rw [List.take_length] at HT
    have hfa := fillS_all l HT.out
    rw [hfa] at HSl
    have hae := List.all_eq_true.1 HT.out
    have hBL : (attrB l).length = l.length := by unfold attrB; rw [List.length_map]
    have HSR := Lib.hid (ordSort_any ⟨w.heap.size, 0, none⟩ l.length (attrB l) (by omega) (by unfold maxLen; omega) (by omega) (fun x hx => by have := attrB_len HS.out hae x hx; omega) w1 (Came.sl HSl.out))
    rw [hBL] at HSR
    obtain ⟨hE1, hE2, hE3⟩ := HEND.out HT.out
    have hsl : (sortS (attrB l)).length = l.length := by rw [sortS_len, hBL]
    have HE1 := Lib.hid hE1
    have HE2 := Lib.hid hE2
    clear hfa hae hBL hE1 hE2 HSl HT HC HS HF HBAD HEND
    generalize sortS (attrB l) = Q at *
    go_wp2_with fail
    refine HSR.out.mono ?_
    rintro e w3 ⟨g, c1, rfl, hc1, hcm1, hcame, hb⟩
    have HB3 := Lib.hid (HB1.out.trans (hb.mono HB1.out.size))
    have hgl : g < w3.heap.size := by
     obtain ⟨x, hx, hy⟩ := hcame 0 (.string Q[0]) (by rw [svs_get (by omega)])
     injection hx with hx
     subst hx
     rw [addr0] at hy
     exact World.block_lt_of_cell? _ _ hy
    have HJ := Lib.hid (Tryz.strings_Join g 0 c1 Q ⟨#[]⟩ w3 (fun j x hx => by
     have hj := (List.getElem?_eq_some_iff.1 hx).1
     obtain ⟨a, ha, hy⟩ := hcame j (.string x) (by rw [svs_get hj]; rw [List.getElem?_eq_getElem hj] at hx; injection hx with hx; rw [hx])
     injection ha with ha
     subst ha
     rw [addr0] at hy
     rw [Nat.zero_add]; exact hy) hgl (by omega) (by omega) (by rw [join_size]; omega))
    rw [hsl, join_cat] at HJ
    have HK := Lib.hid (encCons_any 17 (catS Q) (by unfold InI; omega) (by omega))
    rw [HE2.out] at HK
    clear hcame hb HSR hgl HB1 HE2
    generalize catS Q = CQ at *
    go_wp2_with fail
    refine HJ.out.mono ?_
    rintro e w4 ⟨rfl, hb⟩
    have HB4 := Lib.hid (HB3.out.trans (hb.mono HB3.out.size))
    clear hb HJ HB3
    go_wp2_with fail
    refine (HK.out _).mono ?_
    rintro e w5 ⟨rfl, hb⟩
    have HB5 := Lib.hid (HB4.out.trans (hb.mono HB4.out.size))
    clear hb HK HB4
    go_wp2
    go_returns
    rw [HE1.out]
    exact ⟨rfl, HB5.out⟩
set_option maxRecDepth 100000 in
set_option maxHeartbeats 8000000 in
theorem encSeqSet_any (oa : Option Addr) (ca : Nat) (l : List (List AttrV)) (hl : l.length ≤ 8) (hs : ∀ s ∈ l, s.length ≤ 8 ∧ ∀ a ∈ s, a.Small) (hf : ∀ s ∈ l, ∀ a ∈ s, a.Fits) (hcap : l.length ≤ ca ∧ ca ≤ maxLen) (w : World) (hc : CameSets w oa l) :
  Calls Tryz.prog 35 #[.slice oa l.length ca, .func (.func 36) #[] #[]] w fun e w' => e = .returned (.tuple #[.string (if l.all setOk = true then encS (sq (joinF (l.map setF))) else ⟨#[]⟩), .bool (l.all setOk)]) ∧ Below w.heap.size w w' := by
 have HLN : Hid (∀ i, (catS ((l.take i).map setS)).size ≤ 22000) := Lib.hid (fun i => rows_take_len setS l 2750 8 i (fun x hx => setS_le x (hs x hx).1 (hs x hx).2) hl)
 have HFN : Hid (∀ x ∈ l, (setS x).size ≤ 2750) := Lib.hid (fun x hx => setS_le x (hs x hx).1 (hs x hx).2)
 have HEN : Hid (seqS (!l.all setOk) (catS (l.map setS)) = if l.all setOk = true then encS (sq (joinF (l.map setF))) else ⟨#[]⟩) := Lib.hid (rows_end setS setOk setF l (fun x hx h => by unfold setS; rw [if_pos h]) (by have := HLN.out l.length; rw [List.take_length] at this; omega))
 have HC := Lib.hid hc
 have HS := Lib.hid hs
 have HFI := Lib.hid hf
 have hl9 : (l.length : Int) ≤ 8 := by omega
 generalize (if l.all setOk = true then encS (sq (joinF (l.map setF))) else ⟨#[]⟩) = R at *
 have HP1 : Hid (PAt (w.alloc (.cells #[.pointer none, .slice none 0 0, .bool false] 87)) w.heap.size w.heap.size ⟨#[]⟩ false) := Lib.hid (PAt.new w (Nat.le_refl _))
 have HB1 : Hid (Below w.heap.size w (w.alloc (.cells #[.pointer none, .slice none 0 0, .bool false] 87))) := Lib.hid ((Below.refl _ _).alloc (Nat.le_refl _) _)
 clear hc hs hf hcap
 go_enter Tryz.func35, Tryz.ntmps35
 go_upto_region 2 with (fail)
 generalize w.alloc (.cells #[.pointer none, .slice none 0 0, .bool false] 87) = w1 at *
 go_wp2_with fail
 go_loopg [11] l.length (fun gk iv wr => ∃ (i : Nat), iv = .int .i64 (i : Int) ∧ i ≤ l.length ∧ l.length - i ≤ gk ∧ Hid (PAt wr w.heap.size w.heap.size (catS ((l.take i).map setS)) (!(l.take i).all setOk)) ∧ Hid (Below w.heap.size w wr))
 case atStart => exact ⟨0, rfl, by omega, by omega, HP1, HB1⟩
 case round =>
  clear HP1 HB1
  obtain ⟨i, rfl, hi, hgk, HP1, HB1⟩ := hrel
  obtain ⟨w1, hw1⟩ : ∃ x, x = wr := ⟨_, rfl⟩
  subst hw1
  by_cases hlt : i < l.length
  ·have hlt2 : (i : Int) < (l.length : Int) := by omega
   obtain ⟨ad, oo, co, ho, hX⟩ := HC.out.below HB1.out i hlt
   subst ho
   obtain ⟨k0, hoid, hcap⟩ := hX
   have HCL := Lib.hid (encSet_any oo co l[i] (HS.out _ (List.getElem_mem hlt)).1 (HS.out _ (List.getElem_mem hlt)).2 (HFI.out _ (List.getElem_mem hlt)) hcap)
   have HD := Lib.hid hoid
   have hsn := HFN.out _ (List.getElem_mem hlt)
   have HTK := Lib.hid (rows_take setS hlt)
   have HAL := Lib.hid (take_all hlt setOk)
   have HLI := HLN.out i
   clear hoid hcap
   generalize setS l[i] = SX at *
   generalize setOk l[i] = OX at *
   generalize hxl : l[i] = X at *
   clear hxl
   generalize X.length = xn at *
   have HCL2 := Lib.hid (HCL.out _ HD.out)
   clear HD HCL
   go_wp2_with fail
   refine HCL2.out.mono ?_
   rintro e w3 ⟨rfl, hb⟩
   have HB3 := Lib.hid (HB1.out.trans (hb.mono HB1.out.size))
   have HP3 := Lib.hid (HP1.out.keep hb)
   clear hb HB1 HP1 HCL2 k0
   go_wp2_with fail
   refine (partsAdd_any w.heap.size w.heap.size _ _ _ _ w3 HP3.out (by omega) (Nat.le_of_lt HP3.out.lt)).mono ?_
   rintro e w4 ⟨rfl, hP, hb⟩
   have HB4 := Lib.hid (HB3.out.trans hb)
   have HP4 : Hid (PAt w4 w.heap.size w.heap.size (catS ((l.take (i + 1)).map setS)) (!(l.take (i + 1)).all setOk)) := Lib.hid (hP.as ⟨HTK.out.symm, by rw [HAL.out, Bool.not_and]⟩)
   clear hP hb HB3 HP3 HTK HAL
   go_wp2_with fail
   go_roundg (l.length - (i + 1))
   case measure => omega
   case rel => exact ⟨i + 1, by simp, by omega, by omega, HP4, HB4⟩
  ·have hlt2 : ¬ (i : Int) < (l.length : Int) := by omega
   obtain rfl : i = l.length := by omega
   rw [List.take_length] at HP1
   have HLI := HLN.out l.length
   rw [List.take_length] at HLI
   have HQ := Lib.hid (encSeq_any w.heap.size w.heap.size _ _ w1 HP1.out (by omega) (Nat.le_of_lt HP1.out.lt))
   rw [HEN.out, Bool.not_not] at HQ
   clear HP1 HEN HLN HFN HC HS HFI
   go_wp2_with fail
   refine HQ.out.mono ?_
   rintro e w3 ⟨rfl, hb⟩
   have HB3 := Lib.hid (HB1.out.trans hb)
   clear hb HQ HB1
   go_wp2
   go_returns
   exact ⟨rfl, HB3.out⟩
theorem encName_any (oi : Option Addr) (ci : Nat) (l : List (List AttrV)) (hl : l.length ≤ 8) (hs : ∀ s ∈ l, s.length ≤ 8 ∧ ∀ a ∈ s, a.Small) (hf : ∀ s ∈ l, ∀ a ∈ s, a.Fits) (hcap : l.length ≤ ci ∧ ci ≤ maxLen) (w : World) (hc : CameSets w oi l) :
  Calls Tryz.prog 15 #[.slice oi l.length ci] w fun e w' => e = .returned (.tuple #[.string (nameS l), .bool (nameOk l)]) ∧ Below w.heap.size w w' := by
 have HQ := Lib.hid (encSeqSet_any oi ci l hl hs hf hcap w hc)
 have hl9 : (l.length : Int) ≤ 8 := by omega
 clear hs hf hcap hc
 have hS : nameS l = if l.all setOk = true then encS (sq (joinF (l.map setF))) else ⟨#[]⟩ := rfl
 have hK : nameOk l = l.all setOk := rfl
 rw [hS, hK]
 generalize (if l.all setOk = true then encS (sq (joinF (l.map setF))) else ⟨#[]⟩) = R at *
 generalize l.all setOk = ok at *
 clear hS hK
 go_enter Tryz.func15, Tryz.ntmps15
 go_wp2_with fail
 refine HQ.out.mono ?_
 rintro e w1 ⟨rfl, hb⟩
 clear HQ
 go_wp2
 go_returns
 exact ⟨rfl, hb⟩
end Go.Proofs.YtiecbagejdcafaaGreatDoor
