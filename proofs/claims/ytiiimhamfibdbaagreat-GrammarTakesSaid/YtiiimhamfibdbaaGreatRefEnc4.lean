/- Layer 19's reference: a name. -/
import Derived.Test.YtiiimhamfibdbaaGreatG1
namespace Go.Proofs.YtiiimhamfibdbaaGreat
open Go.RowKit Go.PlainAid
set_option linter.unusedVariables false
def attrB (l : List AttrV) : List ByteArray := l.map (fun a => encS (attrF a))
theorem refSet_is (k : Fo) {s : ByteArray} (h : encS k = s) (hs : k.enc.length ≤ 100000) (w : World) :
  Calls Tryz.prog 47 #[.agg #[.int .i64 0, .int .i64 17, .bool true, .int .i64 0], .string s] w fun e w' => e = .returned (.string (encS (.node 0 17 k .nil))) ∧ Below w.heap.size w w' := by
 subst h
 have hz := encS_size k
 have hF : hpS 0 17 true ((encS k).size : Int) ++ encS k = encS (.node 0 17 k .nil) := by rw [encS_node, hpS_of (by decide) (by omega)]
 rw [← hF]
 exact refElement_any 0 17 true 0 (encS k) (by omega) w
def catS : List ByteArray → ByteArray
 |[] => ⟨#[]⟩
 |x :: r => x ++ catS r
theorem catS_snoc (l : List ByteArray) (x : ByteArray) : catS (l ++ [x]) = catS l ++ x := by
 induction l with
 |nil => show x ++ ⟨#[]⟩ = ⟨#[]⟩ ++ x; rw [str_e, e_str]
 |cons y l ih => show y ++ catS (l ++ [x]) = (y ++ catS l) ++ x; rw [ih, ByteArray.append_assoc]
theorem catS_join (l : List Fo) : catS (l.map encS) = encS (joinF l) := by
 induction l with
 |nil => rfl
 |cons f l ih => show encS f ++ catS (l.map encS) = encS (f.app (joinF l)); rw [ih, encS_app]
theorem catS_len (l : List ByteArray) (n : Nat) (h : ∀ x ∈ l, x.size ≤ n) : (catS l).size ≤ l.length * n := by
 induction l with
 |nil => exact Nat.zero_le _
 |cons x l ih =>
  show (x ++ catS l).size ≤ (l.length + 1) * n
  rw [ByteArray.size_append, Nat.succ_mul]
  have h1 := h x (List.mem_cons_self ..)
  have h2 := ih (fun y hy => h y (List.mem_cons_of_mem _ hy))
  omega
theorem attrB_len {l : List AttrV} (h : ∀ a ∈ l, a.Small) (ho : ∀ a ∈ l, attrOk a = true) : ∀ x ∈ attrB l, x.size ≤ 342 := by
 intro x hx
 obtain ⟨a, ha, rfl⟩ := List.mem_map.1 hx
 rw [encS_size]
 exact attrF_len (h a ha) (ho a ha)
theorem attrB_sort (l : List AttrV) : catS (sortS (attrB l)) = encS (joinF (sortF (l.map attrF))) := by
 rw [← catS_join, sortF_map, List.map_map]; rfl
theorem sortB_len {l : List AttrV} (h : ∀ a ∈ l, a.Small) (ho : ∀ a ∈ l, attrOk a = true) : ∀ x ∈ sortS (attrB l), x.size ≤ 342 := fun x hx => attrB_len h ho x ((sortS_mem _ x).1 hx)
set_option maxRecDepth 100000 in
set_option maxHeartbeats 16000000 in
theorem refName_any (oi : Option Addr) (ci : Nat) (l : List (List AttrV)) (hl : l.length ≤ 8) (hs : ∀ s ∈ l, s.length ≤ 8 ∧ ∀ a ∈ s, a.Small) (hci : l.length ≤ ci ∧ ci ≤ maxLen) (w : World) (hc : CameSets w oi l) :
  Calls Tryz.prog 43 #[.slice oi l.length ci] w fun e w' => e = .returned (.tuple #[.string (nameS l), .bool (nameOk l)]) ∧ Below w.heap.size w w' := by
 have HC := Lib.hid hc
 have HS := Lib.hid hs
 have HOK : Hid (l.all setOk = true → nameOk l = true ∧ nameS l = encS (nameF l)) := Lib.hid (fun h => ⟨h, by unfold nameS; rw [if_pos (show nameOk l = true from h)]⟩)
 have HNO : Hid (l.all setOk = false → nameOk l = false ∧ nameS l = ⟨#[]⟩) := Lib.hid (fun h => ⟨h, by unfold nameS; rw [show nameOk l = false from h]; rfl⟩)
 clear hc hs
 have hl9 : (l.length : Int) ≤ 8 := by omega
 generalize nameOk l = OK at *
 generalize nameS l = RS at *
 go_enter Tryz.func43, Tryz.ntmps43
 go_wp2_with fail
 go_loopg [4, 5] l.length (fun gk ov iv wr => ∃ (i : Nat) (o : ByteArray), ov = .string o ∧ iv = .int .i64 (i : Int) ∧ i ≤ l.length ∧ l.length - i ≤ gk ∧ o.size ≤ 22000 ∧ Hid (o = encS (joinF ((l.take i).map setF))) ∧ Hid ((l.take i).all setOk = true) ∧ Hid (Below w.heap.size w wr))
 case atStart => exact ⟨0, _, rfl, rfl, by omega, by omega, Nat.zero_le _, Lib.hid rfl, Lib.hid rfl, Lib.hid (Below.refl _ _)⟩
 case round =>
  obtain ⟨i, o, rfl, rfl, hi, hgk, hos, HO, HT, HB⟩ := hrel
  by_cases hlt : i < l.length
  ·have hlt2 : (i : Int) < (l.length : Int) := by omega
   obtain ⟨ad, oo, co, ho, hX⟩ := HC.out.below HB.out i hlt
   subst ho
   have hsm := HS.out l[i] (List.getElem_mem hlt)
   have HT2 := Lib.hid (take_all hlt setOk)
   rw [HT.out] at HT2
   have HAF : Hid (setOk l[i] = false → l.all setOk = false) := Lib.hid (fun h => all_false hlt h)
   have HTK : Hid (encS (joinF ((l.take (i + 1)).map setF)) = encS (joinF ((l.take i).map setF)) ++ encS (setF l[i])) := Lib.hid (by rw [List.take_succ_eq_append_getElem hlt, List.map_append, List.map_cons, List.map_nil, join_snoc])
   have HLT : Hid (setOk l[i] = true → (encS (joinF ((l.take (i + 1)).map setF))).size ≤ 22000) := Lib.hid (fun h => join_len_take setF l (i + 1) 2750 8 (fun x hx => setF_len (HS.out x (List.mem_of_mem_take hx)).1 (HS.out x (List.mem_of_mem_take hx)).2 (List.all_eq_true.1 (show (l.take (i + 1)).all setOk = true by rw [HT2.out, h]; rfl) x hx)) hl)
   obtain ⟨k0, hset, hcap⟩ := hX
   have hL8 := hsm.1
   have HSL := Lib.hid hsm.2
   have HSET := Lib.hid hset
   have HIMP : Hid (∀ L : List AttrV, setOk L = (!L.isEmpty && L.all attrOk)) := Lib.hid (fun L => rfl)
   have hbw := HB.out
   clear hset hsm HC HS
   generalize hLL : l[i] = L at *
   by_cases h0 : L.length = 0
   ·have hz : ((L.length : Int) == 0) = true := by rw [h0]; rfl
    have hso : setOk L = false := by rw [HIMP.out, List.length_eq_zero_iff.1 h0]; rfl
    have HF := Lib.hid (HNO.out (HAF.out hso))
    clear HAF HTK HLT HT2 HOK HNO HT HO HIMP HSET HSL h0 hso hLL
    go_wp2
    go_returns
    rw [HF.out.1, HF.out.2]
    exact ⟨rfl, HB.out⟩
   ·have hz : ((L.length : Int) == 0) = false := by simp; intro h; rw [h] at h0; exact h0 rfl
    have HSO : Hid (setOk L = L.all attrOk) := Lib.hid (by rw [HIMP.out]; cases L with | nil => exact absurd rfl h0 | cons _ _ => rfl)
    have hL9 : (L.length : Int) ≤ 8 := by omega
    clear h0 HIMP hbw hLL
    go_upto_region 8 with (fail)
    have hX : wr.alloc (.cells #[] 9) = wr.alloc (.cells (svs []).toArray 9) := rfl
    have HB0 : Hid (Below wr.heap.size wr (wr.alloc (.cells (svs []).toArray 9))) := Lib.hid ((Below.refl _ _).alloc (Nat.le_refl _) _)
    have HS0 : Hid (Sl (wr.alloc (.cells (svs []).toArray 9)) 9 (.slice (some ⟨wr.heap.size, 0, none⟩) 0 0) (svs []) wr.heap.size) := Lib.hid (sl_new_strs wr [] (Nat.zero_le _))
    rw [hX]
    clear hX
    generalize wr.alloc (.cells (svs []).toArray 9) = W0 at *
    obtain ⟨W1, rfl⟩ : ∃ W1, W1 = wr := ⟨_, rfl⟩
    have K0 := Lib.hid k0
    clear k0
    go_wp2_with fail
    go_loopg [6, 7] L.length (fun gk2 sv kv wr2 => ∃ (k g : Nat), kv = .int .i64 (k : Int) ∧ k ≤ L.length ∧ L.length - k ≤ gk2 ∧ Hid (Sl wr2 9 sv (svs (attrB (L.take k))) g) ∧ W1.heap.size ≤ g ∧ Hid ((L.take k).all attrOk = true) ∧ Hid (Below W1.heap.size W1 wr2))
    case atStart => exact ⟨0, W1.heap.size, rfl, by omega, by omega, HS0, Nat.le_refl _, Lib.hid rfl, HB0⟩
    case round =>
     clear HS0 HB0
     obtain ⟨k, g, rfl, hk, hgk2, HSl, hg, HA, HB2⟩ := hrel
     have k0 := cell_keep K0.out HB2.out
     by_cases hkl : k < L.length
     ·have hkl2 : (k : Int) < (L.length : Int) := by omega
      obtain ⟨ad2, o2, c2, ho2, hA⟩ := HSET.out.below HB2.out k hkl
      subst ho2
      obtain ⟨a0, a1, a2, aoid, acap⟩ := hA
      replace a1 : wr.cell? ⟨(ad2.add (k * 3)).block, (ad2.add (k * 3)).off + 1, none⟩ = some (.int .i64 L[k].tag) := a1
      replace a2 : wr.cell? ⟨(ad2.add (k * 3)).block, (ad2.add (k * 3)).off + 2, none⟩ = some (.string L[k].text) := a2
      have hsm := HSL.out L[k] (List.getElem_mem hkl)
      have HA2 := Lib.hid (take_all hkl attrOk)
      rw [HA.out, Bool.true_and] at HA2
      have HNA : Hid (attrOk L[k] = false → OK = false ∧ RS = ⟨#[]⟩) := Lib.hid (fun h => HNO.out (HAF.out (by rw [HSO.out]; exact all_false hkl h)))
      have HBK : Hid (attrB (L.take (k + 1)) = attrB (L.take k) ++ [encS (attrF L[k])]) := Lib.hid (by unfold attrB; rw [List.take_succ_eq_append_getElem hkl, List.map_append]; rfl)
      have HBL : Hid ((attrB (L.take k)).length = k) := Lib.hid (by unfold attrB; rw [List.length_map, List.length_take]; omega)
      have HID := Lib.hid (fun W (hb : Below wr.heap.size wr W) => refId_any o2 c2 L[k].oid hsm.oid hsm.oin W (aoid.below hb))
      have hol : arcsOk L[k].oid = true → (oL L[k].oid).length ≤ 200 := fun h => oL_le h hsm.oid hsm.oin
      have htx := hsm.text
      have HAT : Hid (attrOk L[k] = (arcsOk L[k].oid && decide (L[k].tag = 12 ∨ L[k].tag = 19 ∨ L[k].tag = 22) && decide (rightT L[k].tag (bl L[k].text)))) := Lib.hid rfl
      have HAE : Hid (encS (attrF L[k]) = encS (sq (.leaf 0 6 (oL L[k].oid) (lf L[k].tag (bl L[k].text))))) := Lib.hid rfl
      have HEX : Hid (encS (.leaf 0 6 (oL L[k].oid) (lf L[k].tag (bl L[k].text))) = encS (lf 6 (oL L[k].oid)) ++ encS (lf L[k].tag (bl L[k].text))) := Lib.hid (encS_leaf _ _ _)
      have HCK := Lib.hid (refTextCheck_any L[k].tag L[k].text (by omega))
      clear aoid acap hsm HSET HSL
      generalize attrOk L[k] = AO at *
      generalize encS (attrF L[k]) = SA at *
      generalize L[k].oid = oid at *
      generalize L[k].tag = tag at *
      generalize L[k].text = text at *
      have HK0 : Hid (Row (wr.alloc (.cells #[.slice o2 oid.length c2, .int .i64 tag, .string text] 77)) wr.heap.size 77 [.slice o2 oid.length c2, .int .i64 tag, .string text]) := Lib.hid (Row.new wr _ [.slice o2 oid.length c2, .int .i64 tag, .string text])
      have HBX : Hid (Below wr.heap.size wr (wr.alloc (.cells #[.slice o2 oid.length c2, .int .i64 tag, .string text] 77))) := Lib.hid ((Below.refl _ _).alloc (Nat.le_refl _) _)
      go_upto_region 12 with (fail)
      generalize wr.alloc (.cells #[.slice o2 oid.length c2, .int .i64 tag, .string text] 77) = X at *
      have z0 : X.cell? ⟨wr.heap.size, 0, none⟩ = some (.slice o2 oid.length c2) := HK0.out.cell 0
      go_wp2_with fail
      refine (HID.out _ HBX.out).mono ?_
      rintro e w1 ⟨rfl, hb1⟩
      have HB3 := Lib.hid (HBX.out.trans (hb1.mono HBX.out.size))
      have HK3 := Lib.hid (HK0.out.below hb1 HK0.out.lt)
      clear hb1 HBX HK0 HID z0 a0 a1 a2 k0
      have z1 : w1.cell? ⟨wr.heap.size, 1, none⟩ = some (.int .i64 tag) := HK3.out.cell 1
      have z2 : w1.cell? ⟨wr.heap.size, 2, none⟩ = some (.string text) := HK3.out.cell 2
      cases hok : arcsOk oid with
      |false =>
       rw [hok, Bool.false_and, Bool.false_and] at HAT
       have HF := Lib.hid (HNA.out HAT.out)
       have HB4 := Lib.hid (HB.out.trans ((HB2.out.trans (HB3.out.mono HB2.out.size)).mono HB.out.size))
       clear HAT HNA HAE HEX HCK HBK HA2 HBL HA HSl HB2 HB3 HK3 HO HT HT2 HAF HTK HLT HSO HOK HNO K0 hok hol
       go_wp2
       go_returns
       rw [HF.out.1, HF.out.2]
       exact ⟨rfl, HB4.out⟩
      |true =>
       rw [hok, Bool.true_and] at HAT
       have hol2 := hol hok
       by_cases htg : tag = 12 ∨ tag = 19 ∨ tag = 22
       ·rw [decide_eq_true htg, Bool.true_and] at HAT
        cases hck : decide (rightT tag (bl text)) with
        |false =>
         rw [hck] at HAT HCK
         have HF := Lib.hid (HNA.out HAT.out)
         have HB4 := Lib.hid (HB.out.trans ((HB2.out.trans (HB3.out.mono HB2.out.size)).mono HB.out.size))
         clear HAT HNA HAE HEX  HBK HA2 HBL HA HSl HB2 HB3 HK3 HO HT HT2 HAF HTK HLT HSO HOK HNO K0 hok hol
         clear hck
         rcases htg with rfl | rfl | rfl
         ·have b12 : ((12 : Int) != 12) = false := by decide
          go_wp2_with fail
          refine (HCK.out _).mono ?_
          rintro e w2 ⟨rfl, rfl⟩
          clear HCK
          go_wp2
          go_returns
          rw [HF.out.1, HF.out.2]
          exact ⟨rfl, HB4.out⟩
         ·have b12 : ((19 : Int) != 12) = true := by decide
          have b19 : ((19 : Int) != 19) = false := by decide
          go_wp2_with fail
          refine (HCK.out _).mono ?_
          rintro e w2 ⟨rfl, rfl⟩
          clear HCK
          go_wp2
          go_returns
          rw [HF.out.1, HF.out.2]
          exact ⟨rfl, HB4.out⟩
         ·have b12 : ((22 : Int) != 12) = true := by decide
          have b19 : ((22 : Int) != 19) = true := by decide
          have b22 : ((22 : Int) != 22) = false := by decide
          go_wp2_with fail
          refine (HCK.out _).mono ?_
          rintro e w2 ⟨rfl, rfl⟩
          clear HCK
          go_wp2
          go_returns
          rw [HF.out.1, HF.out.2]
          exact ⟨rfl, HB4.out⟩
        |true =>
         rw [hck] at HAT HCK
         clear hck
         rw [opS_bl hok] at *
         have s6 : (encS (lf 6 (oL oid))).size ≤ 214 := by rw [encS_size]; have := (lf_len (t := 6) (C := oL oid) (by decide) (by decide) (by omega)).2; omega
         have s4 : (encS (lf tag (bl text))).size ≤ 114 := by rw [encS_size]; have := (lf_len (t := tag) (C := bl text) (by omega) (by omega) (by rw [bl_length]; omega)).2; rw [bl_length] at this; omega
         have HLF := Lib.hid (refLeaf19_any tag text (by omega) (by omega))
         have HSQ := Lib.hid (refSeq_is _ HEX.out (by rw [← encS_size, HEX.out, ByteArray.size_append]; omega))
         rw [← HAE.out] at HSQ
         generalize encS (lf 6 (oL oid)) = S6 at *
         generalize encS (lf tag (bl text)) = S4 at *
         have hov : ¬ 9223372036854775807 < S6.size + S4.size := by omega
         obtain ⟨cs, rfl, hcs, hcm⟩ := HSl.out.open (n := k) (by rw [svs_length]; exact HBL.out)
         have hko : AO = true := HAT.out
         have HBW := Lib.hid (HB2.out.trans (HB3.out.mono HB2.out.size))
         have HSW := Lib.hid (HSl.out.keep HB3.out)
         clear HAT HNA HAE HEX HBL HA HSl HB2 HB3 hok hol hol2
         rcases htg with rfl | rfl | rfl
         ·have b12 : ((12 : Int) != 12) = false := by decide
          go_wp2_with fail
          refine (HCK.out _).mono ?_
          rintro e w2 ⟨rfl, rfl⟩
          clear HCK
          go_wp2_with fail
          refine (HLF.out _).mono ?_
          rintro e w3 ⟨rfl, hb3⟩
          have HB6 := Lib.hid (HBW.out.trans (hb3.mono HBW.out.size))
          have HS6 := Lib.hid (HSW.out.keep hb3)
          clear hb3 HBW HSW HK3 HLF z1 z2
          go_wp2_with fail
          refine (HSQ.out _).mono ?_
          rintro e w4 ⟨rfl, hb4⟩
          have HB7 := Lib.hid (HB6.out.trans (hb4.mono HB6.out.size))
          have HS7 := Lib.hid (HS6.out.keep hb4)
          have HSX : Hid (Sl (w4.alloc (.cells #[.string SA] 9)) 9 (.slice (some ⟨g, 0, none⟩) k cs) (svs (attrB (L.take k))) g) := Lib.hid (HS7.out.alloc _)
          have HBX : Hid (Below W1.heap.size W1 (w4.alloc (.cells #[.string SA] 9))) := Lib.hid (HB7.out.alloc HB7.out.size _)
          have HOne : Hid (Came (w4.alloc (.cells #[.string SA] 9)) (some ⟨w4.heap.size, 0, none⟩) (svs [SA])) := Lib.hid (Came.sl (sl_new_strs w4 [SA] (by show 1 ≤ maxLen; unfold maxLen; omega)))
          have hX : W1.heap.size ≤ (w4.alloc (.cells #[.string SA] 9)).heap.size := HBX.out.size
          have hfb : (attrB (L.take k)).length + [SA].length ≤ 1000000000000 := by unfold attrB; rw [List.length_map, List.length_take, List.length_singleton]; omega
          clear hb4 HB6 HS6 HB7 HS7 HSQ
          go_wp2_with (at_builtin; refine wpList_append_strs rfl (.tmp 73) (.tmp 82) rfl (l := attrB (L.take k)) (g := g) rfl HSX.out (some ⟨w4.heap.size, 0, none⟩) 1 1 [SA] rfl rfl HOne.out hfb ?_)
          intro v5 w5 g5 hs5 hg5 hgr5
          have HB8 : Hid (Below W1.heap.size W1 w5) := Lib.hid (HBX.out.grown hgr5 hX (by intro q hq; injection hq with hq; omega))
          have HS8 : Hid (Sl w5 9 v5 (svs (attrB (L.take (k + 1)))) g5) := Lib.hid (by rw [HBK.out]; exact hs5)
          have hg8 : W1.heap.size ≤ g5 := by
           rcases hg5 with h | h
           ·omega
           ·rw [h]; simpa using hX
          have HA8 := Lib.hid (HA2.out.trans hko)
          clear hs5 hg5 hgr5 HSX HBX HOne HBK HA2
          go_wp2
          go_roundg (L.length - (k + 1))
          case measure => omega
          case rel => exact ⟨k + 1, g5, by simp, by omega, by omega, HS8, hg8, HA8, HB8⟩
         ·have b12 : ((19 : Int) != 12) = true := by decide
          have b19 : ((19 : Int) != 19) = false := by decide
          go_wp2_with fail
          refine (HCK.out _).mono ?_
          rintro e w2 ⟨rfl, rfl⟩
          clear HCK
          go_wp2_with fail
          refine (HLF.out _).mono ?_
          rintro e w3 ⟨rfl, hb3⟩
          have HB6 := Lib.hid (HBW.out.trans (hb3.mono HBW.out.size))
          have HS6 := Lib.hid (HSW.out.keep hb3)
          clear hb3 HBW HSW HK3 HLF z1 z2
          go_wp2_with fail
          refine (HSQ.out _).mono ?_
          rintro e w4 ⟨rfl, hb4⟩
          have HB7 := Lib.hid (HB6.out.trans (hb4.mono HB6.out.size))
          have HS7 := Lib.hid (HS6.out.keep hb4)
          have HSX : Hid (Sl (w4.alloc (.cells #[.string SA] 9)) 9 (.slice (some ⟨g, 0, none⟩) k cs) (svs (attrB (L.take k))) g) := Lib.hid (HS7.out.alloc _)
          have HBX : Hid (Below W1.heap.size W1 (w4.alloc (.cells #[.string SA] 9))) := Lib.hid (HB7.out.alloc HB7.out.size _)
          have HOne : Hid (Came (w4.alloc (.cells #[.string SA] 9)) (some ⟨w4.heap.size, 0, none⟩) (svs [SA])) := Lib.hid (Came.sl (sl_new_strs w4 [SA] (by show 1 ≤ maxLen; unfold maxLen; omega)))
          have hX : W1.heap.size ≤ (w4.alloc (.cells #[.string SA] 9)).heap.size := HBX.out.size
          have hfb : (attrB (L.take k)).length + [SA].length ≤ 1000000000000 := by unfold attrB; rw [List.length_map, List.length_take, List.length_singleton]; omega
          clear hb4 HB6 HS6 HB7 HS7 HSQ
          go_wp2_with (at_builtin; refine wpList_append_strs rfl (.tmp 73) (.tmp 82) rfl (l := attrB (L.take k)) (g := g) rfl HSX.out (some ⟨w4.heap.size, 0, none⟩) 1 1 [SA] rfl rfl HOne.out hfb ?_)
          intro v5 w5 g5 hs5 hg5 hgr5
          have HB8 : Hid (Below W1.heap.size W1 w5) := Lib.hid (HBX.out.grown hgr5 hX (by intro q hq; injection hq with hq; omega))
          have HS8 : Hid (Sl w5 9 v5 (svs (attrB (L.take (k + 1)))) g5) := Lib.hid (by rw [HBK.out]; exact hs5)
          have hg8 : W1.heap.size ≤ g5 := by
           rcases hg5 with h | h
           ·omega
           ·rw [h]; simpa using hX
          have HA8 := Lib.hid (HA2.out.trans hko)
          clear hs5 hg5 hgr5 HSX HBX HOne HBK HA2
          go_wp2
          go_roundg (L.length - (k + 1))
          case measure => omega
          case rel => exact ⟨k + 1, g5, by simp, by omega, by omega, HS8, hg8, HA8, HB8⟩
         ·have b12 : ((22 : Int) != 12) = true := by decide
          have b19 : ((22 : Int) != 19) = true := by decide
          have b22 : ((22 : Int) != 22) = false := by decide
          go_wp2_with fail
          refine (HCK.out _).mono ?_
          rintro e w2 ⟨rfl, rfl⟩
          clear HCK
          go_wp2_with fail
          refine (HLF.out _).mono ?_
          rintro e w3 ⟨rfl, hb3⟩
          have HB6 := Lib.hid (HBW.out.trans (hb3.mono HBW.out.size))
          have HS6 := Lib.hid (HSW.out.keep hb3)
          clear hb3 HBW HSW HK3 HLF z1 z2
          go_wp2_with fail
          refine (HSQ.out _).mono ?_
          rintro e w4 ⟨rfl, hb4⟩
          have HB7 := Lib.hid (HB6.out.trans (hb4.mono HB6.out.size))
          have HS7 := Lib.hid (HS6.out.keep hb4)
          have HSX : Hid (Sl (w4.alloc (.cells #[.string SA] 9)) 9 (.slice (some ⟨g, 0, none⟩) k cs) (svs (attrB (L.take k))) g) := Lib.hid (HS7.out.alloc _)
          have HBX : Hid (Below W1.heap.size W1 (w4.alloc (.cells #[.string SA] 9))) := Lib.hid (HB7.out.alloc HB7.out.size _)
          have HOne : Hid (Came (w4.alloc (.cells #[.string SA] 9)) (some ⟨w4.heap.size, 0, none⟩) (svs [SA])) := Lib.hid (Came.sl (sl_new_strs w4 [SA] (by show 1 ≤ maxLen; unfold maxLen; omega)))
          have hX : W1.heap.size ≤ (w4.alloc (.cells #[.string SA] 9)).heap.size := HBX.out.size
          have hfb : (attrB (L.take k)).length + [SA].length ≤ 1000000000000 := by unfold attrB; rw [List.length_map, List.length_take, List.length_singleton]; omega
          clear hb4 HB6 HS6 HB7 HS7 HSQ
          go_wp2_with (at_builtin; refine wpList_append_strs rfl (.tmp 73) (.tmp 82) rfl (l := attrB (L.take k)) (g := g) rfl HSX.out (some ⟨w4.heap.size, 0, none⟩) 1 1 [SA] rfl rfl HOne.out hfb ?_)
          intro v5 w5 g5 hs5 hg5 hgr5
          have HB8 : Hid (Below W1.heap.size W1 w5) := Lib.hid (HBX.out.grown hgr5 hX (by intro q hq; injection hq with hq; omega))
          have HS8 : Hid (Sl w5 9 v5 (svs (attrB (L.take (k + 1)))) g5) := Lib.hid (by rw [HBK.out]; exact hs5)
          have hg8 : W1.heap.size ≤ g5 := by
           rcases hg5 with h | h
           ·omega
           ·rw [h]; simpa using hX
          have HA8 := Lib.hid (HA2.out.trans hko)
          clear hs5 hg5 hgr5 HSX HBX HOne HBK HA2
          go_wp2
          go_roundg (L.length - (k + 1))
          case measure => omega
          case rel => exact ⟨k + 1, g5, by simp, by omega, by omega, HS8, hg8, HA8, HB8⟩
       ·rw [decide_eq_false htg, Bool.false_and] at HAT
        have b12 : (tag != 12) = true := by simp; omega
        have b19 : (tag != 19) = true := by simp; omega
        have b22 : (tag != 22) = true := by simp; omega
        have HF := Lib.hid (HNA.out HAT.out)
        have HB4 := Lib.hid (HB.out.trans ((HB2.out.trans (HB3.out.mono HB2.out.size)).mono HB.out.size))
        clear HAT HNA HAE HEX HCK HBK HA2 HBL HA HSl HB2 HB3 HK3 HO HT HT2 HAF HTK HLT HSO HOK HNO K0 hok hol
        clear htg
        go_wp2
        go_returns
        rw [HF.out.1, HF.out.2]
        exact ⟨rfl, HB4.out⟩
     ·have hkl2 : ¬ (k : Int) < (L.length : Int) := by omega
      obtain rfl : k = L.length := by omega
      have hall : L.all attrOk = true := by have := HA.out; rw [List.take_of_length_le (Nat.le_refl _)] at this; exact this
      have hso : setOk L = true := by rw [HSO.out]; exact hall
      have hae := List.all_eq_true.1 hall
      have hBL : (attrB L).length = L.length := by unfold attrB; rw [List.length_map]
      rw [List.take_of_length_le (Nat.le_refl _)] at HSl
      obtain ⟨cs, rfl, hcs, hcm⟩ := HSl.out.open (n := L.length) (by rw [svs_length]; exact hBL)
      have HSR := Lib.hid (refSortS_any (some ⟨g, 0, none⟩) cs (attrB L) (by omega) hcm (by omega) wr (Came.sl HSl.out) (fun x hx => by have := attrB_len HSL.out hae x hx; omega))
      rw [hBL] at HSR
      have HTN : Hid ((l.take (i + 1)).all setOk = true) := Lib.hid (by rw [HT2.out]; exact hso)
      have hLT := HLT.out hso
      rw [HTK.out, ← HO.out] at hLT
      have HJ : Hid (catS (sortS (attrB L)) = encS (joinF (sortF (L.map attrF)))) := Lib.hid (attrB_sort L)
      have hsl : (sortS (attrB L)).length = L.length := by rw [sortS_len, hBL]
      have HXL : Hid (∀ x ∈ sortS (attrB L), x.size ≤ 342) := Lib.hid (sortB_len HSL.out hae)
      have HEL := Lib.hid (fun s (h : encS (joinF (sortF (L.map attrF))) = s) => refSet_is _ h (by have := setK_len hL8 HSL.out hso; omega))
      have HNX : Hid (encS (setF L) = encS (.node 0 17 (joinF (sortF (L.map attrF))) .nil)) := Lib.hid rfl
      rw [← HNX.out] at HEL
      rw [← HJ.out] at HEL
      have HW := Lib.hid (HB.out.trans (HB2.out.mono HB.out.size))
      have HON : Hid (∀ s, o ++ encS (setF L) = s → s = encS (joinF ((l.take (i + 1)).map setF))) := Lib.hid (fun s h => by rw [← h, HTK.out, HO.out])
      clear hall hae HSL HSET HT2 HLT HTK HAF HNO HSO HSl HA HB2 HJ HNX HT HO hBL
      generalize encS (setF L) = SS at *
      generalize sortS (attrB L) = Q at *
      go_wp2_with fail
      refine HSR.out.mono ?_
      rintro e w1 ⟨v1, g1, rfl, hS1, hg1, hb1⟩
      have HW1 := Lib.hid (HW.out.trans (hb1.mono HW.out.size))
      have HQ := Lib.hid hS1
      obtain ⟨c1, rfl, hc1, hcm1⟩ := hS1.open (n := L.length) (by rw [svs_length]; exact hsl)
      clear hb1 hS1 HW HSR k0 K0
      go_wp2_with fail
      go_loopg [11, 12] L.length (fun gk3 sv kv wr3 => ∃ (k : Nat), sv = .string (catS (Q.take k)) ∧ kv = .int .i64 (k : Int) ∧ k ≤ L.length ∧ L.length - k ≤ gk3 ∧ Hid (Sl wr3 9 (.slice (some ⟨g1, 0, none⟩) L.length c1) (svs Q) g1) ∧ Hid (Below w.heap.size w wr3))
      case atStart => exact ⟨0, rfl, rfl, by omega, by omega, HQ, HW1⟩
      case round =>
       clear HQ HW1
       obtain ⟨k, rfl, rfl, hk, hgk3, HQ, HW1⟩ := hrel
       by_cases hkl : k < L.length
       ·have hkl2 : (k : Int) < (L.length : Int) := by omega
        have hcl : wr.cell? ⟨g1, k, none⟩ = some (.string (Q[k]'(by omega))) := by
         have := HQ.out.cell (i := k) (by rw [svs_length]; omega)
         rw [this]; simp [svs]
        have HSN : Hid (catS (Q.take k) ++ Q[k]'(by omega) = catS (Q.take (k + 1))) := Lib.hid (by rw [List.take_succ_eq_append_getElem (by omega), catS_snoc])
        have hsz : (catS (Q.take k)).size ≤ 3420 := by
         have := catS_len (Q.take k) 342 (fun x hx => HXL.out x (List.mem_of_mem_take hx))
         rw [List.length_take] at this
         omega
        have hq := HXL.out (Q[k]'(by omega)) (List.getElem_mem _)
        have hov : ¬ 9223372036854775807 < (catS (Q.take k)).size + (Q[k]'(by omega)).size := by omega
        go_wp2
        rw [HSN.out]
        go_roundg (L.length - (k + 1))
        case measure => omega
        case rel => exact ⟨k + 1, rfl, by simp, by omega, by omega, HQ, HW1⟩
       ·have hkl2 : ¬ (k : Int) < (L.length : Int) := by omega
        obtain rfl : k = L.length := by omega
        rw [List.take_of_length_le (by omega)]
        have HE2 := Lib.hid (HEL.out _ rfl)
        have hov : ¬ 9223372036854775807 < o.size + SS.size := by rw [ByteArray.size_append] at hLT; omega
        have HON2 := HON
        clear HEL HQ HXL HON
        go_wp2_with fail
        refine (HE2.out _).mono ?_
        rintro e w2 ⟨rfl, hb2⟩
        have HB3 := Lib.hid (HW1.out.trans (hb2.mono HW1.out.size))
        clear hb2 HW1 HE2
        go_wp2
        go_roundg (l.length - (i + 1))
        case measure => omega
        case rel => exact ⟨i + 1, _, rfl, by simp, by omega, by omega, hLT, Lib.hid (HON2.out _ rfl), HTN, HB3⟩
  ·have hlt2 : ¬ (i : Int) < (l.length : Int) := by omega
   have hall : l.all setOk = true := by have := HT.out; rw [List.take_of_length_le (by omega)] at this; exact this
   have HF := Lib.hid (HOK.out hall)
   have hjn : encS (joinF (l.map setF)) = o := by rw [HO.out, List.take_of_length_le (by omega)]
   have HQ := Lib.hid (refSeq_is (joinF (l.map setF)) hjn (by rw [← encS_size, hjn]; omega))
   clear hall hjn HO HT HNO HOK HC HS
   go_wp2_with fail
   refine (HQ.out _).mono ?_
   rintro e w3 ⟨rfl, hb3⟩
   have HB3 := Lib.hid (HB.out.trans (hb3.mono HB.out.size))
   clear hb3 HB HQ
   go_wp2
   go_returns
   rw [HF.out.1, HF.out.2]
   exact ⟨rfl, HB3.out⟩
end Go.Proofs.YtiiimhamfibdbaaGreat
