/- What the reference's Get of object identifiers gives. Of every text. -/
import Derived.Test.YtjdkpdaekmogkaaRefOid2
import Derived.Deep.CutRange
import Derived.Deep.RegionLaw
namespace Go.Proofs.Ytjdkpdaekmogkaa
open Go.RowKit Go.PlainAid
set_option linter.unusedVariables false
theorem oN_map_none (A : List Int) : (none : Option (List Int)).map (fun q => A ++ q) = none := rfl
theorem came_tail {w : World} {t : TypeId} {v : Value} {u : Value} {L : List Value} {g : Nat} (h : Sl w t v (u :: L) g) : Came w (some ⟨g, 1, none⟩) L := by
  obtain ⟨sp, _, _, hr⟩ := h
  intro j x hj
  refine ⟨_, rfl, ?_⟩
  have hj' := (List.getElem?_eq_some_iff.1 hj).1
  have e : (⟨g, 1, none⟩ : Addr).add j = ⟨g, 1 + j, none⟩ := by unfold Addr.add; split <;> simp_all
  rw [e, hr.cell, List.getElem?_append_left (by simp; omega), Nat.add_comm, List.getElem?_cons_succ, hj]
theorem oGet_some {b : ByteArray} {f : Int} {r : List Int} (h1 : 1 ≤ b.size) (h2 : oidWrong b.size (bl b) = -1) (h : oN 0 (bl b) = some (f :: r)) : ogL b = oFirst f :: (f - 40 * oFirst f) :: r ∧ ogB b = true := by
  unfold ogL ogB oGet
  rw [bl_length, if_pos ⟨h1, h2⟩, h]
  exact ⟨rfl, rfl⟩
theorem oGet_none {b : ByteArray} (h : oN 0 (bl b) = none) : ogL b = [] ∧ ogB b = false := by
  unfold ogL ogB oGet
  rw [h]; simp
theorem oGet_no {b : ByteArray} (h : ¬ (1 ≤ b.size ∧ oidWrong b.size (bl b) = -1)) : ogL b = [] ∧ ogB b = false := by
  unfold ogL ogB oGet
  rw [bl_length, if_neg h]; simp
/-- A right content has numbers. -/
theorem oN_ne {b : ByteArray} (h1 : 1 ≤ b.size) (h2 : oidWrong b.size (bl b) = -1) {A : List Int} (h : oN 0 (bl b) = some A) : ∃ f r, A = f :: r ∧ (0 ≤ f ∧ f ≤ 18446744073709551615) ∧ (∀ x ∈ r, 0 ≤ x ∧ x ≤ 18446744073709551615) := by
  unfold oidWrong at h2
  rw [if_neg (by omega)] at h2
  obtain ⟨e1, e2⟩ := oN_one _ (bl b) (bl_isB b) true 0 0 A h2 (by rw [bl_length]; simp) (by simp) (by intro h; cases h) (by simpa using h)
  match A, e1, e2 with
  | [], e1, _ =>
    rw [hiG_zero, List.nil_append] at e1
    have := bl_length b
    rw [← e1] at this
    simp at this; omega
  | f :: r, e1, e2 => exact ⟨f, r, rfl, e2 f (List.mem_cons_self ..), fun x hx => e2 x (List.mem_cons_of_mem _ hx)⟩
theorem oFirst_bd (f : Int) (h : 0 ≤ f) : 0 ≤ oFirst f ∧ oFirst f ≤ 2 ∧ 40 * oFirst f ≤ f := by unfold oFirst; split <;> omega
theorem ogL_len (b : ByteArray) : (ogL b).length ≤ b.size + 1 := by
  unfold ogL
  cases h : oGet (bl b) with
  | none => simp
  | some qs => have := oGet_len _ _ h; rw [bl_length] at this; simpa using this
/-- What is got is put as it was. -/
theorem og_put (b : ByteArray) (h : ogB b = true) : arcsOk (ogL b) = true ∧ opS (ogL b) = b ∧ 2 ≤ (ogL b).length := by
  unfold ogB at h
  obtain ⟨qs, ha⟩ := Option.isSome_iff_exists.1 h
  obtain ⟨h1, h2, _, h4⟩ := oGet_one (bl b) (bl_isB b) qs ha
  have e : ogL b = qs := by unfold ogL; rw [ha]; rfl
  rw [e]
  exact ⟨h1, by rw [opS_ok h1, h2, str_bl], h4⟩
theorem og_bad (b : ByteArray) (h : ogB b = false) : ogL b = [] := by
  unfold ogB at h
  unfold ogL
  cases h2 : oGet (bl b) with
  | none => rfl
  | some qs => rw [h2] at h; cases h
theorem ogL_in (b : ByteArray) : ∀ x ∈ ogL b, inK .u64 x := by
  unfold ogL
  cases h : oGet (bl b) with
  | none => intro x hx; cases hx
  | some qs => exact (oGet_one (bl b) (bl_isB b) qs h).2.2.1
/-- What is put is got. -/
theorem op_back (l : List Int) (h : arcsOk l = true) (hin : ∀ x ∈ l, inK .u64 x) : ogL (opS l) = l ∧ ogB (opS l) = true ∧ oidWrong (opS l).size (bl (opS l)) = -1 := by
  have hb : bl (opS l) = oL l := by rw [opS_ok h, bl_str (oL_isB l)]
  have hs : (opS l).size = (oL l).length := by rw [← bl_length, hb]
  have hg := oGet_put l h hin
  unfold ogL ogB
  rw [hb, hg, hs]
  exact ⟨rfl, rfl, (oL_right l h).2⟩
theorem opS_size (l : List Int) (hin : ∀ x ∈ l, inK .u64 x) : (opS l).size ≤ 10 * l.length := by
  by_cases h : arcsOk l = true
  · rw [opS_ok h, strOfNums_size]
    obtain ⟨a, b, r, rfl⟩ := arcsOk_two h
    obtain ⟨k0, k1, k2, k3⟩ := (arcsOk_iff a b r).1 h
    rw [oL_eq]
    have := flat_size ((40 * a + b) :: r) (fun x hx => by
      rcases List.mem_cons.1 hx with rfl | hx
      · by_cases c : a < 2
        · have := k2 c; omega
        · have := k3 (by omega); omega
      · exact (hin x (by simp [hx])).2)
    rw [List.length_cons] at this
    rw [List.length_cons, List.length_cons]
    omega
  · rw [opS_bad (by simpa using h)]; exact Nat.zero_le _
theorem op_more (l : List Int) (m : Int) (h : arcsOk l = true) (hm : m ≤ 18446744073709551615) : arcsOk (l ++ [m]) = true ∧ opS (l ++ [m]) = opS l ++ strOfNums (oB m) ∧ 1 ≤ (strOfNums (oB m)).size ∧ (strOfNums (oB m)).size ≤ 10 := by
  obtain ⟨h1, h2⟩ := oL_more l m h
  refine ⟨h1, by rw [opS_ok h1, opS_ok h, h2, strOfNums_append], ?_, ?_⟩
  · rw [strOfNums_size]; exact oB_pos m
  · rw [strOfNums_size]; exact oB_le m hm
set_option maxRecDepth 100000 in
set_option maxHeartbeats 1600000 in
theorem refOidGet_any (b : ByteArray) (hb : b.size ≤ 1000000) (w : World) :
    Calls Try.prog 16 #[.string b] w fun e w' => ∃ o c, e = .returned (.tuple #[.slice o (ogL b).length c, .bool (ogB b)]) ∧ Came w' o (ivs .u64 (ogL b)) ∧ (ogL b).length ≤ c ∧ c ≤ maxLen ∧ Below w.heap.size w w' := by
  by_cases hz : b.size = 0
  · have hz0 : ((b.size : Int) == 0) = true := beq_iff_eq.2 (by omega)
    obtain ⟨e1, e2⟩ := oGet_no (b := b) (by omega)
    rw [e1, e2]
    clear hz e1 e2
    go_enter Try.func16, Try.ntmps16
    go_wp2
    go_returns
    exact ⟨none, 0, rfl, Came.nil _ _, Nat.zero_le _, Nat.zero_le _, Below.refl _ _⟩
  · have hz0 : ((b.size : Int) == 0) = false := beq_eq_false_iff_ne.2 (by omega)
    have HWr := Lib.hid (refOidWrong_any b.size b (by unfold maxLen; omega) (by omega))
    by_cases hw : oidWrong b.size (bl b) = -1
    · have hz1 : 1 ≤ b.size := by omega
      have HNO := Lib.hid (fun h => oGet_none (b := b) h)
      have HSO := Lib.hid (fun (f : Int) (r : List Int) h => oGet_some (f := f) (r := r) hz1 hw h)
      have HNE := Lib.hid (fun (A : List Int) h => oN_ne hz1 hw (A := A) h)
      rw [hw] at HWr
      have HGB := Lib.hid (get_bt b)
      have HX0 := Lib.hid (bt_nonneg b)
      have HX1 := Lib.hid (bt_le b)
      have HD := Lib.hid (bl_drop b)
      have HDE := Lib.hid (bl_drop_end b)
      generalize ogL b = L at *
      generalize ogB b = OK at *
      obtain ⟨R, HR⟩ : ∃ R, Hid (oN 0 (bl b) = R) := ⟨_, Lib.hid rfl⟩
      have hbi : (b.size : Int) ≤ 1000000 := by omega
      clear hz hw
      go_enter Try.func16, Try.ntmps16
      go_wp2_with fail
      refine (HWr.out _).mono ?_
      rintro e w1 ⟨rfl, rfl⟩
      go_wp2
      go_loopw [4, 5, 6] (fun sv nv iv wr => ∃ (i g c : Nat) (n : Int) (A : List Int), sv = .slice (some ⟨g, 0, none⟩) A.length c ∧ nv = .int .u64 n ∧ iv = .int .i64 (i : Int) ∧ i ≤ b.size ∧ A.length ≤ i ∧ (0 ≤ n ∧ n ≤ 18446744073709551615) ∧ Hid ((oN n ((bl b).drop i)).map (fun q => A ++ q) = R) ∧ w1.heap.size ≤ g ∧ Hid (Sl wr 40 (.slice (some ⟨g, 0, none⟩) A.length c) (ivs .u64 A) g) ∧ Hid (Below w1.heap.size w1 wr)) (fun _ _ iv _ => b.size - (intOf iv).toNat)
      case atStart => exact ⟨0, w1.heap.size, 0, 0, [], rfl, rfl, rfl, by omega, by simp, by omega, Lib.hid (by rw [List.drop_zero, HR.out]; cases R <;> rfl), Nat.le_refl _, Lib.hid (by have := sl_new_u64 w1 [] (by simp [maxLen]); simpa [ivs] using this), Lib.hid (by go_grown)⟩
      case round =>
        obtain ⟨i, g, c, n, A, rfl, rfl, rfl, hi, hA, ⟨n0, n1⟩, HM, hg, HS, HB⟩ := hrel
        by_cases hlt : i < b.size
        · have hM2 := HM.out
          rw [HD.out i hlt, oN_cons] at hM2
          have hbt := HGB.out i hlt
          have hx0 := HX0.out i
          have hx1 := HX1.out i
          have hlti : (i : Int) < (b.size : Int) := by omega
          obtain ⟨x, hx⟩ : ∃ x, bt b i = x := ⟨_, rfl⟩
          rw [hx] at hM2 hbt hx0 hx1
          clear hx HM
          by_cases hbig : 144115188075855871 < n
          · rw [if_pos hbig] at hM2
            have HF : Hid (L = [] ∧ OK = false) := Lib.hid (HNO.out (by rw [HR.out, ← hM2]; rfl))
            clear hM2
            go_wp2
            go_returns
            refine ⟨none, 0, ?_⟩
            rw [HF.out.1, HF.out.2]
            exact ⟨rfl, Came.nil _ _, Nat.zero_le _, Nat.zero_le _, HB.out⟩
          · rw [if_neg hbig] at hM2
            have hq0 : 0 ≤ 128 * n + x % 128 := by omega
            have hq1 : 128 * n + x % 128 ≤ 18446744073709551615 := by omega
            by_cases hlo : x < 128
            · rw [if_pos hlo] at hM2
              have HM3 := Lib.hid (show (oN 0 ((bl b).drop (i + 1))).map (fun q => (A ++ [128 * n + x % 128]) ++ q) = R by
                rw [← hM2, Option.map_map]
                congr 1
                funext q
                simp)
              clear hM2
              go_wp2_with (at_builtin; refine wpList_append_u64 rfl (.tmp 39) (.tmp 41) rfl (l := A) (g := g) rfl (HS.out.alloc _) (some ⟨wr.heap.size, 0, none⟩) 1 1 [128 * n + x % 128] rfl rfl (Came.sl (sl_new_u64 wr [128 * n + x % 128] (by simp [maxLen]))) (by simp; omega) ?_)
              intro v' w2 g' hs2 hg2 hgr2
              obtain ⟨c', rfl, _, _⟩ := hs2.open (n := A.length + 1) (by rw [ivs_length]; simp)
              have hsz := HB.out.size
              have HB2 := Lib.hid ((HB.out.alloc hsz (.cells (ivs .u64 [128 * n + x % 128]).toArray 40)).grown hgr2 (by simp; omega) (by intro k hk; cases hk; exact hg))
              have hg3 : w1.heap.size ≤ g' := by rcases hg2 with h | h <;> first | omega | (simp at h; omega)
              have HL1 : Hid ((A ++ [128 * n + x % 128]).length = A.length + 1) := Lib.hid (by simp)
              have HS2 := Lib.hid hs2
              clear hs2 hg2 hgr2 HS HB
              go_wp2
              go_roundw
              case rel => exact ⟨i + 1, g', c', 0, A ++ [128 * n + x % 128], by rw [HL1.out], rfl, by simp, by omega, by rw [HL1.out]; omega, by omega, HM3, hg3, by rw [HL1.out]; exact HS2, HB2⟩
              case measure => simp [intOf]; omega
            · rw [if_neg hlo] at hM2
              have HM3 := Lib.hid hM2
              clear hM2
              go_wp2
              go_roundw
              case rel => exact ⟨i + 1, g, c, 128 * n + x % 128, A, rfl, rfl, by simp, by omega, by omega, ⟨hq0, hq1⟩, HM3, hg, HS, HB⟩
              case measure => simp [intOf]; omega
        · have hne : ¬ (i : Int) < (b.size : Int) := by omega
          have hRA : oN 0 (bl b) = some A := by
            rw [HR.out, ← HM.out, HDE.out i (by omega)]
            simp [oN]
          obtain ⟨f, r, rfl, ⟨f0, f1⟩, hr⟩ := HNE.out A hRA
          obtain ⟨e1, e2⟩ := HSO.out f r hRA
          have hfb := oFirst_bd f f0
          have HF80 : Hid ((f < 80 ∧ f / 40 = oFirst f) ∨ (¬ f < 80 ∧ 2 = oFirst f)) := Lib.hid (by unfold oFirst; split <;> omega)
          generalize oFirst f = F at *
          have HL : Hid (L = _ :: _ :: r) := Lib.hid e1
          have HK := Lib.hid e2
          have hA2 : r.length + 1 ≤ b.size := by simpa using Nat.le_trans hA hi
          have q0 : wr.cell? ⟨g, 0, none⟩ = some (.int .u64 f) := HS.out.cell (i := 0) (by simp [ivs])
          have hlr : (f :: r).length = r.length + 1 := rfl
          rw [hlr] at HS
          rw [hlr]
          obtain ⟨c2, hce, hc1, hc2⟩ := HS.out.open (n := r.length + 1) (by rw [ivs_length]; rfl)
          cases hce
          have HCT : Came wr (if c = 1 then some ⟨g, 0, none⟩ else some ⟨g, 1, none⟩) (ivs .u64 r) := by
            by_cases h1 : c = 1
            · have : r = [] := List.length_eq_zero_iff.1 (by omega)
              rw [this]; exact Came.nil _ _
            · rw [if_neg h1]; exact came_tail (u := .int .u64 f) (L := ivs .u64 r) HS.out
          clear hRA e1 e2 hr HM HNE HSO HNO HGB HX0 HX1 HD HDE hlr hA hi
          have hsz := HB.out.size
          have hci : (1 : Int) ≤ (c : Int) := by omega
          have hcr : (r.length : Int) + 1 ≤ (c : Int) := by omega
          have h1r : (1 : Int) ≤ (r.length : Int) + 1 := by omega
          rcases HF80.out with ⟨hf8, hfe⟩ | ⟨hf8, hfe⟩
          · have hwa : IntKind.u64.wrap (40 * F) = 40 * F := by rw [IntKind.wrap_u64]; omega
            have hwb : IntKind.u64.wrap (f - 40 * F) = f - 40 * F := by rw [IntKind.wrap_u64]; omega
            have HN := Lib.hid ((sl_new_u64 wr [F, f - 40 * F] (by simp [maxLen])).drew)
            have HC2 := Lib.hid ((HCT.alloc (.cells (ivs .u64 [F, f - 40 * F]).toArray 40)).drew)
            have HBb := Lib.hid (HB.out.alloc HB.out.size (.cells (ivs .u64 [F, f - 40 * F]).toArray 40)).drew
            have HOP := Lib.hid (fun (v' : Value) (w2 : World) (g' : Nat) (h : Sl w2 40 v' (ivs .u64 ([F, f - 40 * F] ++ r)) g') => h.open (n := r.length + 2) (by rw [ivs_length]; simp))
            clear HS HCT
            go_wp2
            go_region_law (refine step_append_u64 rfl (.tmp 58) (.tmp 60) rfl (l := [_, _]) rfl HN.out _ r.length (c - 1) r rfl rfl HC2.out (by simp; omega) ?_; intro v' w2 g' hs1 hg1 hgr1; obtain ⟨d1, rfl, hd1, hd2⟩ := HOP.out v' w2 g' hs1)
            all_goals
              have hfin : Came w2 (some ⟨g', 0, none⟩) (ivs .u64 L) := by rw [HL.out]; exact Came.sl hs1
              have hB2 : Below w1.heap.size w1 w2 := HBb.out.grown hgr1 (by simp; omega) (by intro k hk; cases hk; exact hsz)
              have hLL : L.length = r.length + 2 := by rw [HL.out]; rfl
              have HLL := Lib.hid hLL
              clear hs1 hg1 hgr1 hLL HN HC2 HBb HOP
              go_wp2
              all_goals
                go_returns
                exact ⟨some ⟨g', 0, none⟩, d1, rets2 (congrArg (fun z => Value.slice (some ⟨g', 0, none⟩) z d1) HLL.out.symm) (congrArg Value.bool HK.out.symm), hfin, by rw [HLL.out]; exact hd1, hd2, hB2⟩
          · subst hfe
            have hwa : IntKind.u64.wrap 80 = 80 := by decide
            have hwb : IntKind.u64.wrap (f - 80) = f - 80 := by rw [IntKind.wrap_u64]; omega
            have HN := Lib.hid ((sl_new_u64 wr [2, f - 80] (by simp [maxLen])).drew)
            have HC2 := Lib.hid ((HCT.alloc (.cells (ivs .u64 [2, f - 80]).toArray 40)).drew)
            have HBb := Lib.hid (HB.out.alloc HB.out.size (.cells (ivs .u64 [2, f - 80]).toArray 40)).drew
            have HOP := Lib.hid (fun (v' : Value) (w2 : World) (g' : Nat) (h : Sl w2 40 v' (ivs .u64 ([2, f - 80] ++ r)) g') => h.open (n := r.length + 2) (by rw [ivs_length]; simp))
            clear HS HCT
            go_wp2
            go_region_law (refine step_append_u64 rfl (.tmp 58) (.tmp 60) rfl (l := [_, _]) rfl HN.out _ r.length (c - 1) r rfl rfl HC2.out (by simp; omega) ?_; intro v' w2 g' hs1 hg1 hgr1; obtain ⟨d1, rfl, hd1, hd2⟩ := HOP.out v' w2 g' hs1)
            all_goals
              have hfin : Came w2 (some ⟨g', 0, none⟩) (ivs .u64 L) := by rw [HL.out]; exact Came.sl hs1
              have hB2 : Below w1.heap.size w1 w2 := HBb.out.grown hgr1 (by simp; omega) (by intro k hk; cases hk; exact hsz)
              have hLL : L.length = r.length + 2 := by rw [HL.out]; rfl
              have HLL := Lib.hid hLL
              clear hs1 hg1 hgr1 hLL HN HC2 HBb HOP
              go_wp2
              all_goals
                go_returns
                exact ⟨some ⟨g', 0, none⟩, d1, rets2 (congrArg (fun z => Value.slice (some ⟨g', 0, none⟩) z d1) HLL.out.symm) (congrArg Value.bool HK.out.symm), hfin, by rw [HLL.out]; exact hd1, hd2, hB2⟩
    · have hwb : (oidWrong b.size (bl b) != -1) = true := by simpa using hw
      obtain ⟨e1, e2⟩ := oGet_no (b := b) (fun h => hw h.2)
      rw [e1, e2]
      generalize oidWrong b.size (bl b) = W at *
      clear hz e1 e2 hw
      go_enter Try.func16, Try.ntmps16
      go_wp2_with fail
      refine (HWr.out _).mono ?_
      rintro e w1 ⟨rfl, rfl⟩
      go_wp2
      go_returns
      exact ⟨none, 0, rfl, Came.nil _ _, Nat.zero_le _, Nat.zero_le _, Below.refl _ _⟩
end Go.Proofs.Ytjdkpdaekmogkaa
