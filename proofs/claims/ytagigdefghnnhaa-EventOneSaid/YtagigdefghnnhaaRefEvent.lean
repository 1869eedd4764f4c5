/- What the reference's functions of layer 9 give. -/
import Derived.Test.YtagigdefghnnhaaEvMem
import Derived.Test.YtagigdefghnnhaaRefHead
import Derived.Deep.QuietTactic
import Derived.BigQuiet
namespace Go.Proofs.Ytagigdefghnnhaa
open Go.RowKit Go.PlainAid
set_option linter.unusedVariables false
theorem startL_place (hd r : List Int) : ∀ (i : Nat) (e : Int), i ≤ (startL hd r i e).2.1 ∧ (startL hd r i e).2.1 ≤ i + r.length := by
  induction r generalizing hd with
  | nil => intro i e; simp [startL]
  | cons x r ih =>
    intro i e
    rw [startL]
    by_cases h1 : (i : Int) = e
    · rw [if_pos h1]; simp
    · rw [if_neg h1]
      by_cases h2 : (hdGet (hd ++ [x])).2.2.2.2.2 = 0
      · rw [if_pos h2]; simp
      · rw [if_neg h2]
        by_cases h3 : (hdGet (hd ++ [x])).2.2.2.2.2 ≠ 2
        · rw [if_pos h3]; simp
        · rw [if_neg h3]
          have := ih (hd ++ [x]) (i + 1) e
          simp; omega
/-- What 'start' answers. -/
def stV (s : (Int × Int × Bool × Int) × Nat × Int) : Value := .tuple #[hdV s.1.1 s.1.2.1 s.1.2.2.1 s.1.2.2.2, .int .i64 (s.2.1 : Int), .int .i64 s.2.2]
/-- The bytes from a place up to another one. -/
def seg (b : ByteArray) (at_ i : Nat) : List Int := ((bl b).take i).drop at_
theorem seg_nil (b : ByteArray) (at_ : Nat) : seg b at_ at_ = [] := by unfold seg; rw [List.drop_eq_nil_of_le]; rw [List.length_take]; omega
theorem seg_succ (b : ByteArray) (at_ i : Nat) (h1 : at_ ≤ i) (h2 : i < b.size) : seg b at_ (i + 1) = seg b at_ i ++ [bt b i] := by
  unfold seg
  have hl : i < (bl b).length := by rw [bl_length]; exact h2
  rw [List.take_add_one, List.getElem?_eq_getElem hl, Option.toList_some, List.drop_append_of_le_length (by rw [List.length_take]; omega), bl_get]
theorem hgAt_seg (b : ByteArray) (at_ i : Nat) (h1 : at_ ≤ i) (h2 : i ≤ b.size) : hgAt (b.extract 0 i) (at_ : Int) = ((hdGet (seg b at_ i)).1, (hdGet (seg b at_ i)).2.1, (hdGet (seg b at_ i)).2.2.1, (hdGet (seg b at_ i)).2.2.2.1, (at_ : Int) + (hdGet (seg b at_ i)).2.2.2.2.1, (hdGet (seg b at_ i)).2.2.2.2.2) := by
  refine hgAt_in _ at_ (by rw [ByteArray.size_extract]; omega) ?_
  rw [bl_extract _ _ _ h2, List.drop_zero, Nat.sub_zero]
  rfl
theorem startL_five {hd : List Int} {x : Int} {r : List Int} {i : Nat} {e : Int} (h : (i : Int) = e) : startL hd (x :: r) i e = ((0, 0, false, 0), i, 5) := by rw [startL, if_pos h]
theorem startL_ok {hd : List Int} {x : Int} {r : List Int} {i : Nat} {e : Int} {c t : Int} {f : Bool} {n : Int} {m : Nat} (h : ¬ (i : Int) = e) (hg : hdGet (hd ++ [x]) = (c, t, f, n, m, 0)) : startL hd (x :: r) i e = ((c, t, f, n), i, 0) := by
  rw [startL, if_neg h, hg, if_pos rfl]
theorem startL_err {hd : List Int} {x : Int} {r : List Int} {i : Nat} {e : Int} {c t : Int} {f : Bool} {n : Int} {m : Nat} {er : Int} (h : ¬ (i : Int) = e) (hg : hdGet (hd ++ [x]) = (c, t, f, n, m, er)) (h0 : er ≠ 0) (h2 : er ≠ 2) : startL hd (x :: r) i e = ((0, 0, false, 0), i, er) := by
  rw [startL, if_neg h, hg, if_neg h0, if_pos h2]
theorem startL_more {hd : List Int} {x : Int} {r : List Int} {i : Nat} {e : Int} {c t : Int} {f : Bool} {n : Int} {m : Nat} (h : ¬ (i : Int) = e) (hg : hdGet (hd ++ [x]) = (c, t, f, n, m, 2)) : startL hd (x :: r) i e = startL (hd ++ [x]) r (i + 1) e := by
  rw [startL, if_neg h, hg, if_neg (by simp), if_neg (by simp)]
set_option maxRecDepth 100000 in
set_option maxHeartbeats 1600000 in
theorem refStart_any (b : ByteArray) (at_ : Nat) (e : Int) (hb : b.size ≤ 1000000) (ha : at_ ≤ b.size) (w : World) :
    Calls Try.prog 29 #[.string b, .int .i64 (at_ : Int), .int .i64 e] w fun r w' => r = .returned (stV (startL [] ((bl b).drop at_) at_ e)) ∧ Below w.heap.size w w' := by
  have HZ := Lib.hid (Row.new w 40 (hdC 0 0 false 0))
  have hB0 : Below w.heap.size w (w.alloc (.cells (hdC 0 0 false 0).toArray 40)) := (Below.refl _ _).alloc (Nat.le_refl _) _
  have HG := Lib.hid (fun (i : Nat) (h : at_ ≤ i) (h2 : i < b.size) (w : World) => refHeadGet_any (b.extract 0 (i + 1)) (at_ : Int) (by rw [ByteArray.size_extract]; unfold maxLen; omega) ⟨by omega, by omega⟩ w)
  have HGS := Lib.hid (fun (i : Nat) (h : at_ ≤ i) (h2 : i < b.size) => hgAt_seg b at_ (i + 1) (by omega) (by omega))
  have HSS := Lib.hid (seg_succ b at_)
  have HS0 := Lib.hid (seg_nil b at_)
  have HD := Lib.hid (bl_drop b)
  obtain ⟨R, hR⟩ : ∃ R, startL [] ((bl b).drop at_) at_ e = R := ⟨_, rfl⟩
  rw [hR]
  rw [← HS0.out] at hR
  have HR := Lib.hid hR
  clear hR
  go_enter Try.func29, Try.ntmps29
  go_wp2_with fail
  go_loopw [9] (fun iv wr => ∃ i : Nat, iv = .int .i64 (i : Int) ∧ at_ ≤ i ∧ i ≤ b.size ∧ Hid (startL (seg b at_ i) ((bl b).drop i) i e = R) ∧ Hid (Row wr w.heap.size 40 (hdC 0 0 false 0)) ∧ Hid (Below w.heap.size w wr)) (fun iv _ => (b.size - intOf iv).toNat)
  case atStart => exact ⟨at_, rfl, Nat.le_refl _, ha, HR, HZ, Lib.hid hB0⟩
  case round =>
    clear HR HZ hB0 HS0
    obtain ⟨i, rfl, hi, hib, HR, HZ, HB⟩ := hrel
    obtain ⟨k0, k1, k2, k3, f0, f1, f2, f3⟩ := head_facts HZ.out
    have hlt := HZ.out.lt
    by_cases hz : i = b.size
    · have hR : R = ((0, 0, false, 0), b.size, 2) := by
        rw [← HR.out, bl_drop_end b i (by omega), hz]; rfl
      subst hz
      subst hR
      clear HG HGS HSS HD HR
      have hn : ¬ (b.size : Int) < (b.size : Int) := by omega
      have HRf := Lib.hid (head_set HZ.out 0 0 false 0)
      have HBf := Lib.hid (head_below HB.out (Nat.le_refl _) 0 0 false 0)
      go_wp2
      exact bodyPost_ret (results_cell_two Try.results29 _ (ad := ⟨w.heap.size, 0, none⟩) rfl rfl rfl (head_load HRf.out)) rfl ⟨rfl, HBf.out⟩
    · have hil : i < b.size := by omega
      have hil2 : (i : Int) < (b.size : Int) := by omega
      have hDi := HD.out i hil
      by_cases h5 : (i : Int) = e
      · have hR : R = ((0, 0, false, 0), i, 5) := by rw [← HR.out, hDi, startL_five h5]
        have he5 : ((i : Int) == e) = true := by simpa using h5
        subst hR
        clear HG HGS HSS HD HR hDi h5 hz
        have HRf := Lib.hid (head_set HZ.out 0 0 false 0)
        have HBf := Lib.hid (head_below HB.out (Nat.le_refl _) 0 0 false 0)
        go_wp2
        exact bodyPost_ret (results_cell_two Try.results29 _ (ad := ⟨w.heap.size, 0, none⟩) rfl rfl rfl (head_load HRf.out)) rfl ⟨rfl, HBf.out⟩
      · have he5 : ((i : Int) == e) = false := by simpa using h5
        have hG1 := HG.out i hi hil
        rw [HGS.out i hi hil] at hG1
        obtain ⟨c, t, f, n, m, er, hg⟩ : ∃ c t f n m er, hdGet (seg b at_ (i + 1)) = (c, t, f, n, m, er) := ⟨_, _, _, _, _, _, rfl⟩
        have hg2 := hg
        rw [HSS.out i hi hil] at hg2
        rw [hg] at hG1
        simp only [hgV] at hG1
        have HG1 := Lib.hid hG1
        clear hG1
        have HR' := HR.out
        rw [hDi] at HR'
        clear HG HGS hz HR hDi
        by_cases c0 : er = 0
        · subst c0
          have hR : R = ((c, t, f, n), i, 0) := by rw [← HR', startL_ok h5 hg2]
          subst hR
          clear hg hg2 HR' h5 HSS HD
          go_wp2_with fail
          refine (HG1.out _).mono ?_
          rintro e' w1 ⟨rfl, hb1⟩
          have HZ1 := Lib.hid (HZ.out.below hb1 HZ.out.lt)
          have HB1 := Lib.hid (HB.out.trans (hb1.mono HB.out.size))
          have hs1 := HZ1.out.lt
          obtain ⟨j0, j1, j2, j3, g0, g1, g2, g3⟩ := head_facts HZ1.out
          have HRf := Lib.hid ((head_set HZ1.out c t f n).alloc (.cells (hdC c t f n).toArray 40))
          have HBf := Lib.hid ((head_below HB1.out (Nat.le_refl _) c t f n).alloc (by rw [size_set4]; exact HB1.out.size) (.cells (hdC c t f n).toArray 40))
          clear hb1 HZ HB k0 k1 k2 k3 f0 f1 f2 f3
          go_wp2
          exact bodyPost_ret (results_cell_two Try.results29 _ (ad := ⟨w.heap.size, 0, none⟩) rfl rfl rfl (head_load HRf.out)) rfl ⟨rfl, HBf.out⟩
        · by_cases c2 : er = 2
          · subst c2
            have HR2 : Hid (startL (seg b at_ (i + 1)) ((bl b).drop (i + 1)) (i + 1) e = R) := Lib.hid (by rw [← HR', startL_more h5 hg2, HSS.out i hi hil])
            clear hg hg2 HR' h5 c0
            go_wp2_with fail
            refine (HG1.out _).mono ?_
            rintro e' w1 ⟨rfl, hb1⟩
            have HZ1 := Lib.hid (HZ.out.below hb1 HZ.out.lt)
            have HB1 := Lib.hid (HB.out.trans (hb1.mono HB.out.size))
            have hs1 := HZ1.out.lt
            obtain ⟨j0, j1, j2, j3, g0, g1, g2, g3⟩ := head_facts HZ1.out
            clear hb1 HZ HB k0 k1 k2 k3 f0 f1 f2 f3
            go_wp2
            go_roundw
            case rel => exact ⟨i + 1, by simp, by omega, by omega, HR2, Lib.hid (HZ1.out.alloc _), Lib.hid (HB1.out.alloc HB1.out.size _)⟩
            case measure => simp [intOf] <;> omega
          · have hR : R = ((0, 0, false, 0), i, er) := by rw [← HR', startL_err h5 hg2 c0 c2]
            have e0 : (er == 0) = false := by simpa using c0
            have e2 : (er == 2) = false := by simpa using c2
            subst hR
            clear hg hg2 HR' h5 HSS HD c0 c2
            go_wp2_with fail
            refine (HG1.out _).mono ?_
            rintro e' w1 ⟨rfl, hb1⟩
            have HZ1 := Lib.hid (HZ.out.below hb1 HZ.out.lt)
            have HB1 := Lib.hid (HB.out.trans (hb1.mono HB.out.size))
            have hs1 := HZ1.out.lt
            obtain ⟨j0, j1, j2, j3, g0, g1, g2, g3⟩ := head_facts HZ1.out
            have HRf := Lib.hid ((head_set HZ1.out 0 0 false 0).alloc (.cells (hdC c t f n).toArray 40))
            have HBf := Lib.hid ((head_below HB1.out (Nat.le_refl _) 0 0 false 0).alloc (by rw [size_set4]; exact HB1.out.size) (.cells (hdC c t f n).toArray 40))
            clear hb1 HZ HB k0 k1 k2 k3 f0 f1 f2 f3
            go_wp2
            exact bodyPost_ret (results_cell_two Try.results29 _ (ad := ⟨w.heap.size, 0, none⟩) rfl rfl rfl (head_load HRf.out)) rfl ⟨rfl, HBf.out⟩
end Go.Proofs.Ytagigdefghnnhaa
