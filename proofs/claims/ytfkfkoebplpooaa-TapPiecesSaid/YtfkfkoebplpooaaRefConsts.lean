/- What the reference's Constants gives. -/
import Derived.Test.YtfkfkoebplpooaaRefBehind
import Derived.Test.YtfkfkoebplpooaaRefPrime
namespace Go.Proofs.Ytfkfkoebplpooaa
open Go.RowKit Go.PlainAid
set_option linter.unusedVariables false
def uvs (l : List Int) : List Value := l.map fun x : Int => Value.int .u32 x
theorem uvs_length (l : List Int) : (uvs l).length = l.length := by simp [uvs]
theorem uvs_append (l m : List Int) : uvs (l ++ m) = uvs l ++ uvs m := by simp [uvs]
theorem uvs_one (l : List Int) : ∀ u ∈ uvs l, u.oneCell' = true := by intro u hu; obtain ⟨x, _, rfl⟩ := List.mem_map.1 hu; rfl
theorem uvs_at {l : List Int} {p : Nat} (h : p < l.length) : (uvs l)[p]? = some (.int .u32 (l.getD p 0)) := by
  simp [uvs, List.getD, List.getElem?_eq_getElem h]
theorem infoU32 : (Try.prog.info? 52).map (fun i => (i.zero, i.size, i.bytes)) = some (some (.int .u32 0), 1, 4) := by kernel_rfl
def ConstsPost (w : World) (e : Ending) (w' : World) : Prop :=
  ∃ va vb ga gb, e = .returned (.tuple #[va, vb]) ∧ Sl w' 52 va (uvs S0.l) ga ∧ Sl w' 52 vb (uvs KS) gb ∧ w.heap.size ≤ ga ∧ w.heap.size ≤ gb ∧ Below w.heap.size w w'
def k2l (c : Nat) : List Int := ((pl c).take 8).map fun p => kw p 2
def k3l (c : Nat) : List Int := (pl c).map fun p => kw p 3
theorem k3l_length (c : Nat) : (k3l c).length = (pl c).length := by simp [k3l]
theorem k2l_length (c : Nat) : (k2l c).length = min 8 (pl c).length := by simp [k2l]
theorem k3l_yes {c : Nat} (h : primeB c = true) : k3l (c + 1) = k3l c ++ [kw c 3] := by unfold k3l; rw [pl, if_pos h, List.map_append]; rfl
theorem k3l_no {c : Nat} (h : primeB c = false) : k3l (c + 1) = k3l c := by unfold k3l; rw [pl, if_neg (by simp [h])]
theorem k2l_no {c : Nat} (h : primeB c = false) : k2l (c + 1) = k2l c := by unfold k2l; rw [pl, if_neg (by simp [h])]
theorem k2l_yes {c : Nat} (h : primeB c = true) (hl : (pl c).length < 8) : k2l (c + 1) = k2l c ++ [kw c 2] := by
  unfold k2l; rw [pl, if_pos h, List.take_of_length_le (by rw [List.length_append]; simp; omega), List.take_of_length_le (by omega), List.map_append]; rfl
theorem k2l_full {c : Nat} (h : primeB c = true) (hl : 8 ≤ (pl c).length) : k2l (c + 1) = k2l c := by
  unfold k2l; rw [pl, if_pos h, List.take_append_of_le_length hl]

set_option maxHeartbeats 1000000 in
theorem refConsts_any (w : World) : Calls Try.prog 20 #[] w (ConstsPost w) := by
  obtain ⟨i0, hi, hz0, hz1, hz2⟩ := info_parts infoU32
  go_enter Try.func20, Try.ntmps20
  go_wp2
  go_loopg [2, 3, 4] 310 (fun gn av bv cv wr => ∃ c ga gb : Nat, ∃ va vb, 2 ≤ c ∧ c ≤ 312 ∧ gn = 312 - c ∧ cv = .int .u64 (c : Int) ∧ va = av ∧ vb = bv ∧ Hid (Sl wr 52 va (uvs (k2l c)) ga) ∧ Hid (Sl wr 52 vb (uvs (k3l c)) gb) ∧ ga ≠ gb ∧ w.heap.size ≤ ga ∧ w.heap.size ≤ gb ∧ ga < wr.heap.size ∧ gb < wr.heap.size ∧ Below w.heap.size w wr)
  case atStart =>
    have e2 : uvs (k2l 2) = [] := by decide +kernel
    have e3 : uvs (k3l 2) = [] := by decide +kernel
    have h2 := Sl.new (w.alloc (.cells #[] 52)) 52 [] (by simp)
    rw [World.size_alloc] at h2
    refine ⟨2, w.heap.size, w.heap.size + 1, _, _, by omega, by omega, by omega, rfl, rfl, rfl, Lib.hid (by rw [e2]; exact (Sl.new w _ [] (by simp)).alloc _), Lib.hid (by rw [e3]; exact h2), by omega, by omega, by omega, by simp; omega, by simp, by go_grown⟩
  case round =>
    obtain ⟨c, ga, gb, va, vb, hc2, hc, rfl, rfl, rfl, rfl, HA, HB, hne, hga, hgb, hla, hlb, hBe⟩ := hrel
    have HK3 := Lib.hid (k3l_length c)
    have HK2 := Lib.hid (k2l_length c)
    have HPLT := Lib.hid (fun h => pl_lt_312 (c := c) h)
    have HP64 := Lib.hid (fun h => pl_64 hc (c := c) h)
    have H2N := Lib.hid (fun h => k2l_no (c := c) h)
    have H2Y := Lib.hid (fun h h' => k2l_yes (c := c) h h')
    have H2F := Lib.hid (fun h h' => k2l_full (c := c) h h')
    have H3N := Lib.hid (fun h => k3l_no (c := c) h)
    have H3Y := Lib.hid (fun h => k3l_yes (c := c) h)
    have hk64 : (pl c).length ≤ 64 := by have := pl_len_mono hc; rw [pl312_length] at this; exact this
    generalize hk : (pl c).length = k at *
    obtain ⟨ca, rfl, hca, _⟩ := Sl.open HA.out (by rw [uvs_length, HK2.out])
    obtain ⟨cb, rfl, hcb, _⟩ := Sl.open HB.out (by rw [uvs_length, HK3.out])
    have HKK := Lib.hid hk
    clear hk
    by_cases hlt : k < 64
    · have hc3 := HPLT.out hlt
      have hpr := refPrime_any (c : Int) (by omega) (by omega) wr
      rw [Int.toNat_natCast] at hpr
      have HPR := Lib.hid hpr
      clear hpr
      by_cases hp : primeB c = true
      · have HP := Lib.hid hp
        clear hp
        have h3 : Hid (k3l (c + 1) = k3l c ++ [kw c 3]) := Lib.hid (H3Y.out HP.out)
        by_cases h8 : k < 8
        · have hm8 : min 8 k = k := by omega
          rw [hm8] at HA HK2 ⊢
          have h2 : Hid (k2l (c + 1) = k2l c ++ [kw c 2]) := Lib.hid (H2Y.out HP.out h8)
          clear hm8
          go_wp2_with (go_at_call 30; refine HPR.out.mono ?_; rintro e w' ⟨rfl, rfl⟩; rw [HP.out])
          refine (rBehind_any c 2 (by omega) (by omega) (by omega) _).mono ?_
          rintro e w1 ⟨rfl, hB1⟩
          have HA1 := Lib.hid (HA.out.keep hB1)
          have HB1 := Lib.hid (HB.out.keep hB1)
          have hsz := hB1.size
          have hBB := hBe.trans (hB1.mono hBe.size)
          clear HA HB hB1 hBe
          go_wp2_with (at_builtin; refine wpList_append_sl rfl (.tmp 17) (.tmp 20) 46 rfl 52 i0 (.int .u32 0) 4 Try.underlying46 hi hz0 hz1 hz2 rfl (l := uvs (k2l c)) (g := ga) rfl (HA1.out.alloc _) ⟨w1.heap.size, 0, none⟩ 1 1 [.int .u32 (kw c 2)] rfl ?c1 ?c2 ?c3 ?c4 ?c5 ?_)
          case c1 => rfl
          case c2 => exact cell_one_new _ _ _
          case c3 => intro u hu; simp at hu; subst hu; rfl
          case c4 => rw [uvs_length, HK2.out]; unfold maxLen; omega
          case c5 => rw [uvs_length, HK2.out]; omega
          intro v2 w2 g2 hs2 hg2 hgr2
          have HA2 : Hid (Sl w2 52 v2 (uvs (k2l (c + 1))) g2) := Lib.hid (by rw [h2.out, uvs_append]; exact hs2)
          have HB2 := Lib.hid ((HB1.out.alloc (.cells #[.int .u32 (kw c 2)] 52)).grown hgr2 (by simp; omega))
          have hs2' := hgr2.size
          have hlt2 := hs2.lt
          have hBB2 : Below w.heap.size w w2 := (hBB.alloc hBB.size _).grown hgr2 (by have := hBB.size; simp; omega) (by intro j hj; cases hj; exact hga)
          try rw [World.size_alloc] at hs2'
          try rw [World.size_alloc] at hg2
          clear HA1 HB1 hs2 hgr2 hBB
          go_wp2_with fail
          refine (rBehind_any c 3 (by omega) (by omega) (by omega) _).mono ?_
          rintro e w3 ⟨rfl, hB3⟩
          have HA3 := Lib.hid (HA2.out.keep hB3)
          have HB3 := Lib.hid (HB2.out.keep hB3)
          have hsz3 := hB3.size
          have hBB3 := hBB2.trans (hB3.mono hBB2.size)
          clear HA2 HB2 hB3 hBB2
          go_wp2_with (at_builtin; refine wpList_append_sl rfl (.tmp 22) (.tmp 25) 46 rfl 52 i0 (.int .u32 0) 4 Try.underlying46 hi hz0 hz1 hz2 rfl (l := uvs (k3l c)) (g := gb) rfl (HB3.out.alloc _) ⟨w3.heap.size, 0, none⟩ 1 1 [.int .u32 (kw c 3)] rfl ?c1 ?c2 ?c3 ?c4 ?c5 ?_)
          case c1 => rfl
          case c2 => exact cell_one_new _ _ _
          case c3 => intro u hu; simp at hu; subst hu; rfl
          case c4 => rw [uvs_length, HK3.out]; unfold maxLen; omega
          case c5 => rw [uvs_length, HK3.out]; omega
          intro v4 w4 g4 hs4 hg4 hgr4
          have HB4 : Hid (Sl w4 52 v4 (uvs (k3l (c + 1))) g4) := Lib.hid (by rw [h3.out, uvs_append]; exact hs4)
          have HA4 := Lib.hid ((HA3.out.alloc (.cells #[.int .u32 (kw c 3)] 52)).grown hgr4 (by simp; omega))
          have hs4' := hgr4.size
          have hlt4 := hs4.lt
          have hBB4 : Below w.heap.size w w4 := (hBB3.alloc hBB3.size _).grown hgr4 (by have := hBB3.size; simp; omega) (by intro j hj; cases hj; exact hgb)
          have hzz := hBB3.size
          try rw [World.size_alloc] at hs4'
          try rw [World.size_alloc] at hg4
          clear HA3 HB3 hs4 hgr4 hBB3
          go_wp2
          go_roundg (312 - (c + 1))
          case measure => omega
          case rel => exact ⟨c + 1, g2, g4, v2, v4, by omega, by omega, rfl, by go_num, rfl, rfl, HA4, HB4, by omega, by omega, by omega, by omega, hlt4, hBB4⟩
        · have hm8 : min 8 k = 8 := by omega
          rw [hm8] at HA HK2 ⊢
          have h2 : Hid (k2l (c + 1) = k2l c) := Lib.hid (H2F.out HP.out (by omega))
          clear hm8
          go_wp2_with (go_at_call 30; refine HPR.out.mono ?_; rintro e w' ⟨rfl, rfl⟩; rw [HP.out])
          refine (rBehind_any c 3 (by omega) (by omega) (by omega) _).mono ?_
          rintro e w3 ⟨rfl, hB3⟩
          have HA3 := Lib.hid (HA.out.keep hB3)
          have HB3 := Lib.hid (HB.out.keep hB3)
          have hsz3 := hB3.size
          have hBB3 := hBe.trans (hB3.mono hBe.size)
          clear HA HB hB3 hBe
          go_wp2_with (at_builtin; refine wpList_append_sl rfl (.tmp 22) (.tmp 25) 46 rfl 52 i0 (.int .u32 0) 4 Try.underlying46 hi hz0 hz1 hz2 rfl (l := uvs (k3l c)) (g := gb) rfl (HB3.out.alloc _) ⟨w3.heap.size, 0, none⟩ 1 1 [.int .u32 (kw c 3)] rfl ?c1 ?c2 ?c3 ?c4 ?c5 ?_)
          case c1 => rfl
          case c2 => exact cell_one_new _ _ _
          case c3 => intro u hu; simp at hu; subst hu; rfl
          case c4 => rw [uvs_length, HK3.out]; unfold maxLen; omega
          case c5 => rw [uvs_length, HK3.out]; omega
          intro v4 w4 g4 hs4 hg4 hgr4
          have HB4 : Hid (Sl w4 52 v4 (uvs (k3l (c + 1))) g4) := Lib.hid (by rw [h3.out, uvs_append]; exact hs4)
          have HA4 : Hid (Sl w4 52 (.slice (some ⟨ga, 0, none⟩) 8 ca) (uvs (k2l (c + 1))) ga) := Lib.hid (by rw [h2.out]; exact (HA3.out.alloc (.cells #[.int .u32 (kw c 3)] 52)).grown hgr4 (by simp; omega))
          have hs4' := hgr4.size
          have hlt4 := hs4.lt
          have hBB4 : Below w.heap.size w w4 := (hBB3.alloc hBB3.size _).grown hgr4 (by have := hBB3.size; simp; omega) (by intro j hj; cases hj; exact hgb)
          have hzz := hBB3.size
          try rw [World.size_alloc] at hs4'
          try rw [World.size_alloc] at hg4
          clear HA3 HB3 hs4 hgr4 hBB3
          go_wp2
          go_roundg (312 - (c + 1))
          case measure => omega
          case rel => exact ⟨c + 1, ga, g4, _, v4, by omega, by omega, rfl, by go_num, rfl, rfl, HA4, HB4, by omega, by omega, by omega, by omega, hlt4, hBB4⟩
      · have HP : Hid (primeB c = false) := Lib.hid (by simpa using hp)
        clear hp
        have HA2 : Hid (Sl wr 52 (.slice (some ⟨ga, 0, none⟩) (min 8 k) ca) (uvs (k2l (c + 1))) ga) := Lib.hid (by rw [H2N.out HP.out]; exact HA.out)
        have HB2 : Hid (Sl wr 52 (.slice (some ⟨gb, 0, none⟩) k cb) (uvs (k3l (c + 1))) gb) := Lib.hid (by rw [H3N.out HP.out]; exact HB.out)
        generalize min 8 k = k8 at *
        go_wp2_with (go_at_call 30; refine HPR.out.mono ?_; rintro e w' ⟨rfl, rfl⟩; rw [HP.out])
        go_roundg (312 - (c + 1))
        case measure => omega
        case rel => exact ⟨c + 1, ga, gb, _, _, by omega, by omega, rfl, by go_num, rfl, rfl, HA2, HB2, hne, hga, hgb, hla, hlb, hBe⟩
    · have hk2 : k = 64 := by omega
      have HE : Hid (pl c = pl 312) := Lib.hid (HP64.out hk2)
      have HA2 : Hid (Sl wr 52 (.slice (some ⟨ga, 0, none⟩) (min 8 k) ca) (uvs S0.l) ga) := Lib.hid (by
        have := HA.out; unfold k2l at this; rwa [HE.out, pl312_take, ← S0_list] at this)
      have HB2 : Hid (Sl wr 52 (.slice (some ⟨gb, 0, none⟩) k cb) (uvs KS) gb) := Lib.hid (by
        have := HB.out; unfold k3l at this; rwa [HE.out] at this)
      generalize min 8 k = k8 at *
      clear HA HB hk2
      go_wp2
      go_ret2
      exact ⟨_, _, ga, gb, rfl, HA2.out, HB2.out, hga, hgb, hBe⟩
end Go.Proofs.Ytfkfkoebplpooaa
