/- What the reference's Mix gives: the state behind a block. -/
import Derived.Test.YtfkfkoebplpooaaRefMix
import Derived.Test.YtfkfkoebplpooaaOrders
import Derived.Deep.LoopGhost
import Derived.IntWalk
namespace Go.Proofs.Ytfkfkoebplpooaa
open Go.RowKit Go.PlainAid
set_option linter.unusedVariables false
/-! ### a block -/
theorem bt_bd (s : ByteArray) (k : Nat) : 0 ≤ bt s k ∧ bt s k ≤ 255 := ⟨bt_nonneg s k, bt_le s k⟩
def gp (b : ByteArray) (i : Nat) : Nat → Int
  | 0 => 0
  | j + 1 => 256 * gp b i j + bt b (i + j)
theorem gp_bd (b : ByteArray) (i : Nat) : 0 ≤ gp b i 1 ∧ gp b i 1 ≤ 255 ∧ 0 ≤ gp b i 2 ∧ gp b i 2 ≤ 65535 ∧ 0 ≤ gp b i 3 ∧ gp b i 3 ≤ 16777215 := by
  have h0 := bt_bd b i
  have h1 := bt_bd b (i + 1)
  have h2 := bt_bd b (i + 2)
  simp only [gp, Nat.add_zero] at *
  omega
theorem gp_le (b : ByteArray) (i j : Nat) (hj : j ≤ 3) : 0 ≤ gp b i j ∧ gp b i j ≤ 16777215 := by
  have := gp_bd b i
  have h0 : gp b i 0 = 0 := rfl
  have : j = 0 ∨ j = 1 ∨ j = 2 ∨ j = 3 := by omega
  rcases this with rfl | rfl | rfl | rfl <;> omega
theorem gp_four (b : ByteArray) (i : Nat) : gp b i 4 = getI b i := by
  simp only [gp, getI, Nat.add_zero]; omega
theorem words_take (b : ByteArray) {i : Nat} (h : i < 16) : (words b).take (i + 1) = (words b).take i ++ [getI b (4 * i)] := by
  rw [List.take_succ_eq_append_getElem (by rw [words_length]; exact h)]
  simp [words]

theorem rnd_flat (t : St) (ki wi : Int) : (rnd t ki wi).l = [
    (t.h + bits .xor .u32 (bits .xor .u32 (turnI t.e 6) (turnI t.e 11)) (turnI t.e 25) + bits .xor .u32 (bits .and .u32 t.e t.f) (bits .and .u32 (4294967295 - t.e) t.g) + ki + wi +
      (bits .xor .u32 (bits .xor .u32 (turnI t.a 2) (turnI t.a 13)) (turnI t.a 22) + bits .xor .u32 (bits .xor .u32 (bits .and .u32 t.a t.b) (bits .and .u32 t.a t.c)) (bits .and .u32 t.b t.c))) % 4294967296,
    t.a, t.b, t.c,
    (t.d + (t.h + bits .xor .u32 (bits .xor .u32 (turnI t.e 6) (turnI t.e 11)) (turnI t.e 25) + bits .xor .u32 (bits .and .u32 t.e t.f) (bits .and .u32 (4294967295 - t.e) t.g) + ki + wi)) % 4294967296,
    t.e, t.f, t.g] := by
  simp only [rnd, St.l, tT, tU, ad, sg, xr, an, IntKind.wrap_u32]
  generalize bits .xor .u32 (bits .xor .u32 (turnI t.e 6) (turnI t.e 11)) (turnI t.e 25) = p1
  generalize bits .xor .u32 (bits .and .u32 t.e t.f) (bits .and .u32 (4294967295 - t.e) t.g) = p2
  generalize bits .xor .u32 (bits .xor .u32 (turnI t.a 2) (turnI t.a 13)) (turnI t.a 22) = p3
  generalize bits .xor .u32 (bits .xor .u32 (bits .and .u32 t.a t.b) (bits .and .u32 t.a t.c)) (bits .and .u32 t.b t.c) = p4
  have e1 : (((((t.h + p1) % 4294967296 + p2) % 4294967296 + ki) % 4294967296 + wi) % 4294967296 + (p3 + p4) % 4294967296) % 4294967296 = (t.h + p1 + p2 + ki + wi + (p3 + p4)) % 4294967296 := by omega
  have e2 : (t.d + ((((t.h + p1) % 4294967296 + p2) % 4294967296 + ki) % 4294967296 + wi) % 4294967296) % 4294967296 = (t.d + (t.h + p1 + p2 + ki + wi)) % 4294967296 := by omega
  rw [e1, e2]
theorem half3_q (x : Int) (h0 : 0 ≤ x) (h1 : x ≤ 4294967295) (w : World) :
    Calls Try.prog 33 #[.int .u32 x, .int .i64 3] w fun e w' => e = .returned (.int .u32 (x / 8)) ∧ w' = w := half_q x 3 (by omega) h0 h1 w
theorem half10_q (x : Int) (h0 : 0 ≤ x) (h1 : x ≤ 4294967295) (w : World) :
    Calls Try.prog 33 #[.int .u32 x, .int .i64 10] w fun e w' => e = .returned (.int .u32 (x / 1024)) ∧ w' = w := half_q x 10 (by omega) h0 h1 w
set_option maxRecDepth 100000 in
set_option maxHeartbeats 2000000 in
theorem mix_any (s : St) (hs : s.ok) (b : ByteArray) (hb : b.size = 64) (k : List Int) (hkl : k.length = 64) (hkb : ∀ x ∈ k, wd x) (vs vk : Value) (gs gk : Nat) (w : World) (hvs : Sl w 52 vs (uvs s.l) gs) (hvk : Sl w 52 vk (uvs k) gk) :
    Calls Try.prog 22 #[vs, .string b, vk] w (NewSl 52 (uvs (mixB k s b).l) w) := by
  obtain ⟨i0, hi, hz0, hz1, hz2⟩ := info_parts infoU32
  obtain ⟨cs, rfl, hcs1, hcs2⟩ := Sl.open hvs (n := 8) (by rw [uvs_length]; rfl)
  obtain ⟨ck, rfl, hck1, hck2⟩ := Sl.open hvk (n := 64) (by rw [uvs_length, hkl])
  have HVS := Lib.hid hvs
  have HVK := Lib.hid hvk
  have HKL := Lib.hid hkl
  have HKB := Lib.hid hkb
  have HB := Lib.hid hb
  have hb' : b.size ≤ 64 := by omega
  have HS := Lib.hid hs
  clear hvs hvk hkl hkb hb hs
  go_enter Try.func22, Try.ntmps22
  go_wp2
  go_loopg [7, 8] 16 (fun gn ov iv wr => ∃ i g : Nat, ∃ v, i ≤ 16 ∧ gn = 16 - i ∧ iv = .int .i64 i ∧ v = ov ∧ Hid (Sl wr 52 v (uvs ((words b).take i)) g) ∧ w.heap.size ≤ g ∧ Below w.heap.size w wr)
  case atStart => exact ⟨0, _, _, by omega, by omega, rfl, rfl, Lib.hid (Sl.new w 52 [] (by simp)), by omega, by go_grown⟩
  case round =>
    obtain ⟨i, g, v, hi16, rfl, rfl, rfl, HW, hg, hBe⟩ := hrel
    by_cases hlt : i < 16
    · have HWT := Lib.hid (words_take b hlt)
      have HWL := Lib.hid (show ((words b).take i).length = i by rw [List.length_take, words_length]; omega)
      go_wp2
      go_loopg [9, 10] 4 (fun gn xv jv wx => ∃ j : Nat, j ≤ 4 ∧ gn = 4 - j ∧ wx = wr ∧ jv = .int .i64 j ∧ xv = .int .u32 (gp b (4 * i) j))
      case atStart => exact ⟨0, by omega, by omega, rfl, rfl, rfl⟩
      case round =>
        obtain ⟨j, hj, rfl, rfl, rfl, rfl⟩ := hrel
        by_cases hltj : j < 4
        · obtain ⟨x0, x1⟩ := gp_le b (4 * i) j (by omega)
          have HGP : Hid (gp b (4 * i) (j + 1) = 256 * gp b (4 * i) j + bt b (4 * i + j)) := Lib.hid rfl
          have hin : 4 * i + j < b.size := by have := HB.out; omega
          have hix : ((4 : Int) * (i : Int) + (j : Int)).toNat = 4 * i + j := by omega
          have hby := bt_at hin
          have hbd := bt_bd b (4 * i + j)
          obtain ⟨y0, y1⟩ := hbd
          generalize bt b (4 * i + j) = y at *
          generalize gp b (4 * i) j = x at *
          go_wp2
          go_roundg (4 - (j + 1))
          case measure => omega
          case rel => exact ⟨j + 1, by omega, rfl, rfl, by go_num, by rw [HGP.out]⟩
        · have hj4 : j = 4 := by omega
          subst hj4
          have hge := gp_four b (4 * i)
          have hgb := getI_bd b (4 * i)
          rw [hge]
          generalize getI b (4 * i) = x at *
          clear hge
          go_wp2_with (at_builtin; refine wpList_append_sl rfl (.tmp 42) (.tmp 44) 46 rfl 52 i0 (.int .u32 0) 4 Try.underlying46 hi hz0 hz1 hz2 rfl (l := uvs ((words b).take i)) (g := g) rfl (HW.out.alloc _) ⟨wr.heap.size, 0, none⟩ 1 1 [.int .u32 x] rfl ?c1 ?c2 ?c3 ?c4 ?c5 ?_)
          case c1 => rfl
          case c2 => exact cell_one_new _ _ _
          case c3 => intro u hu; simp at hu; subst hu; rfl
          case c4 => rw [uvs_length, HWL.out]; unfold maxLen; omega
          case c5 => rw [uvs_length, HWL.out]; omega
          intro v2 w2 g2 hs2 hg2 hgr2
          have HW2 : Hid (Sl w2 52 v2 (uvs ((words b).take (i + 1))) g2) := Lib.hid (by rw [HWT.out, uvs_append]; exact hs2)
          have hBB2 : Below w.heap.size w w2 := (hBe.alloc hBe.size _).grown hgr2 (by have := hBe.size; simp; omega) (by intro j hj; cases hj; exact hg)
          have hsz2 := hBe.size
          try rw [World.size_alloc] at hg2
          clear HW hs2 hgr2
          go_wp2
          go_roundg (16 - (i + 1))
          case measure => omega
          case rel => exact ⟨i + 1, g2, v2, by omega, rfl, by go_num, rfl, HW2, by omega, hBB2⟩
    · have hi2 : i = 16 := by omega
      subst hi2
      have HW2 : Hid (Sl wr 52 v (uvs (schd (words b) (16 - 16))) g) := Lib.hid (by have := HW.out; rwa [List.take_of_length_le (by rw [words_length]; omega)] at this)
      clear HW
      go_wp2
      go_loopg [7, 11] 48 (fun gn ov iv wr => ∃ i g : Nat, ∃ v, 16 ≤ i ∧ i ≤ 64 ∧ gn = 64 - i ∧ iv = .int .i64 i ∧ v = ov ∧ Hid (Sl wr 52 v (uvs (schd (words b) (i - 16))) g) ∧ w.heap.size ≤ g ∧ Below w.heap.size w wr)
      case atStart => exact ⟨16, g, v, by omega, by omega, by omega, rfl, rfl, HW2, hg, hBe⟩
      case round =>
        clear HW2 hg hBe
        obtain ⟨i, g, v, hi1, hi2, rfl, rfl, rfl, HW, hg, hBe⟩ := hrel
        have hwl : (schd (words b) (i - 16)).length = i := by rw [schd_length, words_length]; omega
        have HWB := Lib.hid (schd_bd (words_bd b) (i - 16))
        by_cases hlt : i < 64
        · obtain ⟨cv, rfl, hcv1, hcv2⟩ := Sl.open HW.out (n := i) (by rw [uvs_length, hwl])
          have HN : Hid (schd (words b) (i + 1 - 16) = schd (words b) (i - 16) ++ [nxt (schd (words b) (i - 16)) i]) := Lib.hid (by
            rw [show i + 1 - 16 = (i - 16) + 1 by omega, schd_succ, show 16 + (i - 16) = i by omega])
          generalize schd (words b) (i - 16) = W at *
          have hrd : ∀ p, p < i → wr.cell? ⟨g, p, none⟩ = some (.int .u32 (W.getD p 0)) ∧ 0 ≤ W.getD p 0 ∧ W.getD p 0 ≤ 4294967295 := fun p hp => by
            refine ⟨?_, ?_⟩
            · obtain ⟨sp, _, _, hr⟩ := HW.out
              rw [hr.cell, List.getElem?_append_left (by rw [uvs_length]; omega), uvs_at (by omega)]
            · have := HWB.out (W.getD p 0) (by simp only [List.getD, List.getElem?_eq_getElem (show p < W.length by omega), Option.getD_some]; exact List.getElem_mem _)
              exact this
          obtain ⟨r1, a0, a1⟩ := hrd (i - 16) (by omega)
          obtain ⟨r2, b0, b1⟩ := hrd (i - 15) (by omega)
          obtain ⟨r3, c0, c1⟩ := hrd (i - 7) (by omega)
          obtain ⟨r4, d0, d1⟩ := hrd (i - 2) (by omega)
          have HX : Hid (nxt W i = ad (ad (ad (W.getD (i - 16) 0) (sh0 (W.getD (i - 15) 0))) (W.getD (i - 7) 0)) (sh1 (W.getD (i - 2) 0))) := Lib.hid rfl
          have HWL := Lib.hid hwl
          clear hrd hwl
          generalize W.getD (i - 16) 0 = xa at *
          generalize W.getD (i - 15) 0 = xb at *
          generalize W.getD (i - 7) 0 = xc at *
          generalize W.getD (i - 2) 0 = xd at *
          have t1 : ((i : Int) - 16).toNat = i - 16 := by omega
          have t2 : ((i : Int) - 15).toNat = i - 15 := by omega
          have t3 : ((i : Int) - 7).toNat = i - 7 := by omega
          have t4 : ((i : Int) - 2).toNat = i - 2 := by omega
          have s1 : IntKind.i64.wrap ((i : Int) - 16) = (i : Int) - 16 := IntWalk.i64_in _ (by omega)
          have s3 : IntKind.i64.wrap ((i : Int) - 7) = (i : Int) - 7 := IntWalk.i64_in _ (by omega)
          have u1 : (0 : Int) ≤ (i : Int) - 16 := by omega
          have u3 : (0 : Int) ≤ (i : Int) - 7 := by omega
          have u7 : (16 : Int) ≤ (i : Int) := by omega
          have u8 : (7 : Int) ≤ (i : Int) := by omega
          have u5 : (i : Int) - 16 < (i : Int) := by omega
          have u6 : (i : Int) - 7 < (i : Int) := by omega
          go_wp2
          refine region_idle (v := .slice (some ⟨g, 0, none⟩) i cv) 30 (by kernel_rfl) (by kernel_rfl) (fun _ _ _ h => h) (.inl ⟨by rfl, fun _ => by rfl⟩) ?_
          simp only [Nat.reduceSub, List.take_succ_cons, List.take_zero, List.drop_succ_cons, List.drop_zero]
          repeat (refine wpStill_step (fun K hK => ?_); go_simp; first
            | (refine hK _ ?_; clear hK K)
            | ((with_reducible refine ⟨_, refTurn2_q xb _ b0 b1 _, hK _ ?_⟩); clear hK K)
            | ((with_reducible refine ⟨_, refTurn2_q xd _ d0 d1 _, hK _ ?_⟩); clear hK K)
            | ((with_reducible refine ⟨_, half3_q xb b0 b1 _, hK _ ?_⟩); clear hK K)
            | ((with_reducible refine ⟨_, half10_q xd d0 d1 _, hK _ ?_⟩); clear hK K))
          refine wpStill_nil ?_
          change wpList _ _ _ _ _ wr.drew
          have HWd : Hid (Sl wr.drew 52 (.slice (some ⟨g, 0, none⟩) i cv) (uvs W) g) := HW
          have hBd : Below w.heap.size w wr.drew := hBe.drew
          clear HW hBe r1 r2 r3 r4 s1 s3
          generalize wr.drew = w1 at *
          go_wp2_with (at_builtin; refine wpList_append_sl rfl (.tmp 60) (.tmp 90) 46 rfl 52 i0 (.int .u32 0) 4 Try.underlying46 hi hz0 hz1 hz2 rfl (l := uvs W) (g := g) rfl (HWd.out.alloc _) ⟨w1.heap.size, 0, none⟩ 1 1 [.int .u32 (ad (ad (ad xa (sh0 xb)) xc) (sh1 xd))] rfl ?c1 ?c2 ?c3 ?c4 ?c5 ?_)
          case c1 => rfl
          case c2 => exact cell_one_new _ _ _
          case c3 => intro u hu; simp at hu; subst hu; rfl
          case c4 => rw [uvs_length, HWL.out]; unfold maxLen; omega
          case c5 => rw [uvs_length, HWL.out]; omega
          intro v2 w2 g2 hs2 hg2 hgr2
          have HW2 : Hid (Sl w2 52 v2 (uvs (schd (words b) (i + 1 - 16))) g2) := Lib.hid (by rw [HN.out, uvs_append, HX.out]; exact hs2)
          have hBB2 : Below w.heap.size w w2 := (hBd.alloc hBd.size _).grown hgr2 (by have := hBd.size; simp; omega) (by intro j hj; cases hj; exact hg)
          have hsz2 := hBd.size
          try rw [World.size_alloc] at hg2
          clear HWd hs2 hgr2 hBd
          go_wp2
          go_roundg (64 - (i + 1))
          case measure => omega
          case rel => exact ⟨i + 1, g2, v2, by omega, by omega, rfl, by go_num, rfl, HW2, by omega, hBB2⟩
        · have hi64 : i = 64 := by omega
          subst hi64
          obtain ⟨cv, rfl, hcv1, hcv2⟩ := Sl.open HW.out (n := 64) (by rw [uvs_length, hwl])
          have HWL := Lib.hid hwl
          rw [show 64 - 16 = 48 from rfl] at HW HWB HWL
          clear hwl
          have HMX : Hid (mixB k s b = addS (mixR s k (schd (words b) 48) 64) s) := Lib.hid rfl
          generalize schd (words b) 48 = W at *
          have hso := HS.out
          have hvs0 : ∀ j u, (uvs s.l)[j]? = some u → wr.cell? ((⟨gs, 0, none⟩ : Addr).add j) = some u := fun j u hj => by
            obtain ⟨sp, _, _, hr⟩ := HVS.out.keep hBe
            rw [addr_add, hr.cell, List.getElem?_append_left (List.getElem?_eq_some_iff.1 hj).1]; exact hj
          have HV0 := Lib.hid hvs0
          have hgs := HVS.out.lt
          have hgk := HVK.out.lt
          clear hvs0
          go_wp2_with (at_builtin; refine wpList_append_sl rfl (.tmp 92) (.tmp 93) 46 rfl 52 i0 (.int .u32 0) 4 Try.underlying46 hi hz0 hz1 hz2 rfl (l := []) (g := wr.heap.size) rfl (Sl.new wr 52 [] (by simp)) ⟨gs, 0, none⟩ 8 cs (uvs s.l) rfl ?c1 ?c2 ?c3 ?c4 ?c5 ?_)
          case c1 => rw [uvs_length]; rfl
          case c2 =>
            intro j u hj
            have hsz := hBe.size
            rw [← HV0.out j u hj, addr_add]
            exact World.cell?_alloc_lt _ _ _ (show gs < wr.heap.size by omega)
          case c3 => exact uvs_one _
          case c4 => simp [maxLen]
          case c5 => simp
          intro v2 w2 g2 hs2 hg2 hgr2
          have HA : Hid (Sl w2 52 v2 (uvs (mixR s k W 0).l) g2) := Lib.hid hs2
          have hBB : Below w.heap.size w w2 := (hBe.alloc hBe.size _).grown hgr2 (by have := hBe.size; simp; omega) (by intro j hj; cases hj; exact hBe.size)
          have HW3 : Hid (Sl w2 52 (.slice (some ⟨g, 0, none⟩) 64 cv) (uvs W) g) := Lib.hid ((HW.out.alloc _).grown hgr2 (by have := HW.out.lt; simp; omega))
          have hsz2 := hBe.size
          try rw [World.size_alloc] at hg2
          clear HW hs2 hgr2 hBe HV0
          go_wp2
          go_loopg [14, 15] 64 (fun gn vv iv wr => ∃ i g2 : Nat, ∃ v, i ≤ 64 ∧ gn = 64 - i ∧ iv = .int .i64 i ∧ v = vv ∧ Hid (Sl wr 52 v (uvs (mixR s k W i).l) g2) ∧ w.heap.size ≤ g2 ∧ Hid (Sl wr 52 (.slice (some ⟨g, 0, none⟩) 64 cv) (uvs W) g) ∧ Below w.heap.size w wr)
          case atStart => exact ⟨0, g2, v2, by omega, by omega, rfl, rfl, HA, by omega, HW3, hBB⟩
          case round =>
            clear HA HW3 hBB
            obtain ⟨i, g2, v, hi64, rfl, rfl, rfl, HA, hg2, HW, hBe⟩ := hrel
            obtain ⟨c2, rfl, hc21, hc22⟩ := Sl.open HA.out (n := 8) (by rw [uvs_length]; rfl)
            by_cases hlt2 : i < 64
            · have hok := mixR_ok (k := k) (w := W) hso i
              have HNX : Hid (mixR s k W (i + 1) = rnd (mixR s k W i) (k.getD i 0) (W.getD i 0)) := Lib.hid rfl
              have rk : wr.cell? ⟨gk, i, none⟩ = some (.int .u32 (k.getD i 0)) := by
                obtain ⟨sp, _, _, hr⟩ := HVK.out.keep hBe
                have := HKL.out
                rw [hr.cell, List.getElem?_append_left (by rw [uvs_length]; omega), uvs_at (by omega)]
              have rw_ : wr.cell? ⟨g, i, none⟩ = some (.int .u32 (W.getD i 0)) := by
                obtain ⟨sp, _, _, hr⟩ := HW.out
                have := HWL.out
                rw [hr.cell, List.getElem?_append_left (by rw [uvs_length]; omega), uvs_at (by omega)]
              have rs : ∀ p x, (mixR s k W i).l[p]? = some x → wr.cell? ⟨g2, p, none⟩ = some (.int .u32 x) := fun p x hp => by
                have hp' := (List.getElem?_eq_some_iff.1 hp).1
                rw [HA.out.cell (by rw [uvs_length]; exact hp')]
                simp [uvs, (List.getElem?_eq_some_iff.1 hp).2]
              generalize mixR s k W i = t at *
              have e0 := rs 0 t.a rfl
              have e1 := rs 1 t.b rfl
              have e2 := rs 2 t.c rfl
              have e3 := rs 3 t.d rfl
              have e4 := rs 4 t.e rfl
              have e5 := rs 5 t.f rfl
              have e6 := rs 6 t.g rfl
              have e7 := rs 7 t.h rfl
              obtain ⟨⟨o0, o1⟩, ⟨p0, p1⟩, ⟨q0, q1⟩, ⟨s0, s1⟩, ⟨t0, t1⟩, ⟨v0, v1⟩, ⟨x0, x1⟩, ⟨y0, y1⟩⟩ := hok
              clear rs hso
              generalize hka : k.getD i 0 = ki at *
              generalize hwa : W.getD i 0 = wi at *
              have HKA := Lib.hid hka
              have HWA := Lib.hid hwa
              clear hka hwa
              go_wp2
              refine region_still (by kernel_rfl) (by kernel_rfl) ?_
              repeat (refine wpStill_step (fun K hK => ?_); go_simp; refine hK _ ?_; clear hK K)
              refine wpStill_nil ?_
              go_wp2
              refine region_still (by kernel_rfl) (by kernel_rfl) ?_
              repeat (refine wpStill_step (fun K hK => ?_); go_simp; refine hK _ ?_; clear hK K)
              refine wpStill_nil ?_
              go_wp2
              refine region_still (by kernel_rfl) (by kernel_rfl) ?_
              repeat (refine wpStill_step (fun K hK => ?_); go_simp; first
                | (refine hK _ ?_; clear hK K)
                | ((with_reducible refine ⟨_, refTurn2_q t.e _ t0 t1 _, hK _ ?_⟩); clear hK K))
              refine wpStill_nil ?_
              go_wp2_with (go_at_call 32; (with_reducible refine (refTurn2_q t.a _ o0 o1 _).mono ?_); rintro e w' ⟨rfl, rfl⟩)
              refine region_tail 26 (by kernel_rfl) (by kernel_rfl) ?_
              simp only [List.take_succ_cons, List.take_zero, List.drop_succ_cons, List.drop_zero]
              repeat (refine wpStill_step (fun K hK => ?_); go_simp; refine hK _ ?_; clear hK K)
              refine wpStill_nil ?_
              have HA1 : Hid (Sl wr.drew.drew.drew.drew 52 (.slice (some ⟨g2, 0, none⟩) 8 c2) (uvs t.l) g2) := HA
              have HW1 : Hid (Sl wr.drew.drew.drew.drew 52 (.slice (some ⟨g, 0, none⟩) 64 cv) (uvs W) g) := HW
              have hB1 : Below w.heap.size w wr.drew.drew.drew.drew := hBe.drew.drew.drew.drew
              clear HA HW hBe e0 e1 e2 e3 e4 e5 e6 e7 rk rw_
              generalize wr.drew.drew.drew.drew = w9 at *
              have hne : IntKind.u32.wrap (4294967295 - t.e) = 4294967295 - t.e := IntWalk.u32_in _ (by omega)
              have HR : Hid ((rnd t ki wi).l = (rnd t ki wi).l) := Lib.hid rfl
              have HNE := Lib.hid hne
              clear hne
              go_wp2
              go_roundg (64 - (i + 1))
              case measure => omega
              case rel =>
                refine ⟨i + 1, w9.heap.size, _, by omega, rfl, by go_num, rfl, Lib.hid ?_, hB1.size, Lib.hid (HW1.out.alloc _), hB1.alloc hB1.size _⟩
                rw [HNX.out, rnd_flat]
                exact Sl.new w9 52 (uvs [_, _, _, _, _, _, _, _]) (by simp [uvs, maxLen])
            · have hi64' : i = 64 := by omega
              subst hi64'
              have HUO := Lib.hid (mixR_ok (k := k) (w := W) hso 64)
              generalize mixR s k W 64 = t at *
              have HA0 : Hid (Sl wr 52 (.slice (some ⟨g2, 0, none⟩) 8 c2) (uvs (addL t.l s.l 0)) g2) := Lib.hid (by rw [addL_zero]; exact HA.out)
              clear HA hso HW
              go_wp2
              go_loopg [22] 8 (fun gn iv wr => ∃ i : Nat, i ≤ 8 ∧ gn = 8 - i ∧ iv = .int .i64 i ∧ Hid (Sl wr 52 (.slice (some ⟨g2, 0, none⟩) 8 c2) (uvs (addL t.l s.l i)) g2) ∧ Below w.heap.size w wr)
              case atStart => exact ⟨0, by omega, by omega, rfl, HA0, hBe⟩
              case round =>
                clear HA0 hBe
                obtain ⟨i, hi8, rfl, rfl, HA, hBe⟩ := hrel
                by_cases hlt3 : i < 8
                · have hl8 : t.l.length = 8 := rfl
                  have c1 : wr.cell? ⟨g2, i, none⟩ = some (.int .u32 (t.l.getD i 0)) := by
                    obtain ⟨sp, _, _, hr⟩ := HA.out
                    rw [hr.cell, List.getElem?_append_left (by rw [uvs_length, addL_length]; omega), uvs_at (by rw [addL_length]; omega), addL_get _ _ (by omega), if_neg (by omega)]
                  have f1 : wr.frozen? ⟨g2, i, none⟩ = false := by
                    obtain ⟨sp, _, _, hr⟩ := HA.out
                    exact hr.frozen i
                  have c3 : wr.cell? ⟨gs, i, none⟩ = some (.int .u32 (s.l.getD i 0)) := by
                    obtain ⟨sp, _, _, hr⟩ := HVS.out.keep hBe
                    rw [hr.cell, List.getElem?_append_left (by rw [uvs_length]; exact hlt3), uvs_at (by exact hlt3)]
                  have HST : Hid (Sl (wr.drew.setCell ⟨g2, i, none⟩ (.int .u32 (ad (t.l.getD i 0) (s.l.getD i 0)))) 52 (.slice (some ⟨g2, 0, none⟩) 8 c2) (uvs (addL t.l s.l (i + 1))) g2) := Lib.hid (by
                    have h := Sl.set (w := wr.drew) HA.out (i := i) (by rw [uvs_length, addL_length]; omega) (.int .u32 (ad (t.l.getD i 0) (s.l.getD i 0)))
                    rw [← addL_set _ _ (by omega)]
                    unfold uvs at h ⊢
                    rw [List.map_set]
                    exact h)
                  have hB2 : Below w.heap.size w (wr.drew.setCell ⟨g2, i, none⟩ (.int .u32 (ad (t.l.getD i 0) (s.l.getD i 0)))) := hBe.drew.setCell hg2 _
                  generalize t.l.getD i 0 = x at *
                  generalize s.l.getD i 0 = y at *
                  clear HA hBe hl8
                  go_wp2
                  refine region_tail 12 (by kernel_rfl) (by kernel_rfl) ?_
                  simp only [List.take_succ_cons, List.take_zero, List.drop_succ_cons, List.drop_zero]
                  repeat (refine wpStill_step (fun K hK => ?_); go_simp; refine hK _ ?_; clear hK K)
                  refine wpStill_nil ?_
                  have f1' : wr.drew.frozen? ⟨g2, i, none⟩ = false := f1
                  have c1' : wr.drew.cell? ⟨g2, i, none⟩ = some (.int .u32 x) := c1
                  have had : IntKind.u32.wrap (x + y) = ad x y := rfl
                  rw [had]
                  generalize ad x y = z at *
                  generalize wr.drew = w9 at *
                  clear had c1 f1 c3
                  go_wp2
                  go_roundg (8 - (i + 1))
                  case measure => omega
                  case rel => exact ⟨i + 1, by omega, rfl, by go_num, HST, hB2⟩
                · have hi8' : i = 8 := by omega
                  subst hi8'
                  go_wp2
                  go_ret
                  exact ⟨_, g2, rfl, by rw [HMX.out, ← addL_done]; exact HA.out, hg2, hBe⟩
end Go.Proofs.Ytfkfkoebplpooaa
