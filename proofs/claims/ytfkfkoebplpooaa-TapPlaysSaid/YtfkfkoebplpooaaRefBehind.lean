/- What the reference's Behind gives: the first 32 bits behind the point of a root. -/
import Derived.Test.YtfkfkoebplpooaaRefTimes
import Derived.Test.YtfkfkoebplpooaaSha
namespace Go.Proofs.Ytfkfkoebplpooaa
open Go.RowKit Go.PlainAid
set_option linter.unusedVariables false
theorem num_zeros (n : Nat) (l : List Nat) : num (List.replicate n 0 ++ l) = 256 ^ n * num l := by
  rw [num_append, num_replicate, List.length_replicate, Nat.zero_add]
theorem want_num (p k : Nat) (hp : p < 512) : num (List.replicate (4 * k) 0 ++ dgl p 8) = p * 2 ^ (32 * k) := by
  rw [num_zeros, dgl_num, Nat.mod_eq_of_lt (by omega), show (256 : Nat) = 2 ^ 8 from rfl, ← Nat.pow_mul, show 8 * (4 * k) = 32 * k by omega, Nat.mul_comm]
theorem rb_bd {n k : Nat} (hk : 1 ≤ k) (hn : n < (2 ^ 41) ^ k) {j : Nat} (hj : j ≤ 40) : rb n k j + 2 ^ (40 - j) < 2 ^ 41 + 1 ∧ 2 ^ (40 - j) ≤ 2 ^ 40 := by
  obtain ⟨_, _, h⟩ := rb_inv hk hn j (by omega)
  have e : 2 ^ (41 - j) = 2 ^ (40 - j) + 2 ^ (40 - j) := by
    rw [show 41 - j = (40 - j) + 1 by omega, Nat.pow_succ]; omega
  have := Nat.pow_le_pow_right (show 0 < 2 by omega) (show 40 - j ≤ 40 by omega)
  have := Nat.two_pow_pos (40 - j)
  omega
theorem kr_small (p k : Nat) (hp : p < 512) (hk : 1 ≤ k) : p * 2 ^ (32 * k) < (2 ^ 41) ^ k := by
  rw [← Nat.pow_mul, show 41 * k = 9 * k + 32 * k by omega, Nat.pow_add]
  apply Nat.mul_lt_mul_of_pos_right _ (Nat.two_pow_pos _)
  calc p < 2 ^ 9 := hp
    _ ≤ 2 ^ (9 * k) := Nat.pow_le_pow_right (by omega) (by omega)

set_option maxRecDepth 100000 in
set_option maxHeartbeats 1000000 in
theorem rBehind_any (p k : Nat) (hp : p < 512) (k2 : 2 ≤ k) (k3 : k ≤ 3) (w : World) :
    Calls Try.prog 31 #[.int .u64 p, .int .i64 k] w fun e w' => e = .returned (.int .u32 (kw p k)) ∧ Below w.heap.size w w' := by
  obtain ⟨i0, hi, hz0, hz1, hz2⟩ := info_parts infoI64b
  have hsm := kr_small p k hp (by omega)
  have HW := Lib.hid (want_num p k hp)
  obtain ⟨N, hN⟩ : ∃ N, N = p * 2 ^ (32 * k) := ⟨_, rfl⟩
  have HKR : Hid (kw p k = ((rb N k 41 % 4294967296 : Nat) : Int)) := Lib.hid (by rw [hN]; rfl)
  rw [← hN] at hsm HW
  have HSM := Lib.hid hsm
  clear hsm hN
  go_enter Try.func31, Try.ntmps31
  go_wp2_with fail
  refine (bytes_any p (by omega) _).mono ?_
  rintro e w1 ⟨v, g, rfl, hs, hg, hB⟩
  have HS : Hid (Sl w1 3 v (nvs (List.replicate 0 0 ++ dgl p 8)) g) := Lib.hid hs
  clear hs
  go_wp2
  go_loopw [5, 6] (fun ov iv wr => ∃ i g : Nat, ∃ v, i ≤ 4 * k ∧ iv = .int .i64 i ∧ v = ov ∧ Hid (Sl wr 3 v (nvs (List.replicate i 0 ++ dgl p 8)) g) ∧ w.heap.size ≤ g ∧ Below w.heap.size w wr) (fun _ iv _ => 4 * k - (intOf iv).toNat)
  case atStart => exact ⟨0, g, v, by omega, rfl, rfl, HS, hg, hB⟩
  case round =>
    clear HS hg hB
    obtain ⟨i, g, v, hik, rfl, rfl, HS, hg, hB⟩ := hrel
    by_cases hlt : i < 4 * k
    · obtain ⟨sp, hv, hm, hr⟩ := HS.out
      rw [nvs_length] at hv hm
      have hln : (List.replicate i 0 ++ dgl p 8).length = i + 8 := by simp [dgl_length]
      rw [hln] at hv hm
      have HV := Lib.hid hv
      have HR := Lib.hid hr
      have HLN := Lib.hid hln
      clear hv hr hm hln
      have hgl := HS.out.lt
      go_wp2_with (at_builtin; refine wpList_append_own _ rfl (.tmp 21) (.tmp 22) 71 rfl w.heap.size 3 i0 (.int .i64 0) 1 8 Try.underlying71 hi hz0 hz1 hz2 rfl (by decide) _ 1 [.int .i64 0] rfl ?c0 ⟨g, 0, none⟩ (i + 8) (i + 8 + sp.length) (nvs (List.replicate i 0 ++ dgl p 8)) HV.out ?c1 ?c2 ?c3 ?c4 ?c5 ?c6 ?_)
      case c0 => exact own_new (w := wr) [.int .i64 0] hB.size (by simp [maxLen])
      case c1 => rw [nvs_length, HLN.out]; omega
      case c2 =>
        intro j u hj
        rw [addr_add, World.cell?_alloc_past _ _ _ hgl, HR.out.cell, List.getElem?_append_left (List.getElem?_eq_some_iff.1 hj).1]; exact hj
      case c3 => intro u hu; obtain ⟨x, _, rfl⟩ := List.mem_map.1 hu; rfl
      case c4 => unfold maxLen; omega
      case c5 => omega
      case c6 => have := hB.size; simp; omega
      intro v' w1 hown hgr hnil
      obtain ⟨g', hs', hg'⟩ := Sl.of_own hown (fun h => hnil h)
      have HB : Below w.heap.size w w1 := (hB.alloc hB.size _).grown hgr (by have := hB.size; simp; omega) (by
        intro j hj; simp [Value.ownBlock] at hj; have := hB.size; omega)
      have HS2 : Hid (Sl w1 3 v' (nvs (List.replicate (i + 1) 0 ++ dgl p 8)) g') := Lib.hid (by
        rw [List.replicate_succ]; exact hs')
      clear hown hgr hnil hs'
      go_wp2
      go_roundw
      case rel => exact ⟨i + 1, g', v', by omega, by go_num, rfl, HS2, hg', HB⟩
      case measure => simp [intOf]; omega
    · have hi4 : i = 4 * k := by omega
      subst hi4
      have hwl : (List.replicate (4 * k) 0 ++ dgl p 8).length ≤ 40 := by simp [dgl_length]; omega
      have HWD : Hid (∀ x ∈ List.replicate (4 * k) 0 ++ dgl p 8, x ≤ 255) := Lib.hid (by
        intro x hx
        rcases List.mem_append.1 hx with h | h
        · simp at h; omega
        · exact dgl_bd p 8 x h)
      have hgl := HS.out.lt
      generalize List.replicate (4 * k) 0 ++ dgl p 8 = want at *
      have HWL := Lib.hid hwl
      clear hwl
      go_wp2
      go_loopg [7, 8] 41 (fun gn rv bv wx => ∃ j : Nat, j ≤ 41 ∧ gn = 41 - j ∧ bv = .int .i64 (40 - (j : Int)) ∧ rv = .int .u64 ((rb N k j : Nat) : Int) ∧ Hid (Sl wx 3 v (nvs want) g) ∧ Below w.heap.size w wx)
      case atStart => exact ⟨0, by omega, rfl, rfl, rfl, HS, hB⟩
      case round =>
        clear HS hB hgl
        obtain ⟨j, hj, rfl, rfl, rfl, HS, hB⟩ := hrel
        by_cases hlt2 : j ≤ 40
        · obtain ⟨hrb, h2j⟩ := rb_bd (by omega) HSM.out hlt2
          have HNX := Lib.hid (rb_next N k j)
          obtain ⟨b, hb⟩ : ∃ b, b = 40 - j := ⟨_, rfl⟩
          have hbc : 40 - (j : Int) = (b : Int) := by omega
          have hb40 : b ≤ 40 := by omega
          rw [← hb] at hrb h2j HNX
          rw [hbc]
          have HBB := Lib.hid hb
          clear hb hbc
          generalize rb N k j = r at *
          go_wp2
          go_loop [9, 10] (fun xv iv => ∃ i : Nat, i ≤ b ∧ iv = .int .i64 i ∧ xv = .int .u64 ((2 ^ i : Nat) : Int)) (fun _ iv => b - (intOf iv).toNat)
          case atStart => exact ⟨0, by omega, rfl, rfl⟩
          case round =>
            obtain ⟨i, hib, rfl, rfl⟩ := hrel
            have hpw : 2 ^ i ≤ 2 ^ 40 := Nat.pow_le_pow_right (by omega) (by omega)
            have HPS := Lib.hid (show 2 ^ (i + 1) = 2 ^ i * 2 from Nat.pow_succ 2 i)
            by_cases hlt3 : i < b
            · generalize 2 ^ i = y at *
              have hpw' : (y : Int) ≤ 1099511627776 := by omega
              clear hpw
              go_wp2
              go_round
              case rel => exact ⟨i + 1, by omega, by go_num, by rw [HPS.out]; go_num⟩
              case measure => simp [intOf]; omega
            · have hib2 : i = b := by omega
              subst hib2
              clear HPS
              obtain ⟨c, hc⟩ : ∃ c, c = r + 2 ^ i := ⟨_, rfl⟩
              rw [← hc] at hrb HNX
              have hcr : r + 2 ^ i = c := hc.symm
              generalize 2 ^ i = o at *
              have hcc : IntKind.u64.wrap ((r : Int) + (o : Int)) = (c : Int) := by rw [← Int.natCast_add, hcr]; exact IntWalk.u64_in _ (by omega)
              have hrb' : (c : Int) ≤ 2199023255552 := by omega
              have HCD : Hid ((r : Int) + (o : Int) = (c : Int)) := Lib.hid (by omega)
              have HWX := Lib.hid (show num (dgl c 8) = c by rw [dgl_num]; exact Nat.mod_eq_of_lt (by omega))
              clear hc hcr hrb hpw hcc
              have hr0 : (r : Int) ≤ 2199023255552 := by have := HCD.out; omega
              have ho0 : (o : Int) ≤ 2199023255552 := by have := HCD.out; omega
              have hxl := Row.new wr 3 (nvs [1])
              go_wp2
              go_loopw [11, 12] (fun pv iv wy => ∃ i g' : Nat, ∃ v' l, i ≤ k ∧ iv = .int .i64 i ∧ v' = pv ∧ Hid (Sl wy 3 v' (nvs l) g') ∧ l.length = 1 + 9 * i ∧ Hid (∀ x ∈ l, x ≤ 255) ∧ Hid (num l = c ^ i) ∧ Hid (Sl wy 3 v (nvs want) g) ∧ Below w.heap.size w wy) (fun _ iv _ => k - (intOf iv).toNat)
              case atStart => exact ⟨0, _, _, [1], by omega, rfl, rfl, Lib.hid (Sl.new _ 3 (nvs [1]) (by simp [nvs, maxLen])), by simp, Lib.hid (by simp), Lib.hid (by simp [num]), Lib.hid (HS.out.alloc _), hB.alloc hB.size _⟩
              case round =>
                clear HS hB hxl
                obtain ⟨i, g', v', l, hik, rfl, rfl, HS', hll, HL, HNL, HS, hB⟩ := hrel
                by_cases hlt4 : i < k
                · have HLL := Lib.hid hll
                  have hll2 : l.length ≤ 28 := by omega
                  clear hll
                  go_wp2_with fail
                  · have HCC := HCD.out
                    rw [HCC]
                    refine (bytes_any c (by omega) _).mono ?_
                    rintro e w2 ⟨v2, g2, rfl, hs2, hg2, hB2⟩
                    have HS2 := Lib.hid hs2
                    clear hs2
                    go_wp2_with fail
                    refine (times_any l (dgl c 8) v' v2 g' g2 (by rw [dgl_length]; omega) HL.out (dgl_bd c 8) w2 (HS'.out.keep hB2) HS2.out).mono ?_
                    rintro e w3 ⟨l3, hl3, hd3, hn3, v3, g3, rfl, hs3, hg3, hB3⟩
                    have H1 := Lib.hid hl3
                    have H2 := Lib.hid hd3
                    have H3 : Hid (num l3 = c ^ (i + 1)) := Lib.hid (by rw [hn3, HNL.out, HWX.out, Nat.pow_succ])
                    have H4 := Lib.hid hs3
                    have H5 := Lib.hid ((HS.out.keep hB2).keep hB3)
                    have hBB := (hB.trans (hB2.mono hB.size)).trans (hB3.mono (by have := hB.size; have := hB2.size; omega))
                    clear hl3 hd3 hn3 hs3 hB2 hB3 HS' HS hB HCC
                    go_wp2
                    go_roundw
                    case rel => exact ⟨i + 1, g3, v3, l3, by omega, by go_num, rfl, H4, by rw [H1.out, HLL.out, dgl_length]; omega, H2, H3, H5, hBB⟩
                    case measure => simp [intOf]; omega
                · have hik2 : i = k := by omega
                  subst hik2
                  have hl40 : l.length ≤ 40 := by omega
                  have HAM := Lib.hid (atMost_any l want v' v g' g hl40 HWL.out HL.out HWD.out wr HS'.out HS.out)
                  clear hll hl40
                  by_cases hle : c ^ i ≤ N
                  · have HD : Hid (decide (num l ≤ num want) = true) := Lib.hid (by rw [HNL.out, HW.out]; simpa using hle)
                    have HR2 : Hid (rb N i (j + 1) = c) := Lib.hid (by rw [HNX.out, if_pos hle])
                    clear hle
                    go_wp2_with (go_at_call 42; refine HAM.out.mono ?_; rintro e w' ⟨rfl, rfl⟩; rw [HD.out])
                    go_roundg (41 - (j + 1))
                    case measure => omega
                    case rel => exact ⟨j + 1, by omega, rfl, by have := HBB.out; go_num, by rw [HR2.out, HCD.out], HS, hB⟩
                  · have HD : Hid (decide (num l ≤ num want) = false) := Lib.hid (by rw [HNL.out, HW.out]; simpa using hle)
                    have HR2 : Hid (rb N i (j + 1) = r) := Lib.hid (by rw [HNX.out, if_neg hle])
                    clear hle
                    go_wp2_with (go_at_call 42; refine HAM.out.mono ?_; rintro e w' ⟨rfl, rfl⟩; rw [HD.out])
                    go_roundg (41 - (j + 1))
                    case measure => omega
                    case rel => exact ⟨j + 1, by omega, rfl, by have := HBB.out; go_num, by rw [HR2.out], HS, hB⟩
        · have hj41 : j = 41 := by omega
          subst hj41
          have hrl : rb N k 41 < 2 ^ 41 + 1 := by have := (rb_inv (by omega) HSM.out 41 (by omega)).2.2; omega
          generalize rb N k 41 = r at *
          have hr2 : (r : Int) ≤ 2199023255552 := by omega
          clear hrl
          go_wp2
          go_ret
          exact ⟨ret_int (by rw [HKR.out]; go_num), hB⟩
end Go.Proofs.Ytfkfkoebplpooaa
