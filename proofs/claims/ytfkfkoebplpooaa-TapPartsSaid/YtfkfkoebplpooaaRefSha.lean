/- What the reference's Sum gives: a text's digest. -/
import Derived.Test.YtfkfkoebplpooaaRefMix2
namespace Go.Proofs.Ytfkfkoebplpooaa
open Go.RowKit Go.PlainAid
set_option linter.unusedVariables false
set_option maxHeartbeats 1000000 in
theorem refSum_any (b : ByteArray) (hb : b.size ≤ 100000) (w : World) :
    Calls Try.prog 16 #[.string b] w fun e w' => e = .returned (.string (shaB b)) ∧ Below w.heap.size w w' := by
  go_enter Try.func16, Try.ntmps16
  go_wp2_with fail
  refine (refConsts_any _).mono ?_
  rintro e w1 ⟨va, vb, ga, gb, rfl, hsa, hsb, hga, hgb, hB⟩
  have HA : Hid (Sl w1 52 va (uvs (stAt (padB b) 0).l) ga) := Lib.hid hsa
  have HK := Lib.hid hsb
  have hgbl := hsb.lt
  clear hsa hsb
  go_wp2_with fail
  refine (refPad_any b (by omega) _).mono ?_
  rintro e w2 ⟨rfl, hB2⟩
  have HA2 := Lib.hid (HA.out.keep hB2)
  have HK2 := Lib.hid (HK.out.keep hB2)
  have hBB := hB.trans (hB2.mono hB.size)
  have hp64 := padB_size b
  have hps : (padB b).size ≤ 200000 := by unfold padB; rw [ByteArray.size_append, tailB_size]; have := padZ_lt b.size; omega
  have HSH : Hid (shaB b = digB (stAt (padB b) ((padB b).size / 64))) := Lib.hid rfl
  clear HA HK hB2 hB
  generalize padB b = p at *
  obtain ⟨N, hN⟩ : ∃ N, p.size = 64 * N := ⟨p.size / 64, by omega⟩
  have HN64 : Hid (p.size / 64 = N) := Lib.hid (by omega)
  have HN := Lib.hid hN
  have hN1 : N ≤ 3125 := by omega
  clear hN hp64
  go_wp2
  go_loopg [3, 6] N (fun gn sv iv wr => ∃ n g : Nat, ∃ v, n ≤ N ∧ gn = N - n ∧ iv = .int .i64 ((64 * n : Nat) : Int) ∧ v = sv ∧ Hid (Sl wr 52 v (uvs (stAt p n).l) g) ∧ Hid (Sl wr 52 vb (uvs KS) gb) ∧ Below w.heap.size w wr)
  case atStart => exact ⟨0, ga, va, by omega, by omega, rfl, rfl, HA2, HK2, hBB⟩
  case round =>
    clear HA2 HK2 hBB
    obtain ⟨n, g, v, hn, rfl, rfl, rfl, HA, HK, hBe⟩ := hrel
    have hpN := HN.out
    by_cases hlt : n < N
    · have HST : Hid (stAt p (n + 1) = mixB KS (stAt p n) (p.extract (64 * n) (64 * n + 64))) := Lib.hid rfl
      have hes : (p.extract (64 * n) (64 * n + 64)).size = 64 := by rw [ByteArray.size_extract]; omega
      have hsl : ∀ W : World, (Instr.slice 9 (.string p) (some (.int .i64 ((64 * n : Nat) : Int))) (some (.int .i64 (((64 * n : Nat) : Int) + 64))) none).run Try.prog W = .ok (.string (p.extract (64 * n) (64 * n + 64))) W := by
        intro W
        rw [run_slice_string_if (P := Try.prog) W 9 p .i64 .i64 _ _ Try.underlying9, if_pos (by omega), if_pos (by omega), show (((64 * n : Nat) : Int) + 64).toNat = 64 * n + 64 from by omega, show ((64 * n : Nat) : Int).toNat = 64 * n from by omega]
      have hok := stAt_ok p n
      have hmix := mix_any (stAt p n) hok (p.extract (64 * n) (64 * n + 64)) hes KS KS_length KS_bd v vb g gb wr HA.out HK.out
      have HM := Lib.hid hmix
      have hsz := hBe.size
      have hple : (64 * n : Nat) + 64 ≤ p.size := by omega
      clear hmix hpN hok hes
      generalize p.extract (64 * n) (64 * n + 64) = q at *
      generalize hm : 64 * n = m at *
      have HMM := Lib.hid hm
      clear hm
      go_wp2_with fail
      refine HM.out.mono ?_
      rintro e w3 ⟨v3, g3, rfl, hs3, hg3, hB3⟩
      have HA3 : Hid (Sl w3 52 v3 (uvs (stAt p (n + 1)).l) g3) := Lib.hid (by rw [HST.out]; exact hs3)
      have HK3 := Lib.hid (HK.out.keep hB3)
      have hBB := hBe.trans (hB3.mono hsz)
      clear HA HK hB3 hs3 hsl HM
      go_wp2
      go_roundg (N - (n + 1))
      case measure => omega
      case rel => exact ⟨n + 1, g3, v3, by omega, rfl, by have := HMM.out; go_num, rfl, HA3, HK3, hBB⟩
    · have hnN : n = N := by omega
      subst hnN
      have HOK := Lib.hid (stAt_ok p n)
      have HQ : Hid (shaB b = digB (stAt p n)) := Lib.hid (by rw [HSH.out, HN64.out])
      generalize stAt p n = t at *
      obtain ⟨c, rfl, hc1, hc2⟩ := Sl.open HA.out (n := 8) (by rw [uvs_length]; rfl)
      clear HSH HK
      go_wp2
      go_loopg [7, 8] 8 (fun gn ov iv wr => ∃ i : Nat, i ≤ 8 ∧ gn = 8 - i ∧ iv = .int .i64 i ∧ ov = .string (dgP t i) ∧ Hid (Sl wr 52 (.slice (some ⟨g, 0, none⟩) 8 c) (uvs t.l) g) ∧ Below w.heap.size w wr)
      case atStart => exact ⟨0, by omega, by omega, rfl, rfl, HA, hBe⟩
      case round =>
        clear HA hBe
        obtain ⟨i, hi, rfl, rfl, rfl, HA, hBe⟩ := hrel
        have hds := dgP_size t i
        by_cases hlt8 : i < 8
        · have c1 : wr.cell? ⟨g, i, none⟩ = some (.int .u32 (t.l.getD i 0)) := by
            obtain ⟨sp, _, _, hr⟩ := HA.out
            rw [hr.cell, List.getElem?_append_left (by rw [uvs_length]; exact hlt8), uvs_at (by exact hlt8)]
          obtain ⟨x0, x1⟩ := okL HOK.out hlt8
          have HDS : Hid (dgP t (i + 1) = dgP t i ++ putB (t.l.getD i 0).toNat 4) := Lib.hid rfl
          generalize t.l.getD i 0 = x at *
          go_wp2_with fail
          refine (refPut_any x 4 (by omega) (by omega) (by decide) (by decide) _).mono ?_
          rintro e w3 ⟨rfl, hB3⟩
          have hps4 : (putB x.toNat 4).size = 4 := putB_size _ _
          rw [show (4 : Int).toNat = 4 from rfl]
          have HA3 := Lib.hid (HA.out.keep hB3)
          have hBB := hBe.trans (hB3.mono hBe.size)
          clear HA hBe hB3 c1
          generalize putB x.toNat 4 = q at *
          generalize dgP t i = d at *
          go_wp2
          go_roundg (8 - (i + 1))
          case measure => omega
          case rel => exact ⟨i + 1, by omega, rfl, by go_num, by rw [HDS.out], HA3, hBB⟩
        · have hi8 : i = 8 := by omega
          subst hi8
          have HD : Hid (dgP t 8 = shaB b) := Lib.hid (by rw [dgP_done, HQ.out])
          generalize dgP t 8 = d at *
          go_wp2
          go_ret
          exact ⟨ret_string HD.out, hBe⟩
end Go.Proofs.Ytfkfkoebplpooaa
