/- What the code's Write gives: what came, and this behind it. -/
import Derived.Test.YtfkfkoebplpooaaShaHash
import Derived.Deep.RegionHeld3
import Derived.Deep.RegionWith
import Derived.Deep.LoopGhost
namespace Go.Proofs.Ytfkfkoebplpooaa
open Go.RowKit Go.PlainAid
set_option linter.unusedVariables false
theorem rowS {w' : World} {g : Nat} {t : St} {R : List Int} {n : Nat} (h : Row w' g 57 (hcells t R n)) : w'.cell? ⟨g, 0, none⟩ = some (.int .u32 t.a) ∧ w'.cell? ⟨g, 1, none⟩ = some (.int .u32 t.b) ∧ w'.cell? ⟨g, 2, none⟩ = some (.int .u32 t.c) ∧ w'.cell? ⟨g, 3, none⟩ = some (.int .u32 t.d) ∧ w'.cell? ⟨g, 4, none⟩ = some (.int .u32 t.e) ∧ w'.cell? ⟨g, 5, none⟩ = some (.int .u32 t.f) ∧ w'.cell? ⟨g, 6, none⟩ = some (.int .u32 t.g) ∧ w'.cell? ⟨g, 7, none⟩ = some (.int .u32 t.h) ∧ w'.frozen? ⟨g, 0, none⟩ = false ∧ w'.frozen? ⟨g, 1, none⟩ = false ∧ w'.frozen? ⟨g, 2, none⟩ = false ∧ w'.frozen? ⟨g, 3, none⟩ = false ∧ w'.frozen? ⟨g, 4, none⟩ = false ∧ w'.frozen? ⟨g, 5, none⟩ = false ∧ w'.frozen? ⟨g, 6, none⟩ = false ∧ w'.frozen? ⟨g, 7, none⟩ = false :=
  ⟨h.cell 0, h.cell 1, h.cell 2, h.cell 3, h.cell 4, h.cell 5, h.cell 6, h.cell 7, h.frozen 0, h.frozen 1, h.frozen 2, h.frozen 3, h.frozen 4, h.frozen 5, h.frozen 6, h.frozen 7⟩
theorem row_state {w : World} {g : Nat} {t m : St} {R : List Int} {n : Nat} (h : Row w g 57 (hcells t R n)) : Row (w.setCells g 0 (uv m.l)) g 57 (hcells m R n) := by
  have := h.setMany (uv m.l) 0 (by simp [hcells, uv, bv, St.l])
  have e : (uv m.l).length = 8 := by simp [uv, St.l]
  rw [List.take_zero, List.nil_append, Nat.zero_add, e] at this
  unfold hcells at this ⊢
  have e2 : (uv t.l).length = 8 := by simp [uv, St.l]
  rw [List.append_assoc (uv t.l), List.drop_append, List.drop_eq_nil_of_le (by omega), List.nil_append, e2] at this
  rw [List.append_assoc]
  simpa using this
theorem hcells_rest (t : St) (R : List Int) (n i : Nat) (hR : R.length = 64) (hi : i < 64) : (hcells t R n)[8 + i]? = some (.int .u8 (R.getD i 0)) := by
  unfold hcells
  rw [List.append_assoc, List.getElem?_append_right (by simp [uv, St.l])]
  rw [show 8 + i - (uv t.l).length = i by simp [uv, St.l]]
  rw [List.getElem?_append_left (by rw [bv_length, hR]; exact hi)]
  simp [bv, List.getD, List.getElem?_eq_getElem (show i < R.length by omega)]
theorem grown_setCells {a : World} {g : Nat} : ∀ (vs : List Value) (o : Nat) (w : World), a.grownBy w (some g) → a.grownBy (w.setCells g o vs) (some g)
  | [], _, _, h => h
  | v :: r, o, w, h => grown_setCells r (o + 1) _ ⟨h.os, h.tape, h.output, by simpa using h.size, fun k hk hg => (Below.heap_setCell w ⟨g, o, none⟩ v k (fun e => hg (by rw [e]))).trans (h.block k hk hg)⟩
theorem sgrown_below {a w w' : World} {g : Nat} (h : a.grownBy w (some g)) (hb : Below w.drew.heap.size w.drew w') : a.grownBy w' (some g) :=
  ⟨hb.os.trans h.os, hb.tape.trans h.tape, hb.output.trans h.output, Nat.le_trans h.size hb.size, fun k hk hg => (hb.block k (Nat.lt_of_lt_of_le hk h.size)).trans (h.block k hk hg)⟩
def ABSpec : Prop := ∀ (s : St) (b : ByteArray) (w : World), s.ok → b.size = 64 → Calls Try.prog 25 #[.agg (uv s.l).toArray, .string b] w fun e w' => e = .returned (.agg (uv (mixB KS s b).l).toArray) ∧ Below w.heap.size w w'
theorem infoU8' : (Try.prog.info? 5).map (·.size) = some 1 := by kernel_rfl
set_option maxRecDepth 100000 in
set_option maxHeartbeats 4000000 in
theorem write_any (HAB : ABSpec) (g : Nat) (all b : ByteArray) (w : World) (h : HashAt w g all) (hs : all.size + b.size ≤ 1000000) :
    Calls Try.prog 17 #[.pointer (some ⟨g, 0, none⟩), .string b] w fun e w' => e = .returned (.tuple #[]) ∧ HashAt w' g (all ++ b) ∧ w.grownBy w' (some g) := by
  have hheld := held_any g all w h (by omega)
  have HH := Lib.hid hheld
  obtain ⟨R, hR, hr, hrow⟩ := h
  have hcnt : w.cell? ⟨g, 72, none⟩ = some (.int .u64 (all.size : Int)) := by rw [hrow.cell, hcells_count _ _ _ hR]
  have hfz := hrow.frozen 72
  have hrl : all.size % 64 ≤ 63 := by omega
  have hgl := hrow.lt
  have hrow1 : Row (w.setCell ⟨g, 72, none⟩ (.int .u64 ((all.size : Int) + (b.size : Int)))) g 57 (hcells (stAt all (all.size / 64)) R (all.size + b.size)) := by
    have := hrow.set 72 (.int .u64 ((all.size + b.size : Nat) : Int))
    rwa [hcells_set _ _ _ _ hR, Int.natCast_add] at this
  have HROW := Lib.hid hrow1
  have HR := Lib.hid hR
  have HRR := Lib.hid hr
  clear hrow hheld hrow1 hr
  have hsl := rest_from g (all.size % 64) (by omega) (w.setCell ⟨g, 72, none⟩ (.int .u64 ((all.size : Int) + (b.size : Int))))
  have hrd : all.size % 64 = all.size % 64 := rfl
  by_cases hr0 : 0 < all.size % 64
  · by_cases hsm : all.size % 64 + b.size < 64
    · have hmin : min b.size (64 - all.size % 64) = b.size := by omega
      have hth := HROW.out.there (o := 8 + all.size % 64) (n := b.size) (by rw [hcells_length _ _ _ hR]; omega)
      have hcp := run_copy_str (P := Try.prog) _ 41 9 3 5 g (8 + all.size % 64) (64 - all.size % 64) (64 - all.size % 64) b.size b hmin Try.underlying41 infoU8' hth
      have hfin := HROW.out.setMany (bcs b b.size) (8 + all.size % 64) (by rw [hcells_length _ _ _ hR, bcs_length]; omega)
      rw [hcells_put _ _ _ _ _ _ hR (by omega)] at hfin
      have HFIN := Lib.hid hfin
      clear hmin hth hfin hR
      generalize hrr : all.size % 64 = r at *
      have HRM := Lib.hid hrr
      clear hrr
      have hsm' : (r : Int) + (b.size : Int) < 64 := by omega
      go_enter Try.func17, Try.ntmps17
      have hgd : w.grownBy ((w.setCell ⟨g, 72, none⟩ (.int .u64 ((all.size : Int) + (b.size : Int)))).setCells g (8 + r) (bcs b b.size)) (some g) := by
        have h1 : w.grownBy (w.setCell ⟨g, 72, none⟩ (.int .u64 ((all.size : Int) + (b.size : Int)))) (some g) := ⟨rfl, rfl, rfl, by simp, fun k _ hk => Below.heap_setCell w _ _ k (fun e => hk (by rw [e]))⟩
        exact grown_setCells _ _ _ h1
      have HGD := Lib.hid hgd
      have HFIN2 : Hid (HashAt ((w.setCell ⟨g, 72, none⟩ (.int .u64 ((all.size : Int) + (b.size : Int)))).setCells g (8 + r) (bcs b b.size)) g (all ++ b)) := Lib.hid (by
        have hq : (all.size + b.size) / 64 = all.size / 64 := by have := HRM.out; omega
        refine ⟨put R r b b.size, ?_, ?_, ?_⟩
        · rw [put_length _ _ _ _ (by rw [HR.out]; omega)]; exact HR.out
        · intro j hj
          rw [ByteArray.size_append, hq]
          rw [ByteArray.size_append] at hj
          have hm : (all.size + b.size) % 64 = r + b.size := by have := HRM.out; omega
          rw [hm] at hj
          have hrm := HRM.out
          rcases Nat.lt_or_ge j r with h | h
          · rw [put_low _ _ _ _ _ (by rw [HR.out]; omega) h, HRR.out j h, bt_append_left (by omega)]
          · obtain ⟨k, rfl⟩ : ∃ k, j = r + k := ⟨j - r, by omega⟩
            rw [put_mid _ _ _ _ _ (by rw [HR.out]; omega) (by omega), bt_append_right (by omega)]
            congr 1; omega
        · rw [ByteArray.size_append, hq, stAt_left _ (by omega)]; exact HFIN.out)
      clear hgd
      go_wp2_with (go_at_call 24; refine HH.out.mono ?_; rintro e w' ⟨rfl, rfl⟩)
      exact bodyPost_ret (v := .tuple #[]) (by simp [results, Try.results17]) rfl ⟨rfl, HFIN2.out, HGD.out⟩
    · have hk64 : all.size % 64 + (64 - all.size % 64) = 64 := by omega
      have hmin : min b.size (64 - all.size % 64) = 64 - all.size % 64 := by omega
      have hth := HROW.out.there (o := 8 + all.size % 64) (n := 64 - all.size % 64) (by rw [hcells_length _ _ _ hR]; omega)
      have hcp := run_copy_str (P := Try.prog) _ 41 9 3 5 g (8 + all.size % 64) (64 - all.size % 64) (64 - all.size % 64) (64 - all.size % 64) b hmin Try.underlying41 infoU8' hth
      have hfin := HROW.out.setMany (bcs b (64 - all.size % 64)) (8 + all.size % 64) (by rw [hcells_length _ _ _ hR, bcs_length]; omega)
      rw [hcells_put _ _ _ _ _ _ hR (by omega)] at hfin
      have HR0 : Hid ((put R (all.size % 64) b (64 - all.size % 64)).length = 64) := Lib.hid (by rw [put_length _ _ _ _ (by rw [hR]; omega)]; exact hR)
      have hT : (all ++ b).size = all.size + b.size := ByteArray.size_append
      obtain ⟨q, hq⟩ : ∃ q, q = all.size / 64 := ⟨_, rfl⟩
      rw [← hq] at hfin
      have hblk : strOfNums (put R (all.size % 64) b (64 - all.size % 64)) = (all ++ b).extract (64 * q) (64 * q + 64) := by
        have hq1 : 64 * q + 64 ≤ (all ++ b).size := by omega
        apply bt_ext
        · rw [strOfNums_size, HR0.out, ByteArray.size_extract]; omega
        · intro j hj
          rw [strOfNums_size, HR0.out] at hj
          rw [bt_extract hq1 (by omega)]
          have hj2 : (put R (all.size % 64) b (64 - all.size % 64))[j]? = some ((put R (all.size % 64) b (64 - all.size % 64)).getD j 0) := by
            rw [List.getElem?_eq_getElem (by rw [HR0.out]; exact hj)]; simp [List.getD, List.getElem?_eq_getElem (show j < (put R (all.size % 64) b (64 - all.size % 64)).length by rw [HR0.out]; exact hj)]
          rcases Nat.lt_or_ge j (all.size % 64) with h | h
          · have e : (put R (all.size % 64) b (64 - all.size % 64)).getD j 0 = bt (all ++ b) (64 * q + j) := by
              rw [put_low _ _ _ _ _ (by rw [hR]; omega) h, HRR.out j h, bt_append_left (by omega), hq]
            exact (strOfNums_at _ j _ (by rw [hj2]) (by rw [e]; exact bt_nonneg _ _) (by rw [e]; exact bt_le _ _)).trans e
          · obtain ⟨k, rfl⟩ : ∃ k, j = all.size % 64 + k := ⟨j - all.size % 64, by omega⟩
            have e : (put R (all.size % 64) b (64 - all.size % 64)).getD (all.size % 64 + k) 0 = bt (all ++ b) (64 * q + (all.size % 64 + k)) := by
              rw [put_mid _ _ _ _ _ (by rw [hR]; omega) (by omega), bt_append_right (by omega)]
              congr 1; omega
            exact (strOfNums_at _ _ _ (by rw [hj2]) (by rw [e]; exact bt_nonneg _ _) (by rw [e]; exact bt_le _ _)).trans e
      have hq64 : ((all ++ b).extract (64 * q) (64 * q + 64)).size = 64 := by rw [ByteArray.size_extract]; omega
      have HAB2 := Lib.hid (fun w => HAB (stAt (all ++ b) q) ((all ++ b).extract (64 * q) (64 * q + 64)) w (stAt_ok _ _) hq64)
      have HST : Hid (stAt (all ++ b) (q + 1) = mixB KS (stAt (all ++ b) q) ((all ++ b).extract (64 * q) (64 * q + 64))) := Lib.hid rfl
      have hst0 : stAt all q = stAt (all ++ b) q := (stAt_left _ (by omega)).symm
      rw [hst0, ← hT] at hfin
      have hgd : w.grownBy ((w.setCell ⟨g, 72, none⟩ (.int .u64 ((all.size : Int) + (b.size : Int)))).setCells g (8 + all.size % 64) (bcs b (64 - all.size % 64))) (some g) := by
        have h1 : w.grownBy (w.setCell ⟨g, 72, none⟩ (.int .u64 ((all.size : Int) + (b.size : Int)))) (some g) := ⟨rfl, rfl, rfl, by simp, fun k _ hk => Below.heap_setCell w _ _ k (fun e => hk (by rw [e]))⟩
        exact grown_setCells _ _ _ h1
      have HBX : Hid (b.extract (64 - all.size % 64) b.size = (all ++ b).extract (64 * (q + 1)) (all ++ b).size) := Lib.hid (by
        rw [hT]
        apply bt_ext
        · rw [ByteArray.size_extract, ByteArray.size_extract, hT]; omega
        · intro k hk
          rw [ByteArray.size_extract] at hk
          rw [bt_extract (by omega) (by omega), bt_extract (by rw [hT]; omega) (by omega), bt_append_right (by omega)]
          congr 1; omega)
      have HBLK := Lib.hid hblk
      have HFIN := Lib.hid hfin
      have HGD := Lib.hid hgd
      have h64q : 64 * (q + 1) ≤ (all ++ b).size := by omega
      have hT1 : (all ++ b).size ≤ 1000000 := by omega
      have hlw : g < ((w.setCell ⟨g, 72, none⟩ (.int .u64 ((all.size : Int) + (b.size : Int)))).setCells g (8 + all.size % 64) (bcs b (64 - all.size % 64))).heap.size := hfin.lt
      clear hmin hth hfin hR HROW HRR hblk hq64 hst0 hgd hT hq HR hrd
      generalize htt : all ++ b = T at *
      have HTT := Lib.hid htt
      clear htt
      generalize hR0 : put R (all.size % 64) b (64 - all.size % 64) = R0 at *
      clear hR0
      generalize hrr : all.size % 64 = r at *
      clear hrr
      generalize hww : (w.setCell ⟨g, 72, none⟩ (.int .u64 ((all.size : Int) + (b.size : Int)))).setCells g (8 + r) (bcs b (64 - r)) = w1 at *
      generalize T.extract (64 * q) (64 * q + 64) = q1 at *
      generalize hm : mixB KS (stAt T q) q1 = m at *
      clear hm
      generalize stAt T q = t at *
      have HRd : Hid (Row w1.drew g 57 (hcells t R0 T.size)) := HFIN
      have hcv := run_convert_bytes_arg (P := Try.prog) w1.drew 41 5 Try.underlying41 Try.underlying5 g 8 64 64 R0 HR0.out (fun i hi => by
        have hc := HRd.out.cell (8 + i)
        rw [show (hcells t R0 T.size)[8 + i]? = some (.int .u8 (R0.getD i 0)) from hcells_rest t R0 T.size i HR0.out hi] at hc
        simpa using hc) 9 Try.underlying9
      rw [HBLK.out] at hcv
      have hra := rest_all g w1.drew
      have HABt : Hid (∀ w, Calls Try.prog 25 #[.agg #[.int .u32 t.a, .int .u32 t.b, .int .u32 t.c, .int .u32 t.d, .int .u32 t.e, .int .u32 t.f, .int .u32 t.g, .int .u32 t.h], .string q1] w fun e w' => e = .returned (.agg #[.int .u32 m.a, .int .u32 m.b, .int .u32 m.c, .int .u32 m.d, .int .u32 m.e, .int .u32 m.f, .int .u32 m.g, .int .u32 m.h]) ∧ Below w.heap.size w w') := HAB2
      obtain ⟨k0, k1, k2, k3, k4, k5, k6, k7, f0, f1, f2, f3, f4, f5, f6, f7⟩ := rowS HFIN.out
      have hsm' : ¬ (r : Int) + ((64 - r : Nat) : Int) < 64 := by omega
      have HB64 := Lib.hid hk64
      clear hk64 HBLK
      go_enter Try.func17, Try.ntmps17
      go_upto_region 5 with (go_at_call 24; refine HH.out.mono ?_; rintro e w' ⟨rfl, rfl⟩)
      clear hcp hsl hww hsm'
      go_region_with (go_at_call 25; refine (HABt.out _).mono ?_; rintro e w5 ⟨rfl, hb5⟩; obtain ⟨l0, l1, l2, l3, l4, l5, l6, l7, e0, e1, e2, e3, e4, e5, e6, e7⟩ := rowS (Row.below HRd.out hb5 hlw))
      all_goals
        have HRf : Hid (Row (w5.setCells g 0 (uv m.l)) g 57 (hcells m R0 T.size)) := Lib.hid (row_state (Row.below HRd.out hb5 hlw))
        have HGf : Hid (w.grownBy (w5.setCells g 0 (uv m.l)) (some g)) := Lib.hid (grown_setCells _ _ _ (sgrown_below HGD.out hb5))
        have hkb : 64 - r ≤ b.size := by omega
        clear k0 k1 k2 k3 k4 k5 k6 k7 f0 f1 f2 f3 f4 f5 f6 f7 l0 l1 l2 l3 l4 l5 l6 l7 e0 e1 e2 e3 e4 e5 e6 e7 HABt HAB2 HRd HFIN HGD hcv hra
        change Exit.then _ _ _ _ (w5.setCells g 0 (uv m.l))
        generalize w5.setCells g 0 (uv m.l) = w6 at *
        clear hb5
        generalize 64 - r = kk at *
        have hbb : b.size ≤ 1000000 := by omega
        go_upto_region 7 with (fail)
        go_loopg [1] (T.size - 64 * (q + 1)) (fun gn bv wr => ∃ n : Nat, ∃ R : List Int, 64 * n ≤ T.size ∧ gn = T.size - 64 * n ∧ bv = .string (T.extract (64 * n) T.size) ∧ Hid (R.length = 64) ∧ Hid (Row wr g 57 (hcells (stAt T n) R T.size)) ∧ Hid (w.grownBy wr (some g)))
        case atStart => exact ⟨q + 1, R0, h64q, rfl, by rw [← HBX.out], HR0, by rw [HST.out]; exact HRf, HGf⟩
        case round =>
          clear HBX h64q
          obtain ⟨n, R, h64n, rfl, rfl, HR, HROW, HGW⟩ := hrel
          have hes : (T.extract (64 * n) T.size).size = T.size - 64 * n := by rw [ByteArray.size_extract]; omega
          have hlr := HROW.out.lt
          by_cases hlt : 64 ≤ T.size - 64 * n
          · have hST : stAt T (n + 1) = mixB KS (stAt T n) (T.extract (64 * n) (64 * n + 64)) := rfl
            have HST := Lib.hid hST
            have hq64 : (T.extract (64 * n) (64 * n + 64)).size = 64 := by rw [ByteArray.size_extract]; omega
            have HAB2 := Lib.hid (fun w => HAB (stAt T n) (T.extract (64 * n) (64 * n + 64)) w (stAt_ok T n) hq64)
            have hx1 : (T.extract (64 * n) T.size).extract 0 64 = T.extract (64 * n) (64 * n + 64) := by
              apply bt_ext
              · rw [ByteArray.size_extract, hes, hq64]; omega
              · intro k hk
                rw [ByteArray.size_extract, hes] at hk
                rw [bt_extract (by rw [hes]; omega) (by omega), bt_extract (by omega) (by omega), bt_extract (by omega) (by omega)]
                congr 1; omega
            have hx2 : (T.extract (64 * n) T.size).extract 64 (T.size - 64 * n) = T.extract (64 * (n + 1)) T.size := by
              apply bt_ext
              · rw [ByteArray.size_extract, hes, ByteArray.size_extract]; omega
              · intro k hk
                rw [ByteArray.size_extract, hes] at hk
                rw [bt_extract (by rw [hes]; omega) (by omega), bt_extract (by omega) (by omega), bt_extract (by omega) (by omega)]
                congr 1; omega
            have HX1 := Lib.hid hx1
            have HX2 := Lib.hid hx2
            generalize hm : mixB KS (stAt T n) (T.extract (64 * n) (64 * n + 64)) = m at *
            generalize T.extract (64 * n) (64 * n + 64) = q1 at *
            generalize T.extract (64 * n) T.size = b1 at *
            generalize stAt T n = t at *
            clear hm hx1 hx2 hST hq64
            have hb1 : 64 ≤ b1.size := by omega
            have hb2 : b1.size ≤ 1000000 := by omega
            have HRd : Hid (Row wr.drew g 57 (hcells t R T.size)) := HROW
            have HABt : Hid (∀ w, Calls Try.prog 25 #[.agg #[.int .u32 t.a, .int .u32 t.b, .int .u32 t.c, .int .u32 t.d, .int .u32 t.e, .int .u32 t.f, .int .u32 t.g, .int .u32 t.h], .string (b1.extract 0 64)] w fun e w' => e = .returned (.agg #[.int .u32 m.a, .int .u32 m.b, .int .u32 m.c, .int .u32 m.d, .int .u32 m.e, .int .u32 m.f, .int .u32 m.g, .int .u32 m.h]) ∧ Below w.heap.size w w') := Lib.hid (by rw [HX1.out]; exact HAB2.out)
            have HES := Lib.hid hes
            clear hes
            obtain ⟨k0, k1, k2, k3, k4, k5, k6, k7, f0, f1, f2, f3, f4, f5, f6, f7⟩ := rowS HROW.out
            go_wp2_with fail
            go_region_with (go_at_call 25; refine (HABt.out _).mono ?_; rintro e w5 ⟨rfl, hb5⟩; obtain ⟨l0, l1, l2, l3, l4, l5, l6, l7, e0, e1, e2, e3, e4, e5, e6, e7⟩ := rowS (Row.below HRd.out hb5 hlr))
            have HRf : Hid (Row (w5.setCells g 0 (uv m.l)) g 57 (hcells m R T.size)) := Lib.hid (row_state (Row.below HRd.out hb5 hlr))
            have HGf : Hid (w.grownBy (w5.setCells g 0 (uv m.l)) (some g)) := Lib.hid (grown_setCells _ _ _ (sgrown_below HGW.out hb5))
            have HX3 : Hid (b1.extract 64 b1.size = T.extract (64 * (n + 1)) T.size) := Lib.hid (by rw [HES.out]; exact HX2.out)
            have hsz : 64 * (n + 1) ≤ T.size := by omega
            clear k0 k1 k2 k3 k4 k5 k6 k7 f0 f1 f2 f3 f4 f5 f6 f7 l0 l1 l2 l3 l4 l5 l6 l7 e0 e1 e2 e3 e4 e5 e6 e7 HABt HAB2 HRd HROW HGW
            change Exit.then _ _ _ _ (w5.setCells g 0 (uv m.l))
            generalize w5.setCells g 0 (uv m.l) = w6 at *
            clear hb5
            go_wp2_with fail
            go_roundg (T.size - 64 * (n + 1))
            case measure => omega
            case rel => exact ⟨n + 1, R, hsz, rfl, by rw [HX3.out], HR, by rw [HST.out]; exact HRf, HGf⟩
          · have hes2 : b = b := rfl
            have hk : (T.extract (64 * n) T.size).size < 64 := by omega
            have hth := HROW.out.there (o := 8) (n := (T.extract (64 * n) T.size).size) (by rw [hcells_length _ _ _ HR.out]; omega)
            have hcp := run_copy_str (P := Try.prog) _ 41 9 3 5 g 8 64 64 (T.extract (64 * n) T.size).size (T.extract (64 * n) T.size) (by omega) Try.underlying41 infoU8' hth
            have hfin := HROW.out.setMany (bcs (T.extract (64 * n) T.size) (T.extract (64 * n) T.size).size) 8 (by rw [hcells_length _ _ _ HR.out, bcs_length]; omega)
            have hpt := hcells_put (stAt T n) R T.size 0 (T.extract (64 * n) T.size).size (T.extract (64 * n) T.size) HR.out (by omega)
            rw [Nat.add_zero] at hpt
            rw [hpt] at hfin
            have HGF : Hid (w.grownBy (wr.setCells g 8 (bcs (T.extract (64 * n) T.size) (T.extract (64 * n) T.size).size)) (some g)) := Lib.hid (grown_setCells _ _ _ HGW.out)
            have HFIN : Hid (HashAt (wr.setCells g 8 (bcs (T.extract (64 * n) T.size) (T.extract (64 * n) T.size).size)) g T) := Lib.hid (by
              have hq : T.size / 64 = n := by omega
              have hm : T.size % 64 = (T.extract (64 * n) T.size).size := by omega
              refine ⟨put R 0 (T.extract (64 * n) T.size) (T.extract (64 * n) T.size).size, ?_, ?_, ?_⟩
              · rw [put_length _ _ _ _ (by rw [HR.out]; omega)]; exact HR.out
              · intro j hj
                rw [hm] at hj
                have := put_mid R 0 _ j (T.extract (64 * n) T.size) (by rw [HR.out]; omega) hj
                rw [Nat.zero_add] at this
                rw [this, hq, bt_extract (by omega) (by omega)]
              · rw [hq]; exact hfin)
            have hra := rest_all g wr
            have HES := Lib.hid hes
            clear hth hfin hpt hes hes2 HROW HGW
            have hb1 : ¬ 64 ≤ (T.extract (64 * n) T.size).size := by omega
            generalize T.extract (64 * n) T.size = b1 at *
            generalize wr.setCells g 8 (bcs b1 b1.size) = w6 at *
            go_wp2_with fail
            go_end0
            exact ⟨rfl, by first | exact HFIN.out | (rw [HTT.out]; exact HFIN.out), HGF.out⟩
  · have hq0 : all.size = 64 * (all.size / 64) := by omega
    obtain ⟨q, hq⟩ : ∃ q, q = all.size / 64 := ⟨_, rfl⟩
    rw [← hq] at HROW hq0
    have hT : (all ++ b).size = all.size + b.size := ByteArray.size_append
    have HROW2 : Hid (Row (w.setCell ⟨g, 72, none⟩ (.int .u64 ((all.size : Int) + (b.size : Int)))) g 57 (hcells (stAt (all ++ b) q) R (all ++ b).size)) := Lib.hid (by
      rw [hT, stAt_left _ (by omega)]; exact HROW.out)
    have HBX : Hid (b = (all ++ b).extract (64 * q) (all ++ b).size) := Lib.hid (by
      rw [← hq0, hT]
      apply bt_ext
      · rw [ByteArray.size_extract, hT]; omega
      · intro k hk
        rw [bt_extract (by rw [hT]; omega) (by omega), bt_append_right (by omega)]
        congr 1; omega)
    have hgw : w.grownBy (w.setCell ⟨g, 72, none⟩ (.int .u64 ((all.size : Int) + (b.size : Int)))) (some g) := ⟨rfl, rfl, rfl, by simp, fun k _ hk => Below.heap_setCell w _ _ k (fun e => hk (by rw [e]))⟩
    have HGW := Lib.hid hgw
    have h64q : 64 * q ≤ (all ++ b).size := by omega
    have hT1 : (all ++ b).size ≤ 1000000 := by omega
    have hr00 : all.size % 64 = 0 := by omega
    rw [hr00] at HH
    clear hq hq0 hT HROW HRR hrl hrd hsl hr0 hr00 hgw hR
    go_enter Try.func17, Try.ntmps17
    go_upto_region 7 with (go_at_call 24; refine HH.out.mono ?_; rintro e w' ⟨rfl, rfl⟩)
    generalize htt : all ++ b = T at *
    have HTT := Lib.hid htt
    clear htt
    go_loopg [1] (T.size - 64 * q) (fun gn bv wr => ∃ n : Nat, ∃ R : List Int, 64 * n ≤ T.size ∧ gn = T.size - 64 * n ∧ bv = .string (T.extract (64 * n) T.size) ∧ Hid (R.length = 64) ∧ Hid (Row wr g 57 (hcells (stAt T n) R T.size)) ∧ Hid (w.grownBy wr (some g)))
    case atStart => exact ⟨q, R, h64q, rfl, by rw [← HBX.out], HR, HROW2, HGW⟩
    case round =>
      clear HR HROW2 HGW HBX h64q
      obtain ⟨n, R, h64n, rfl, rfl, HR, HROW, HGW⟩ := hrel
      have hes : (T.extract (64 * n) T.size).size = T.size - 64 * n := by rw [ByteArray.size_extract]; omega
      have hlr := HROW.out.lt
      by_cases hlt : 64 ≤ T.size - 64 * n
      · have hST : stAt T (n + 1) = mixB KS (stAt T n) (T.extract (64 * n) (64 * n + 64)) := rfl
        have HST := Lib.hid hST
        have hq64 : (T.extract (64 * n) (64 * n + 64)).size = 64 := by rw [ByteArray.size_extract]; omega
        have HAB2 := Lib.hid (fun w => HAB (stAt T n) (T.extract (64 * n) (64 * n + 64)) w (stAt_ok T n) hq64)
        have hx1 : (T.extract (64 * n) T.size).extract 0 64 = T.extract (64 * n) (64 * n + 64) := by
          apply bt_ext
          · rw [ByteArray.size_extract, hes, hq64]; omega
          · intro k hk
            rw [ByteArray.size_extract, hes] at hk
            rw [bt_extract (by rw [hes]; omega) (by omega), bt_extract (by omega) (by omega), bt_extract (by omega) (by omega)]
            congr 1; omega
        have hx2 : (T.extract (64 * n) T.size).extract 64 (T.size - 64 * n) = T.extract (64 * (n + 1)) T.size := by
          apply bt_ext
          · rw [ByteArray.size_extract, hes, ByteArray.size_extract]; omega
          · intro k hk
            rw [ByteArray.size_extract, hes] at hk
            rw [bt_extract (by rw [hes]; omega) (by omega), bt_extract (by omega) (by omega), bt_extract (by omega) (by omega)]
            congr 1; omega
        have HX1 := Lib.hid hx1
        have HX2 := Lib.hid hx2
        generalize hm : mixB KS (stAt T n) (T.extract (64 * n) (64 * n + 64)) = m at *
        generalize T.extract (64 * n) (64 * n + 64) = q1 at *
        generalize T.extract (64 * n) T.size = b1 at *
        generalize stAt T n = t at *
        clear hm hx1 hx2 hST hq64
        have hb1 : 64 ≤ b1.size := by omega
        have hb2 : b1.size ≤ 1000000 := by omega
        have HRd : Hid (Row wr.drew g 57 (hcells t R T.size)) := HROW
        have HABt : Hid (∀ w, Calls Try.prog 25 #[.agg #[.int .u32 t.a, .int .u32 t.b, .int .u32 t.c, .int .u32 t.d, .int .u32 t.e, .int .u32 t.f, .int .u32 t.g, .int .u32 t.h], .string (b1.extract 0 64)] w fun e w' => e = .returned (.agg #[.int .u32 m.a, .int .u32 m.b, .int .u32 m.c, .int .u32 m.d, .int .u32 m.e, .int .u32 m.f, .int .u32 m.g, .int .u32 m.h]) ∧ Below w.heap.size w w') := Lib.hid (by rw [HX1.out]; exact HAB2.out)
        have HES := Lib.hid hes
        clear hes
        obtain ⟨k0, k1, k2, k3, k4, k5, k6, k7, f0, f1, f2, f3, f4, f5, f6, f7⟩ := rowS HROW.out
        go_wp2_with fail
        go_region_with (go_at_call 25; refine (HABt.out _).mono ?_; rintro e w5 ⟨rfl, hb5⟩; obtain ⟨l0, l1, l2, l3, l4, l5, l6, l7, e0, e1, e2, e3, e4, e5, e6, e7⟩ := rowS (Row.below HRd.out hb5 hlr))
        have HRf : Hid (Row (w5.setCells g 0 (uv m.l)) g 57 (hcells m R T.size)) := Lib.hid (row_state (Row.below HRd.out hb5 hlr))
        have HGf : Hid (w.grownBy (w5.setCells g 0 (uv m.l)) (some g)) := Lib.hid (grown_setCells _ _ _ (sgrown_below HGW.out hb5))
        have HX3 : Hid (b1.extract 64 b1.size = T.extract (64 * (n + 1)) T.size) := Lib.hid (by rw [HES.out]; exact HX2.out)
        have hsz : 64 * (n + 1) ≤ T.size := by omega
        clear k0 k1 k2 k3 k4 k5 k6 k7 f0 f1 f2 f3 f4 f5 f6 f7 l0 l1 l2 l3 l4 l5 l6 l7 e0 e1 e2 e3 e4 e5 e6 e7 HABt HAB2 HRd HROW HGW
        change Exit.then _ _ _ _ (w5.setCells g 0 (uv m.l))
        generalize w5.setCells g 0 (uv m.l) = w6 at *
        clear hb5
        go_wp2_with fail
        go_roundg (T.size - 64 * (n + 1))
        case measure => omega
        case rel => exact ⟨n + 1, R, hsz, rfl, by rw [HX3.out], HR, by rw [HST.out]; exact HRf, HGf⟩
      · have hes2 : b = b := rfl
        have hk : (T.extract (64 * n) T.size).size < 64 := by omega
        have hth := HROW.out.there (o := 8) (n := (T.extract (64 * n) T.size).size) (by rw [hcells_length _ _ _ HR.out]; omega)
        have hcp := run_copy_str (P := Try.prog) _ 41 9 3 5 g 8 64 64 (T.extract (64 * n) T.size).size (T.extract (64 * n) T.size) (by omega) Try.underlying41 infoU8' hth
        have hfin := HROW.out.setMany (bcs (T.extract (64 * n) T.size) (T.extract (64 * n) T.size).size) 8 (by rw [hcells_length _ _ _ HR.out, bcs_length]; omega)
        have hpt := hcells_put (stAt T n) R T.size 0 (T.extract (64 * n) T.size).size (T.extract (64 * n) T.size) HR.out (by omega)
        rw [Nat.add_zero] at hpt
        rw [hpt] at hfin
        have HGF : Hid (w.grownBy (wr.setCells g 8 (bcs (T.extract (64 * n) T.size) (T.extract (64 * n) T.size).size)) (some g)) := Lib.hid (grown_setCells _ _ _ HGW.out)
        have HFIN : Hid (HashAt (wr.setCells g 8 (bcs (T.extract (64 * n) T.size) (T.extract (64 * n) T.size).size)) g T) := Lib.hid (by
          have hq : T.size / 64 = n := by omega
          have hm : T.size % 64 = (T.extract (64 * n) T.size).size := by omega
          refine ⟨put R 0 (T.extract (64 * n) T.size) (T.extract (64 * n) T.size).size, ?_, ?_, ?_⟩
          · rw [put_length _ _ _ _ (by rw [HR.out]; omega)]; exact HR.out
          · intro j hj
            rw [hm] at hj
            have := put_mid R 0 _ j (T.extract (64 * n) T.size) (by rw [HR.out]; omega) hj
            rw [Nat.zero_add] at this
            rw [this, hq, bt_extract (by omega) (by omega)]
          · rw [hq]; exact hfin)
        have hra := rest_all g wr
        have HES := Lib.hid hes
        clear hth hfin hpt hes hes2 HROW HGW
        have hb1 : ¬ 64 ≤ (T.extract (64 * n) T.size).size := by omega
        generalize T.extract (64 * n) T.size = b1 at *
        generalize wr.setCells g 8 (bcs b1 b1.size) = w6 at *
        go_wp2_with fail
        go_end0
        exact ⟨rfl, by first | exact HFIN.out | (rw [HTT.out]; exact HFIN.out), HGF.out⟩
end Go.Proofs.Ytfkfkoebplpooaa
