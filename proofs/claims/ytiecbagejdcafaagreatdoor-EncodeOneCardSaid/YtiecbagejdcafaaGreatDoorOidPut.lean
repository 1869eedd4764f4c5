/- What oid's together, appendNumber and Put give: the landed code's contracts. Of every list of arcs of at most a million, and every number. -/
import Derived.Test.YtiecbagejdcafaaGreatDoorB0
import Derived.Test.YtiecbagejdcafaaGreatDoorO1
import Derived.Test.YtiecbagejdcafaaGreatDoorShelf
import Derived.Handy
namespace Go.Proofs.YtiecbagejdcafaaGreatDoor
open Go.RowKit Go.PlainAid
set_option linter.unusedVariables false
def groups (k : Nat) : Nat := (Lib.bitLen k - 1) / 7
theorem pow128 (j : Nat) : (128 : Nat) ^ j = 2 ^ (7 * j) := by rw [Nat.pow_mul]
theorem bitLen_bd (k : Nat) (h0 : k ≠ 0) (h : k ≤ 18446744073709551615) : 1 ≤ Lib.bitLen k ∧ 2 ^ (Lib.bitLen k - 1) ≤ k ∧ k < 2 ^ Lib.bitLen k ∧ Lib.bitLen k ≤ 64 := by
 have h2 := Lib.bitLen_le k 64 (by decide) (by omega)
 suffices hh : 1 ≤ Lib.bitLen k ∧ 2 ^ (Lib.bitLen k - 1) ≤ k ∧ k < 2 ^ Lib.bitLen k from ⟨hh.1, hh.2.1, hh.2.2, h2⟩
 clear h2
 induction k using Nat.strongRecOn with
 |ind k ih =>
  have e := Lib.bitLen_half k h0 (by omega)
  by_cases h1 : k = 1
  ·subst h1; decide
  ·obtain ⟨i1, i2, i3⟩ := ih (k / 2) (by omega) (by omega) (by omega)
   rw [e]
   refine ⟨by omega, ?_, ?_⟩
   ·rw [show 1 + Lib.bitLen (k / 2) - 1 = Lib.bitLen (k / 2) - 1 + 1 by omega, Nat.pow_succ]; omega
   ·rw [Nat.add_comm, Nat.pow_succ]; omega
theorem groups_all (k : Nat) (h : k ≤ 18446744073709551615) : k / 128 ^ (groups k + 1) = 0 := by
 by_cases h0 : k = 0
 ·subst h0; simp
 ·obtain ⟨h1, h2, h3, h4⟩ := bitLen_bd k h0 h
  apply Nat.div_eq_of_lt
  rw [pow128]
  refine Nat.lt_of_lt_of_le h3 (Nat.pow_le_pow_right (by decide) ?_)
  unfold groups; omega
theorem groups_some (k j : Nat) (h : k ≤ 18446744073709551615) (hj1 : 1 ≤ j) (hj : j ≤ groups k) : k / 128 ^ j ≠ 0 := by
 by_cases h0 : k = 0
 ·subst h0
  have : groups 0 = 0 := by decide
  omega
 ·obtain ⟨h1, h2, h3, h4⟩ := bitLen_bd k h0 h
  intro he
  have h5 : k < 128 ^ j := by
   rcases Nat.div_eq_zero_iff.1 he with h | h
   ·have := Nat.pow_pos (n := j) (show 0 < 128 by decide); omega
   ·exact h
  rw [pow128] at h5
  have h6 : 2 ^ (7 * j) ≤ 2 ^ (Lib.bitLen k - 1) := Nat.pow_le_pow_right (by decide) (by unfold groups at hj; omega)
  omega
theorem groups_le (k : Nat) (h : k ≤ 18446744073709551615) : groups k ≤ 9 := by
 have := Lib.bitLen_le k 64 (by decide) (by omega)
 unfold groups; omega
theorem shr7 (k j : Nat) : (k : Int) / 2 ^ (7 * j) = ((k / 128 ^ j : Nat) : Int) := by
 have : (2 : Int) ^ (7 * j) = ((128 ^ j : Nat) : Int) := by rw [pow128, Int.natCast_pow]; rfl
 rw [this]; omega
theorem or8_all : ∀ x : Fin 256, bits .or .u8 128 (x.val : Int) = 128 + (x.val : Int) % 128 := by decide +kernel
theorem or8_any (x : Nat) : bits .or .u8 128 ((x : Int) % 256) = 128 + ((x % 128 : Nat) : Int) := by
 have := or8_all ⟨x % 256, by omega⟩
 simp only at this
 rw [show (((x % 256 : Nat)) : Int) = (x : Int) % 256 by omega] at this
 rw [this]; omega
theorem bits_and64 (a b : Int) : bits .and .u64 a b = ((BitVec.ofInt 64 a &&& BitVec.ofInt 64 b).toNat : Int) := by
 show IntKind.u64.wrap ((BitVec.ofInt 64 a &&& BitVec.ofInt 64 b).toNat : Int) = _
 rw [IntKind.wrap_u64]
 have := (BitVec.ofInt 64 a &&& BitVec.ofInt 64 b).isLt
 omega
theorem and64_127 (k : Nat) (h : k ≤ 18446744073709551615) : bits .and .u64 (k : Int) 127 = (k : Int) % 128 := by
 rw [bits_and64, BitVec.toNat_and, ofInt_toNat64 (by omega) (by omega), ofInt_toNat64 (by omega) (by omega)]
 have : (127 : Int).toNat = 2 ^ 7 - 1 := by decide
 rw [this, Int.toNat_natCast, Nat.and_two_pow_sub_one_eq_mod]
 simp
set_option maxRecDepth 100000 in
set_option maxHeartbeats 1600000 in
theorem oidApp_any (base : Nat) (v : Value) (l : List Int) (k : Nat) (hk : (k : Int) ≤ 18446744073709551615) (hl : l.length ≤ 100000000) (w : World) (hbs : base ≤ w.heap.size) (hs : Bs w base v l) :
  Calls Tryz.prog 102 #[v, .int .u64 (k : Int)] w fun e w' => ∃ v', e = .returned v' ∧ Bs w' base v' (l ++ gB k) ∧ Below base w w' := by
 have HLN := Lib.hid (Tryz.bits_Len64 (k : Int))
 rw [Int.toNat_natCast] at HLN
 have HG0 := Lib.hid (groups_all k (by omega))
 have HGS := Lib.hid (fun j => groups_some k j (by omega))
 have hgl := groups_le k (by omega)
 have HGB := Lib.hid (show groups k = (Lib.bitLen k - 1) / 7 from rfl)
 have hL9 := Lib.bitLen_le k 64 (by decide) (by omega)
 have HS0 := Lib.hid hs
 generalize groups k = G at *
 generalize Lib.bitLen k = L at *
 have hst : (((L : Int) - 1).tdiv 7) = (G : Int) := by
  have := HGB.out
  by_cases h0 : L = 0
  ·subst h0; simp at this; subst this; decide
  ·rw [Int.tdiv_eq_ediv_of_nonneg (by omega)]; omega
 clear hs
 go_enter Tryz.func102, Tryz.ntmps102
 go_wp2_with fail
 refine (HLN.out _ (by omega) (by omega)).mono ?_
 rintro e w1 ⟨rfl, rfl⟩
 go_wp2
 clear hst HLN hL9 HGB
 go_loopw [0, 5] (fun sv jv wr => ∃ (j : Nat) (m : List Int), jv = .int .i64 (j : Int) ∧ j ≤ G ∧ Hid (m = l ++ hiG (k / 128 ^ (j + 1))) ∧ m.length ≤ 100000000 + (9 - j) ∧ Hid (Bs wr base sv m) ∧ base ≤ wr.heap.size ∧ Hid (Below base w1 wr)) (fun _ jv _ => (intOf jv).toNat)
 case atStart => exact ⟨G, l, rfl, Nat.le_refl _, Lib.hid (by rw [HG0.out, hiG_zero, List.append_nil]), by omega, HS0, hbs, Lib.hid (Below.refl _ _)⟩
 case round =>
  obtain ⟨j, m, rfl, hj, HM, hml, HS, hbr, HB⟩ := hrel
  by_cases h0 : j = 0
  ·subst h0
   have HF : Hid (m ++ [((k % 128 : Nat) : Int)] = l ++ gB k) := Lib.hid (by rw [HM.out, Nat.zero_add, Nat.pow_one, gB, List.append_assoc])
   have e1 := and64_127 k (by omega)
   have HE := Lib.hid (show (k : Int) % 128 = ((k % 128 : Nat) : Int) by omega)
   go_wp2_with (at_builtin; refine wpList_append_bs1 rfl (.tmp 23) (.tmp 27) rfl (l := m) (base := base) rfl (HS.out.below ((Below.refl _ wr).alloc (Nat.le_refl _) _)) (by simp; omega) wr.heap.size 1 _ rfl (by simp; rfl) (by omega) ?_)
   intro v' w' hs1 hgr1
   rw [HE.out, HF.out] at hs1
   have HB1 := Lib.hid ((HS.out.below ((Below.refl _ wr).alloc (Nat.le_refl _) _)).grown (HB.out.alloc hbr _) (by simp; omega) hgr1)
   have HS1 := Lib.hid hs1
   clear hs1 hgr1 HS HB
   go_wp2
   go_returns
   exact ⟨v', rfl, HS1.out, HB1.out⟩
  ·have HE := Lib.hid (shr7 k j)
   have ho := Lib.hid (or8_any (k / 128 ^ j))
   have hj0 : (0 : Int) < (j : Int) := by omega
   obtain ⟨i, rfl⟩ : ∃ i, j = i + 1 := ⟨j - 1, by omega⟩
   have HN := Lib.hid (show m ++ [128 + ((k / 128 ^ (i + 1) % 128 : Nat) : Int)] = l ++ hiG (k / 128 ^ (i + 1)) by
    rw [HM.out, List.append_assoc, hiG_pos (HGS.out (i + 1) (by omega) hj), Nat.div_div_eq_div_mul, ← Nat.pow_succ]; simp)
   clear HM
   go_wp2_with (at_builtin; refine wpList_append_bs1 rfl (.tmp 14) (.tmp 21) rfl (l := m) (base := base) rfl (HS.out.below ((Below.refl _ wr).alloc (Nat.le_refl _) _)) (by simp; omega) wr.heap.size 1 _ rfl (by simp; rfl) (by omega) ?_)
   intro v' w' hs1 hgr1
   rw [HE.out, ho.out, HN.out] at hs1
   have HB1 := Lib.hid ((HS.out.below ((Below.refl _ wr).alloc (Nat.le_refl _) _)).grown (HB.out.alloc hbr _) (by simp; omega) hgr1)
   have hbr1 := Nat.le_trans hbr (Nat.le_trans (by simp) hgr1.size)
   have HML := Lib.hid (show (l ++ hiG (k / 128 ^ (i + 1))).length ≤ 100000000 + (9 - i) by rw [← HN.out, List.length_append]; simp; omega)
   have HS1 := Lib.hid hs1
   clear hs1 hgr1 HS HB
   go_wp2
   go_roundw
   case rel => exact ⟨i, _, by simp, by omega, Lib.hid rfl, HML.out, HS1, hbr1, HB1⟩
   case measure => simp [intOf]
def oTog (l : List Int) : Int := match l with
 |a :: b :: r => if arcsOk (a :: b :: r) = true then 40 * a + b else 0
 |_ => 0
theorem oTog_ok {a b : Int} {r : List Int} (h : arcsOk (a :: b :: r) = true) : oTog (a :: b :: r) = 40 * a + b := if_pos h
theorem oTog_bad {a b : Int} {r : List Int} (h : arcsOk (a :: b :: r) = false) : oTog (a :: b :: r) = 0 := if_neg (by rw [h]; simp)
set_option maxRecDepth 100000 in
set_option maxHeartbeats 1600000 in
theorem oidTog_any (o : Option Addr) (c : Nat) (l : List Int) (hl : l.length ≤ 1000000) (hin : ∀ x ∈ l, inK .u64 x) (w : World) (hc : Came w o (ivs .u64 l)) :
  Calls Tryz.prog 101 #[.slice o l.length c] w fun e w' => e = .returned (.tuple #[.int .u64 (oTog l), .bool (arcsOk l)]) ∧ w' = w := by
 match l, hl, hin, hc with
 |[], hl, hin, hc =>
  go_enter Tryz.func101, Tryz.ntmps101
  go_wp2
  go_returns
  exact ⟨rfl, rfl⟩
 |[a], hl, hin, hc =>
  go_enter Tryz.func101, Tryz.ntmps101
  go_wp2
  go_returns
  exact ⟨rfl, rfl⟩
 |a :: b :: r, hl, hin, hc =>
  have hlen : (a :: b :: r).length = r.length + 2 := by simp
  obtain ⟨ad, rfl, _, hq0, hq⟩ := hc.at (by rw [ivs_length]; omega)
  have q0 : w.cell? ad = some (.int .u64 a) := hq0
  have q1 : w.cell? ⟨ad.block, ad.off + 1, none⟩ = some (.int .u64 b) := by rw [← addr_one]; exact hq 1 (by rw [ivs_length]; omega)
  have ha : 0 ≤ a ∧ a ≤ 18446744073709551615 := hin a (by simp)
  have hb : 0 ≤ b ∧ b ≤ 18446744073709551615 := hin b (by simp)
  obtain ⟨ha0, ha1⟩ := ha
  obtain ⟨hb0, hb1⟩ := hb
  have hnl : ¬ ((r.length : Int) + 2 < 2) := by omega
  rw [hlen]
  clear hc hq hq0 hin hl hlen
  by_cases hok : arcsOk (a :: b :: r) = true
  ·obtain ⟨_, k0, k1, k2⟩ := (arcsOk_iff a b r).1 hok
   have HF1 := Lib.hid (oTog_ok hok).symm
   have HF2 := Lib.hid hok.symm
   have hn2 : ¬ 2 < a := by omega
   have hwa : IntKind.u64.wrap (40 * a) = 40 * a := by rw [IntKind.wrap_u64]; omega
   have hwr : IntKind.u64.wrap (40 * a + b) = 40 * a + b := by rw [IntKind.wrap_u64]; omega
   have hws : IntKind.u64.wrap (18446744073709551615 - 40 * a) = 18446744073709551615 - 40 * a := by rw [IntKind.wrap_u64]; omega
   have hng : ¬ (18446744073709551615 - 40 * a) < b := by omega
   by_cases h : a < 2
   ·have h2 : ¬ 40 ≤ b := by have := k1 h; omega
    clear k1 k2 hok
    go_enter Tryz.func101, Tryz.ntmps101
    go_wp2
    go_returns
    exact ⟨rets2 (congrArg (Value.int .u64) HF1.out) (congrArg Value.bool HF2.out), rfl⟩
   ·clear k1 k2 hok
    go_enter Tryz.func101, Tryz.ntmps101
    go_wp2
    go_returns
    exact ⟨rets2 (congrArg (Value.int .u64) HF1.out) (congrArg Value.bool HF2.out), rfl⟩
  ·have hno : arcsOk (a :: b :: r) = false := by simpa using hok
   have HF1 := Lib.hid (oTog_bad hno).symm
   have HF2 := Lib.hid hno.symm
   have hw : 2 < a ∨ (¬ 2 < a ∧ a < 2 ∧ 40 ≤ b) ∨ (¬ 2 < a ∧ ¬ a < 2 ∧ a = 2 ∧ 18446744073709551535 < b) := by
    rw [arcsOk_iff] at hok; omega
   clear hok hno
   rcases hw with h | ⟨h1, h2, h3⟩ | ⟨h1, h2, rfl, h3⟩
   ·go_enter Tryz.func101, Tryz.ntmps101
    go_wp2
    go_returns
    exact ⟨rets2 (congrArg (Value.int .u64) HF1.out) (congrArg Value.bool HF2.out), rfl⟩
   ·go_enter Tryz.func101, Tryz.ntmps101
    go_wp2
    go_returns
    exact ⟨rets2 (congrArg (Value.int .u64) HF1.out) (congrArg Value.bool HF2.out), rfl⟩
   ·go_enter Tryz.func101, Tryz.ntmps101
    go_wp2
    go_returns
    exact ⟨rets2 (congrArg (Value.int .u64) HF1.out) (congrArg Value.bool HF2.out), rfl⟩
theorem oidApp_int (base : Nat) (v : Value) (l : List Int) (x : Int) (h0 : 0 ≤ x) (h1 : x ≤ 18446744073709551615) (hl : l.length ≤ 100000000) (w : World) (hbs : base ≤ w.heap.size) (hs : Bs w base v l) :
  Calls Tryz.prog 102 #[v, .int .u64 x] w fun e w' => ∃ v', e = .returned v' ∧ Bs w' base v' (l ++ oB x) ∧ Below base w w' := by
 have := oidApp_any base v l x.toNat (by omega) hl w hbs hs
 rw [Int.toNat_of_nonneg h0] at this
 exact this
set_option maxRecDepth 100000 in
set_option maxHeartbeats 1600000 in
theorem oidPut_any (o : Option Addr) (c : Nat) (l : List Int) (hl : l.length ≤ 1000000) (hlc : l.length ≤ c) (hcm : c ≤ maxLen) (hin : ∀ x ∈ l, inK .u64 x) (w : World) (hc : Came w o (ivs .u64 l)) :
  Calls Tryz.prog 74 #[.slice o l.length c] w fun e w' => e = .returned (.tuple #[.string (opS l), .bool (arcsOk l)]) ∧ Below w.heap.size w w' := by
 have hc9 : (c : Int) ≤ 9223372036854775807 := by unfold maxLen at hcm; omega
 have HT := Lib.hid (oidTog_any o c l hl hin w hc)
 by_cases hok : arcsOk l = true
 ·obtain ⟨a, b, r, rfl⟩ := arcsOk_two hok
  obtain ⟨_, k0, k1, k2⟩ := (arcsOk_iff a b r).1 hok
  have hb : 0 ≤ b ∧ b ≤ 18446744073709551615 := hin b (by simp)
  have HF1 := Lib.hid (opS_ok hok)
  have HF2 := Lib.hid hok
  have HL := Lib.hid (oL_eq a b r)
  have hf0 : 0 ≤ 40 * a + b := by omega
  have hf1 : 40 * a + b ≤ 18446744073709551615 := by
   by_cases h : a < 2
   ·have := k1 h; omega
   ·have := k2 (by omega); omega
  rw [hok, oTog_ok hok] at HT
  have HIN : Hid (∀ x ∈ (40 * a + b) :: r, 0 ≤ x ∧ x ≤ 18446744073709551615) := Lib.hid (by
   intro x hx
   rcases List.mem_cons.1 hx with rfl | hx
   ·exact ⟨hf0, hf1⟩
   ·exact hin x (by simp [hx]))
  generalize hf : 40 * a + b = f at *
  obtain ⟨O, HO⟩ : ∃ O : Nat → List Int, Hid (∀ j, O j = (List.take (j + 1) (f :: r)).flatMap oB) := ⟨_, Lib.hid (fun _ => rfl)⟩
  have HF4 : Hid ([] ++ oB f = O 0) := Lib.hid (by rw [HO.out]; simp)
  have HOE : Hid (O r.length = oL (a :: b :: r)) := Lib.hid (by rw [HO.out, HL.out, List.take_of_length_le (by simp)])
  have HOS : Hid (∀ j (h : j < r.length), O j ++ oB r[j] = O (j + 1)) := Lib.hid (by
   intro j h
   rw [HO.out, HO.out, List.take_add_one (i := j + 1), List.getElem?_cons_succ, List.getElem?_eq_getElem h, Option.toList_some, List.flatMap_append]; simp)
  have HOL : Hid (∀ j, j ≤ r.length → (O j).length ≤ 10 * (j + 1)) := Lib.hid (by
   intro j h
   rw [HO.out]
   have := flat_size (List.take (j + 1) (f :: r)) (fun x hx => (HIN.out x (List.mem_of_mem_take hx)).2)
   rw [List.length_take] at this
   omega)
  have HON : Hid (O r.length ≠ []) := Lib.hid (by
   intro h
   have h1 := (oL_right _ hok).1
   rw [← HOE.out, h] at h1
   simp at h1)
  have hlr : r.length ≤ 999998 := by simp at hl; omega
  have hlc2 : r.length + 2 ≤ c := by simpa using hlc
  have HE : Hid ((a :: b :: r).length = r.length + 2) := Lib.hid rfl
  rw [HE.out] at HT
  rw [HE.out]
  obtain ⟨ad, rfl, _, _, hq⟩ := hc.at (by rw [ivs_length]; simp)
  have HC := Lib.hid hc
  have HA := Lib.hid (oidApp_int w.heap.size (.slice none 0 0) [] f hf0 hf1 (by simp))
  clear hq hin hok hl hlc k0 k1 k2 hb HL HO hc
  by_cases h2 : c = 2
  ·subst h2
   obtain rfl : r = [] := List.length_eq_zero_iff.1 (by omega)
   go_enter Tryz.func74, Tryz.ntmps74
   go_wp2_with fail
   refine HT.out.mono ?_
   rintro e w1 ⟨rfl, rfl⟩
   go_wp2_with fail
   refine (HA.out _ (Nat.le_refl _) (Bs.nil _ _)).mono ?_
   rintro e w2 ⟨v2, rfl, hs2, hB2⟩
   rw [HF4.out] at hs2
   have HS2 := Lib.hid hs2
   have HB2 := Lib.hid hB2
   have hsz2 := hB2.size
   clear hs2 hB2 HA HT
   go_wp2
   go_loopw [6, 21] (fun sv iv wr => iv = .int .i64 0 ∧ Hid (Bs wr w1.heap.size sv (O 0)) ∧ Hid (Below w1.heap.size w1 wr)) (fun _ _ _ => 0)
   case atStart => exact ⟨rfl, HS2, HB2⟩
   case round =>
    obtain ⟨rfl, HS, HB⟩ := hrel
    have HF := Lib.hid (HF1.out.trans (congrArg strOfNums HOE.out.symm))
    have hcv := conv_bs HS.out HON.out
    clear HF1 HOE HOS HOL HON
    go_wp2
    go_returns
    exact ⟨rets2 (congrArg Value.string HF.out.symm) (congrArg Value.bool HF2.out.symm), HB.out⟩
  ·have h2i : ¬ (c : Int) = 2 := by omega
   go_enter Tryz.func74, Tryz.ntmps74
   go_wp2_with fail
   refine HT.out.mono ?_
   rintro e w1 ⟨rfl, rfl⟩
   go_wp2_with fail
   refine (HA.out _ (Nat.le_refl _) (Bs.nil _ _)).mono ?_
   rintro e w2 ⟨v2, rfl, hs2, hB2⟩
   rw [HF4.out] at hs2
   have HS2 := Lib.hid hs2
   have HB2 := Lib.hid hB2
   have hsz2 := hB2.size
   clear hs2 hB2 HA HT
   go_wp2
   go_loopw [6, 21] (fun sv iv wr => ∃ (j : Nat), iv = .int .i64 (j : Int) ∧ j ≤ r.length ∧ Hid (Bs wr w1.heap.size sv (O j)) ∧ Hid (Below w1.heap.size w1 wr)) (fun _ iv _ => r.length - (intOf iv).toNat)
   case atStart => exact ⟨0, rfl, by omega, HS2, HB2⟩
   case round =>
    obtain ⟨j, rfl, hj, HS, HB⟩ := hrel
    by_cases hlt : j < r.length
    ·have hji : (j : Int) < (r.length : Int) := by omega
     obtain ⟨ad2, had, _, _, hq2⟩ := (HC.out.below HB.out).at (by rw [ivs_length]; simp)
     cases had
     have q3 : wr.cell? (ad.add (j + 2)) = some (.int .u64 r[j]) := by
      rw [hq2 (j + 2) (by rw [ivs_length]; simp; exact hlt), ivs_get (by simp; exact hlt)]; rfl
     have q4 : wr.cell? ⟨ad.block, ad.off + 2 + j, none⟩ = some (.int .u64 r[j]) := by rw [show ad.off + 2 + j = ad.off + (j + 2) by omega, ← addr_succ ad (j + 2) (by omega)]; exact q3
     have hr := HIN.out r[j] (List.mem_cons_of_mem _ (List.getElem_mem hlt))
     have HOS1 := Lib.hid (HOS.out j hlt)
     have hs1 := HOL.out j hj
     have HN2 := Lib.hid (fun v hs => oidApp_int w1.heap.size v (O j) r[j] hr.1 hr.2 (by omega) wr HB.out.size hs)
     generalize r[j] = x at *
     clear hq2 hr q3
     go_wp2_with fail
     refine (HN2.out _ HS.out).mono ?_
     rintro e w3 ⟨v3, rfl, hs3, hb3⟩
     rw [HOS1.out] at hs3
     have HS3 := Lib.hid hs3
     have HB3 := Lib.hid (HB.out.trans hb3)
     clear hs3 hb3 HS HB
     go_wp2
     go_roundw
     case rel => exact ⟨j + 1, by simp, by omega, HS3, HB3⟩
     case measure => simp [intOf]; omega
    ·obtain rfl : j = r.length := by omega
     have hne : ¬ ((r.length : Int) < (r.length : Int)) := by omega
     have HF := Lib.hid (HF1.out.trans (congrArg strOfNums HOE.out.symm))
     have hcv := conv_bs HS.out HON.out
     clear HF1 HOE HOS HOL HON
     go_wp2
     go_returns
     exact ⟨rets2 (congrArg Value.string HF.out.symm) (congrArg Value.bool HF2.out.symm), HB.out⟩
 ·have hno : arcsOk l = false := by simpa using hok
  have HF1 := Lib.hid (opS_bad hno).symm
  have HF2 := Lib.hid hno.symm
  rw [hno] at HT
  generalize oTog l = z at *
  clear hok hno hin hc
  go_enter Tryz.func74, Tryz.ntmps74
  go_wp2_with fail
  refine HT.out.mono ?_
  rintro e w1 ⟨rfl, rfl⟩
  go_wp2
  go_returns
  exact ⟨rets2 (congrArg Value.string HF1.out) (congrArg Value.bool HF2.out), Below.refl _ _⟩
end Go.Proofs.YtiecbagejdcafaaGreatDoor
