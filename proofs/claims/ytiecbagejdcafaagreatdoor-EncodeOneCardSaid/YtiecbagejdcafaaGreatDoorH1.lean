/- What slices.Reverse does to a slice of bytes. Of any slice from a block's head on. -/
import Derived.Test.YtiecbagejdcafaaGreatDoorB0
import Derived.Test.YtiecbagejdcafaaGreatDoorP0
import Derived.Test.YtiecbagejdcafaaGreatDoorE3
import Derived.Test.YtiecbagejdcafaaGreatDoorE2
import Derived.Test.YtiecbagejdcafaaGreatDoorChecked
import Derived.WalkKit
import Derived.WalkSpells
import Derived.BigRegion
import Derived.Deep.LoopGhost
import Derived.Lib.SlicesMore
import Derived.Lib.Hide
import Derived.Laws.BytesArg
import Derived.Handy
import Derived.Deep.RegionWith
import Derived.Test.YtiecbagejdcafaaGreatDoorShelf
namespace Go.Proofs.YtiecbagejdcafaaGreatDoor
open Go.RowKit
set_option linter.unusedVariables false
theorem Sl.frozen {w : World} {t : TypeId} {v : Value} {l : List Value} {g : Nat} (h : Sl w t v l g) (i : Nat) : w.frozen? ⟨g, i, none⟩ = false := by
 obtain ⟨sp, _, _, h⟩ := h; exact h.frozen i
instance : Inhabited Value := ⟨.nilIface⟩
theorem swp_list (d : Array Value) (i j : Nat) (hi : i < d.size) (hj : j < d.size) : (Sort.swp d i j).toList = (d.toList.set i d[j]!).set j d[i]! := by
 simp [Sort.swp]
set_option maxHeartbeats 1600000 in
theorem reverse_any (v : Value) (l : List Value) (g : Nat) (w : World) (h : Sl w 5 v l g) (h1 : ∀ u ∈ l, ∃ x : Int, u = .int .u8 x) :
  Calls Tryz.prog 116 #[v] w fun e w' => e = .returned (.tuple #[]) ∧ Sl w' 5 v l.reverse g ∧ w.grownBy w' (some g) := by
 obtain ⟨cap, hv, hc, hm⟩ := h.open rfl
 have HSl := Lib.hid h
 have hn : l.length ≤ maxLen := by omega
 have HREV := Lib.hid (Lib.reverseLoop_reverse l.toArray)
 have H1 := Lib.hid h1
 have HM := Lib.hid hn
 have hn9 : (l.length : Int) ≤ 9223372036854775807 := by unfold maxLen at hn; omega
 have hsz : l.toArray.size = l.length := by simp
 rw [hsz] at HREV
 obtain ⟨n, hN⟩ : ∃ n, l.length = n := ⟨_, rfl⟩
 rw [hN] at hv HREV hn9
 have HN := Lib.hid hN
 subst hv
 clear h1 hn hc hm h hN hsz
 go_enter Tryz.func116, Tryz.ntmps116
 go_wp2
 go_loopg [2, 3] n (fun k s2 s3 wr => ∃ (i jn : Nat) (jz : Int) (dk : Array Value), s2 = .int .i64 i ∧ s3 = .int .i64 jz ∧ ((i : Int) < jz → jz = jn ∧ jn < n) ∧ (¬ (i : Int) < jz → ¬ i < jn) ∧ jn - i ≤ k ∧
  dk.size = n ∧ (∀ u ∈ dk.toList, ∃ x : Int, u = .int .u8 x) ∧ Sl wr 5 (.slice (some ⟨g, 0, none⟩) n cap) dk.toList g ∧ w.grownBy wr (some g) ∧ Sort.reverseLoop i jn dk = Sort.reverseLoop 0 (n - 1) l.toArray)
 case atStart => exact ⟨0, n - 1, (n : Int) - 1, l.toArray, rfl, rfl, fun h => ⟨by omega, by omega⟩, fun h => by omega, by omega, by simpa using HN.out, by simpa using H1.out, HSl.out, grown_refl _ _, rfl⟩
 case round =>
  obtain ⟨i, jn, jz, dk, rfl, rfl, h1, h2, hk, hds, hall, hsl, hgr, heq⟩ := hrel
  by_cases hlt : (i : Int) < jz
  ·obtain ⟨rfl, hjn⟩ := h1 hlt
   have hij : i < jn := by omega
   obtain ⟨xi, ei⟩ := hall dk[i]! (by rw [getElem!_pos dk i (by omega)]; exact Array.getElem_mem_toList (by omega))
   obtain ⟨xj, ej⟩ := hall dk[jn]! (by rw [getElem!_pos dk jn (by omega)]; exact Array.getElem_mem_toList (by omega))
   have ci := hsl.cell (i := i) (by simp; omega)
   have cj := hsl.cell (i := jn) (by simp; omega)
   have fi := hsl.frozen i
   have fj := hsl.frozen jn
   rw [show dk.toList[i]'(by simp; omega) = .int .u8 xi by rw [← ei, getElem!_pos dk i (by omega)]; simp] at ci
   rw [show dk.toList[jn]'(by simp; omega) = .int .u8 xj by rw [← ej, getElem!_pos dk jn (by omega)]; simp] at cj
   have hsl2 := ((hsl.set (i := i) (by simp; omega) (.int .u8 xj)).set (i := jn) (by simp; omega) (.int .u8 xi))
   have esw := swp_list dk i jn (by omega) (by omega)
   rw [ei, ej] at esw
   rw [← esw] at hsl2
   have hall2 : ∀ u ∈ (Sort.swp dk i jn).toList, ∃ x : Int, u = .int .u8 x := by
    rw [esw]
    intro u hu
    rcases List.mem_or_eq_of_mem_set hu with hu | rfl
    ·rcases List.mem_or_eq_of_mem_set hu with hu | rfl
     ·exact hall u hu
     ·exact ⟨_, rfl⟩
    ·exact ⟨_, rfl⟩
   have HS := Lib.hid hsl2
   have HG := Lib.hid hgr
   have HA := Lib.hid hall2
   have HE := Lib.hid heq
   have HD := Lib.hid hds
   have HEI := Lib.hid ei
   have HEJ := Lib.hid ej
   clear hsl hsl2 hgr h1 h2 hall hall2 heq hds ei ej esw
   go_wp2_with fail
   go_region
   go_wp2
   go_roundg (jn - 1 - (i + 1))
   case measure => omega
   case rel =>
    have heq := HE.out
    rw [Sort.reverseLoop, if_pos hij] at heq
    exact ⟨i + 1, jn - 1, (jn : Int) - 1, Sort.swp dk i jn, by simp, rfl, fun h => ⟨by omega, by omega⟩, fun h => by omega, Nat.le_refl _, by rw [Sort.size_swp]; exact HD.out, HA.out, HS.out.drew, grown_drew (grown_set (grown_set HG.out _ _) _ _), heq⟩
  ·have hnot := Lib.hid (h2 hlt)
   have HS := Lib.hid hsl
   have HG := Lib.hid hgr
   have HE := Lib.hid heq
   clear hsl hgr h1 h2 hall heq hds hk
   go_wp2
   go_end0
   refine ⟨rfl, ?_, HG.out⟩
   have heq := HE.out
   rw [Sort.reverseLoop, if_neg hnot.out, HREV.out] at heq
   have := HS.out
   rw [heq] at this
   simpa using this
end Go.Proofs.YtiecbagejdcafaaGreatDoor
/- What ident's Put gives. -/
namespace Go.Proofs.YtiecbagejdcafaaGreatDoor
open Go.RowKit Go.PlainAid
set_option linter.unusedVariables false
theorem ident_or (n : Nat) : bits .or .u8 128 ((n : Int) % 128) = 128 + (n : Int) % 128 := or8_128 _ (by omega) (by omega)
theorem ident_and (n : Nat) (h : n ≤ 268435455) : bits .and .i64 (n : Int) 127 = (n : Int) % 128 := andi_127 _ (by omega) (by omega)
theorem ident_byte (n : Nat) : (n : Int) % 128 % 256 = (n : Int) % 128 := by omega
theorem loG_short (n : Nat) (h : n ≤ 268435455) : (loG (n / 128)).length ≤ 3 := loG_le _ 3 (by simp; omega)
theorem groups_short {n t : Nat} {l : List Int} (h : n ≤ 268435455) (hl : l ++ loG t = ((n % 128 : Nat) : Int) :: loG (n / 128)) : l.length ≤ 4 := by
 have h1 := congrArg List.length hl
 have h2 := loG_short n h
 rw [List.length_append, List.length_cons] at h1
 omega
theorem u8s_reverse (l : List Int) : (u8s l).reverse = u8s l.reverse := by simp [u8s]
theorem u8s_bytes (l : List Int) : ∀ u ∈ u8s l, ∃ x : Int, u = .int .u8 x := by
 intro u hu
 obtain ⟨x, _, rfl⟩ := List.mem_map.1 hu
 exact ⟨x, rfl⟩
set_option maxHeartbeats 1600000 in
theorem putGroups_any (n : Nat) (h : n ≤ 268435455) (w : World) :
  Calls Tryz.prog 91 #[.int .i64 n] w fun e w' => e = .returned (.string (strOfNums (gB n))) ∧ Below w.heap.size w w' := by
 have HF : Hid ((((n % 128 : Nat) : Int) :: loG (n / 128)).reverse = gB n) := Lib.hid (by rw [gB, hiG, List.reverse_cons])
 have e1 := ident_and n h
 have e2 := ident_byte n
 go_enter Tryz.func91, Tryz.ntmps91
 go_wp2
 go_loopw [0, 3] (fun tv sv wr => ∃ (t g : Nat) (l : List Int), tv = .int .i64 (t : Int) ∧ t ≤ n ∧ Hid (l ++ loG t = ((n % 128 : Nat) : Int) :: loG (n / 128)) ∧ Sl wr 5 sv (u8s l) g ∧ w.heap.size ≤ g ∧ Below w.heap.size w wr) (fun tv _ _ => (intOf tv).toNat)
 case atStart => exact ⟨n / 128, w.heap.size, [((n % 128 : Nat) : Int)], rfl, Nat.div_le_self _ _, Lib.hid rfl, sl_new_bytes w [((n % 128 : Nat) : Int)] (by simp [maxLen]), Nat.le_refl _, by go_grown⟩
 case round =>
  obtain ⟨t, g, l, rfl, ht, HL, hs, hg, hB⟩ := hrel
  clear e1 e2
  have HS := Lib.hid hs
  have HB := Lib.hid hB
  clear hs hB
  have hll := groups_short h HL.out
  by_cases h0 : t = 0
  ·subst h0
   have HR := Lib.hid (fun v' w' (hs' : Sl w' 5 v' (u8s l) g) => reverse_any v' (u8s l) g w' hs' (u8s_bytes l))
   go_wp2_with fail
   refine (HR.out _ _ HS.out).mono ?_
   rintro e w1 ⟨rfl, hs1, hg1⟩
   rw [u8s_reverse, show l = ((n % 128 : Nat) : Int) :: loG (n / 128) by simpa [loG_zero] using HL.out, HF.out] at hs1
   have hcv := conv_bytes hs1
   have hBf := grown_to_below HB.out hg hg1
   go_wp2
   go_returns
   exact ⟨rfl, hBf⟩
  ·have e1 := ident_and t (by omega)
   have e2 := ident_byte t
   have e4 := ident_or t
   have e5 : (0 : Int) < (t : Int) := by omega
   have hlast : (128 : Int) + (t : Int) % 128 = ((128 + t % 128 : Nat) : Int) := by omega
   have HLT := Lib.hid hlast
   clear hlast
   go_wp2_with (at_builtin; refine wpList_append_byte rfl (.tmp 14) (.tmp 19) rfl (l := l) (g := g) rfl (HS.out.alloc _) wr.heap.size 1 (128 + (t : Int) % 128) rfl (by simp) (by omega) ?_)
   intro v' w1 g' hs1 hg1 hgr1
   rw [HLT.out] at hs1
   have HS1 := Lib.hid hs1
   have HG1 := Lib.hid hgr1
   clear hs1 hgr1 e4
   go_wp2
   go_roundw
   case rel =>
    have hsz : w.heap.size ≤ wr.heap.size := HB.out.size
    refine ⟨t / 128, g', l ++ [((128 + t % 128 : Nat) : Int)], by simp, by omega, Lib.hid ?_, HS1.out, ?_, ?_⟩
    ·rw [← HL.out, List.append_assoc, List.singleton_append, ← loG_pos h0]
    ·rcases hg1 with rfl | rfl
     ·exact hg
     ·first | omega | (simp; omega)
    ·exact (HB.out.alloc hsz _).grown HG1.out (by simp; omega) (by intro k hk; cases hk; exact hg)
   case measure => simp [intOf]; omega
theorem first_tag {cls tag : Int} {cons : Bool} (h : tag < 31) : first cls tag cons = 64 * cls + (if cons then 32 else 0) + tag := by unfold first; rw [if_pos h]
theorem first_big {cls tag : Int} {cons : Bool} (h : ¬ tag < 31) : first cls tag cons = 64 * cls + (if cons then 32 else 0) + 31 := by unfold first; rw [if_neg h]
theorem ident_or3 : ∀ (c : Fin 4) (b : Bool) (t : Fin 32), bits .or .u8 (if b then bits .or .u8 ((c.val : Int) * 64) 32 else (c.val : Int) * 64) (t.val : Int) = 64 * (c.val : Int) + (if b then 32 else 0) + (t.val : Int) := by decide +kernel
theorem ident_or1 (cls tag : Int) (h0 : 0 ≤ cls) (h1 : cls ≤ 3) (h2 : 0 ≤ tag) (h3 : tag < 32) : bits .or .u8 (cls * 64) tag = 64 * cls + tag := by
 have := ident_or3 ⟨cls.toNat, by omega⟩ false ⟨tag.toNat, by omega⟩
 simp only [Int.toNat_of_nonneg h0, Int.toNat_of_nonneg h2] at this
 simpa using this
theorem ident_or2 (cls tag : Int) (h0 : 0 ≤ cls) (h1 : cls ≤ 3) (h2 : 0 ≤ tag) (h3 : tag < 32) : bits .or .u8 (bits .or .u8 (cls * 64) 32) tag = 64 * cls + 32 + tag := by
 have := ident_or3 ⟨cls.toNat, by omega⟩ true ⟨tag.toNat, by omega⟩
 simp only [Int.toNat_of_nonneg h0, Int.toNat_of_nonneg h2] at this
 simpa using this
theorem new_cell_kept {X w5 : World} {t : TypeId} {v : Value} (h : Below (X.alloc (.cells #[v] t)).heap.size (X.alloc (.cells #[v] t)) w5) : w5.cell? ⟨X.heap.size, 0, none⟩ = some v :=
 (h.cell (p := ⟨X.heap.size, 0, none⟩) (by simp)).trans (by simp)
theorem new_cell_kept2 {X w5 : World} {t : TypeId} {v : Value} (h : Below (X.alloc (.cells #[v] t)).drew.heap.size (X.alloc (.cells #[v] t)).drew w5) : w5.cell? ⟨X.heap.size, 0, none⟩ = some v :=
 (h.cell (p := ⟨X.heap.size, 0, none⟩) (by simp)).trans (by simp)
set_option maxHeartbeats 1600000 in
theorem identPut_any (cls tag : Int) (cons : Bool) (len : Int) (h : idOk cls tag = true) (w : World) :
  Calls Tryz.prog 65 #[.agg #[.int .i64 cls, .int .i64 tag, .bool cons, .int .i64 len]] w fun e w' => e = .returned (.tuple #[.string (strOfNums (idPut cls tag cons)), .int .i64 0]) ∧ Below w.heap.size w w' := by
 obtain ⟨h0, h1, h2, h3⟩ := idOk_iff.1 h
 clear h
 have n0 : ¬ cls < 0 := by omega
 have n1 : ¬ 3 < cls := by omega
 have n2 : ¬ tag < 0 := by omega
 have n3 : ¬ 268435455 < tag := by omega
 by_cases ht : tag < 31
 ·have HF : Hid (strOfNums [first cls tag cons] = strOfNums (idPut cls tag cons)) := Lib.hid (by rw [idPut, if_pos ht])
  cases cons
  case' false => have eor : bits .or .u8 (cls * 64) tag = first cls tag false := by rw [ident_or1 cls tag h0 h1 h2 (by omega), first_tag ht]; simp
  case' true => have eor : bits .or .u8 (bits .or .u8 (cls * 64) 32) tag = first cls tag true := by rw [ident_or2 cls tag h0 h1 h2 (by omega), first_tag ht]; simp
  all_goals
   generalize hY : first cls tag _ = Y at eor HF
   clear hY
   have hcv := conv_at Y
   go_enter Tryz.func65, Tryz.ntmps65
   go_wp2
   go_returns
   exact ⟨rets2 (congrArg _ HF.out) rfl, by go_grown⟩
 ·have HF : Hid (strOfNums [first cls tag cons] ++ strOfNums (gB tag.toNat) = strOfNums (idPut cls tag cons)) := Lib.hid (by rw [idPut, if_neg ht, ← strOfNums_append]; rfl)
  have HP := Lib.hid (putGroups_any tag.toNat (by omega))
  rw [Int.toNat_of_nonneg h2] at HP
  have hge : 31 ≤ tag := by omega
  have hs2 : (strOfNums (gB tag.toNat)).size ≤ 4 := by rw [strOfNums_size]; exact gB_le tag.toNat (by omega)
  cases cons
  case' false => have eor : bits .or .u8 (cls * 64) 31 = first cls tag false := by rw [ident_or1 cls 31 h0 h1 (by decide) (by decide), first_big ht]; simp
  case' true => have eor : bits .or .u8 (bits .or .u8 (cls * 64) 32) 31 = first cls tag true := by rw [ident_or2 cls 31 h0 h1 (by decide) (by decide), first_big ht]; simp
  all_goals
   generalize hY : first cls tag _ = Y at eor HF
   have hs1 : (strOfNums [Y]).size = 1 := by rw [strOfNums_size]; rfl
   clear hY
   have hcv := conv_at Y
   go_enter Tryz.func65, Tryz.ntmps65
   go_wp2
   go_region_with (go_at_call 91; refine (HP.out _).mono ?_; rintro e w5 ⟨rfl, hb5⟩; first | (have hc5 := new_cell_kept hb5; simp at hc5) | (have hc5 := new_cell_kept2 hb5; simp at hc5) | skip)
   all_goals
    have hbw : Below w.heap.size w w5 := Below.trans (by go_grown) (hb5.mono (by simp <;> omega))
    have hsz := hbw.size
    clear hb5 hcv HP
    go_wp2
    go_returns
    exact ⟨rets2 (congrArg _ HF.out) rfl, by first | exact hbw | exact hbw.alloc hsz _⟩
theorem idOk_not {cls tag : Int} (h : idOk cls tag = false) : cls < 0 ∨ (0 ≤ cls ∧ 3 < cls) ∨ (0 ≤ cls ∧ cls ≤ 3 ∧ tag < 0) ∨ (0 ≤ cls ∧ cls ≤ 3 ∧ 0 ≤ tag ∧ 268435455 < tag) := by
 have hn : ¬ (0 ≤ cls ∧ cls ≤ 3 ∧ 0 ≤ tag ∧ tag ≤ 268435455) := by rw [← idOk_iff, h]; simp
 omega
set_option maxHeartbeats 1600000 in
theorem identPut_bad (cls tag : Int) (cons : Bool) (len : Int) (h : idOk cls tag = false) (w : World) :
  Calls Tryz.prog 65 #[.agg #[.int .i64 cls, .int .i64 tag, .bool cons, .int .i64 len]] w fun e w' => e = .returned (.tuple #[.string ⟨#[]⟩, .int .i64 1]) ∧ Below w.heap.size w w' := by
 have hn := idOk_not h
 clear h
 rcases hn with n0 | ⟨n0, n1⟩ | ⟨n0, n1, n2⟩ | ⟨n0, n1, n2, n3⟩
 all_goals
  go_enter Tryz.func65, Tryz.ntmps65
  go_wp2
  go_returns
  exact ⟨rfl, by go_grown⟩
end Go.Proofs.YtiecbagejdcafaaGreatDoor
/- What the calls of layer 5 give, in one form for all inputs. -/
namespace Go.Proofs.YtiecbagejdcafaaGreatDoor
open Go.RowKit Go.PlainAid
set_option linter.unusedVariables false
theorem identPut_all (cls tag : Int) (cons : Bool) (len : Int) (w : World) :
  Calls Tryz.prog 65 #[.agg #[.int .i64 cls, .int .i64 tag, .bool cons, .int .i64 len]] w fun e w' => e = .returned (.tuple #[.string (putS cls tag cons), .int .i64 (putE cls tag)]) ∧ Below w.heap.size w w' := by
 unfold putS putE
 cases h : idOk cls tag
 ·simpa using identPut_bad cls tag cons len h w
 ·simpa using identPut_any cls tag cons len h w
end Go.Proofs.YtiecbagejdcafaaGreatDoor
/- What length's Put and Get give: the landed code's contracts. Of every number; of every text and place that the form lets come. -/
namespace Go.Proofs.YtiecbagejdcafaaGreatDoor
open Go.RowKit Go.PlainAid
set_option linter.unusedVariables false
theorem bitLen_nB (n : Nat) (h0 : n ≠ 0) (h : n < 18446744073709551616) : (Lib.bitLen n + 7) / 8 = nB n := by
 induction n using Nat.strongRecOn with
 |ind n ih =>
  by_cases hs : n < 256
  ·have h1 := Lib.bitLen_le n 8 (by decide) (by simpa using hs)
   have h2 := Lib.bitLen_half n h0 (by omega)
   have h3 : nB n = 1 := by unfold nB; rw [loB_pos h0, show n / 256 = 0 by omega, loB_zero]; rfl
   omega
  ·have h1 := Lib.bitLen_shift8 n (by omega) h
   have h2 := ih (n / 256) (by omega) (by omega) (by omega)
   have h3 : nB n = nB (n / 256) + 1 := by unfold nB; rw [loB_pos h0]; rfl
   omega
theorem nB_lt (m : Nat) : m < 256 ^ nB m := by
 apply Nat.lt_of_not_le
 intro h
 have := loB_ge m (nB m) h
 unfold nB at this
 omega
theorem nB_some (m i : Nat) (h : i < nB m) : m / 256 ^ i ≠ 0 := by
 intro h0
 have h1 : m < 256 ^ i := by
  rcases Nat.div_eq_zero_iff.1 h0 with h | h
  ·have := Nat.pow_pos (n := i) (show 0 < 256 by decide); omega
  ·exact h
 have := loB_le m i h1
 unfold nB at h
 omega
theorem hiB_shift (m i : Nat) : (hiB (m / 256 ^ i)).length ≤ (hiB m).length := by
 rw [hiB_len, hiB_len]
 exact loB_mono (Nat.div_le_self _ _)
theorem shr8 (m i : Nat) : (m : Int) / 2 ^ (8 * i) % 256 = ((m / 256 ^ i % 256 : Nat) : Int) := by
 have : (2 : Int) ^ (8 * i) = ((256 ^ i : Nat) : Int) := by rw [show (256 : Nat) = 2 ^ 8 by decide, ← Nat.pow_mul, Int.natCast_pow]; rfl
 rw [this]; omega
set_option maxHeartbeats 1600000 in
theorem lenPut_all (n : Int) (hn : -9223372036854775808 ≤ n ∧ n ≤ 9223372036854775807) (w : World) :
  Calls Tryz.prog 66 #[.int .i64 n] w fun e w' => e = .returned (.tuple #[.string (lpS n), .int .i64 (lpE n)]) ∧ Below w.heap.size w w' := by
 obtain ⟨n0, n1⟩ := hn
 by_cases hok : lenOk n = true
 ·obtain ⟨h0, h1⟩ := lenOk_iff.1 hok
  have HE := Lib.hid (lpE_ok.2 hok)
  obtain ⟨m, rfl⟩ := Int.eq_ofNat_of_zero_le h0
  have hl0 : ¬ (m : Int) < 0 := by omega
  have hl1 : ¬ (2305843009213693951 : Int) < m := by omega
  by_cases hs : (m : Int) < 128
  ·have HF : Hid (strOfNums [(m : Int)] = lpS m) := Lib.hid (by rw [lpS_ok hok, lenPut, if_pos hs])
   have hcv := conv_at (m : Int)
   clear hok
   go_enter Tryz.func66, Tryz.ntmps66
   go_wp2
   go_returns
   exact ⟨rets2 (congrArg _ HF.out) (congrArg _ HE.out.symm), by go_grown⟩
  ·have hnb := nB_le (n := m) (by omega)
   have hnb1 := nB_pos (n := m) (by omega)
   have HF : Hid (strOfNums ((128 + (nB m : Int)) :: hiB m) = lpS m) := Lib.hid (by rw [lpS_ok hok, lenPut, if_neg hs, Int.toNat_natCast])
   have HNB := Lib.hid (show (hiB m).length = nB m from hiB_len m)
   have HBL := Lib.hid (bitLen_nB m (by omega) (by omega))
   have HLB := Lib.hid (Lib.bitLen_le m 64 (by decide) (by omega))
   have HLN := Lib.hid (Tryz.bits_Len (m : Int))
   rw [Int.toNat_natCast] at HLN
   generalize Lib.bitLen m = L at *
   have hL1 := HLB.out
   have hL2 : ((L : Int) + 7) / 8 = (nB m : Int) := by have := HBL.out; omega
   have hor : bits .or .u8 128 (nB m : Int) = 128 + (nB m : Int) := or8_128 _ (by omega) (by omega)
   clear hok HBL HLB
   go_enter Tryz.func66, Tryz.ntmps66
   go_wp2_with fail
   refine (HLN.out _ (by omega) (by omega)).mono ?_
   rintro e w1 ⟨rfl, rfl⟩
   go_wp2
   rw [show ((L : Int) + 8 - 1) / 8 = (nB m : Int) by omega]
   clear hL1 hL2 HLN hor
   go_loopw [5, 6] (fun sv jv wr => ∃ (j g c : Nat) (l : List Int), jv = .int .i64 ((j : Int) - 1) ∧ j ≤ nB m ∧ Hid (l = (128 + (nB m : Int)) :: hiB (m / 256 ^ j)) ∧ l.length ≤ 9 ∧ sv = .slice (some ⟨g, 0, none⟩) l.length c ∧ Hid (Sl wr 5 (.slice (some ⟨g, 0, none⟩) l.length c) (u8s l) g) ∧ w1.heap.size ≤ g ∧ Hid (Below w1.heap.size w1 wr)) (fun _ jv _ => (intOf jv + 1).toNat)
   case atStart => exact ⟨nB m, w1.heap.size, 1, [128 + (nB m : Int)], rfl, Nat.le_refl _, Lib.hid (by rw [show m / 256 ^ nB m = 0 from Nat.div_eq_of_lt (nB_lt m), hiB_zero]), by simp, rfl, Lib.hid (sl_new_bytes w1 [128 + (nB m : Int)] (by simp [maxLen])), Nat.le_refl _, Lib.hid (by go_grown)⟩
   case round =>
    obtain ⟨j, g, c, l, rfl, hj, HL, hll, rfl, HS, hg, HB⟩ := hrel
    by_cases h0 : j = 0
    ·subst h0
     have hl : l = (128 + (nB m : Int)) :: hiB m := by have := HL.out; rwa [Nat.pow_zero, Nat.div_one] at this
     have HLF : Hid (strOfNums l = lpS m) := Lib.hid (by rw [hl]; exact HF.out)
     have hcv := conv_bytes HS.out
     clear HL hl HF HS
     go_wp2
     go_returns
     exact ⟨rets2 (congrArg _ HLF.out) (congrArg _ HE.out.symm), HB.out⟩
    ·obtain ⟨i, rfl⟩ : ∃ i, j = i + 1 := ⟨j - 1, by omega⟩
     have E1 := Lib.hid (shr8 m i)
     have HN := Lib.hid (show l ++ [((m / 256 ^ i % 256 : Nat) : Int)] = (128 + (nB m : Int)) :: hiB (m / 256 ^ i) by
      rw [HL.out, List.cons_append, hiB_pos (n := m / 256 ^ i) (nB_some m i (by omega)), Nat.div_div_eq_div_mul, ← Nat.pow_succ])
     have HLN := Lib.hid (show (l ++ [((m / 256 ^ i % 256 : Nat) : Int)]).length ≤ 9 by
      rw [HN.out, List.length_cons]; have := hiB_shift m i; have := HNB.out; omega)
     clear HL
     go_wp2_with (at_builtin; refine wpList_append_byte rfl (.tmp 35) (.tmp 41) rfl (l := l) (g := g) rfl (HS.out.alloc _) wr.heap.size 1 ((m : Int) / 2 ^ (8 * i) % 256) rfl (by simp) (by omega) ?_)
     intro v' w' g' hs1 hg1 hgr1
     rw [E1.out] at hs1
     obtain ⟨c', rfl, _, _⟩ := hs1.open (n := (l ++ [((m / 256 ^ i % 256 : Nat) : Int)]).length) (u8s_length _)
     have hsz := HB.out.size
     have HS1 := Lib.hid hs1
     have HB1 := Lib.hid ((HB.out.alloc hsz _).grown hgr1 (by simp; omega) (by intro k hk; cases hk; exact hg))
     clear hs1 hgr1 HS HB E1
     go_wp2
     go_roundw
     case rel => exact ⟨i, g', c', l ++ [((m / 256 ^ i % 256 : Nat) : Int)], by simp, by omega, HN, HLN.out, by simp, HS1, by rcases hg1 with h | h <;> first | omega | (simp at h; omega), HB1⟩
     case measure => simp [intOf]
 ·have HE : Hid (lpE n = 1) := Lib.hid (by unfold lpE; rw [if_neg hok])
  have HF := Lib.hid (lpS_bad hok)
  have hn : n < 0 ∨ (0 ≤ n ∧ 2305843009213693951 < n) := by rw [lenOk_iff] at hok; omega
  clear hok
  rcases hn with h | ⟨h, h'⟩
  all_goals
   go_enter Tryz.func66, Tryz.ntmps66
   go_wp2
   go_returns
   exact ⟨rets2 (congrArg _ HF.out.symm) (congrArg _ HE.out.symm), Below.refl _ _⟩
end Go.Proofs.YtiecbagejdcafaaGreatDoor
/- What the landed code's Put of heads gives. -/
namespace Go.Proofs.YtiecbagejdcafaaGreatDoor
open Go.RowKit Go.PlainAid
set_option linter.unusedVariables false
set_option maxHeartbeats 1600000 in
theorem headPut_all (c t : Int) (k : Bool) (n : Int) (hn : -9223372036854775808 ≤ n ∧ n ≤ 9223372036854775807) (w : World) :
  Calls Tryz.prog 41 #[.agg #[.int .i64 c, .int .i64 t, .bool k, .int .i64 n]] w fun e w' => e = .returned (.tuple #[.string (hpS c t k n), .int .i64 (hpE c t n)]) ∧ Below w.heap.size w w' := by
 have HX0 := Lib.hid (Row.new w 36 (hdC c t k n))
 have hB0 : Below w.heap.size w (w.alloc (.cells (hdC c t k n).toArray 36)) := (Below.refl _ _).alloc (Nat.le_refl _) _
 have H0 := Lib.hid (identPut_all c t k n)
 have H1 := Lib.hid (lenPut_all n hn)
 have hl0 := putS_le c t k
 have hl1 := lpS_le n
 by_cases h1 : idOk c t = true
 ·rw [putE_ok.2 h1] at H0
  by_cases h2 : lenOk n = true
  ·rw [lpE_ok.2 h2] at H1
   have HF := Lib.hid (hpS_join (k := k) h1 h2)
   have HE := Lib.hid (hpE_ok.2 (hdOk_iff.2 ⟨h1, h2⟩))
   generalize putS c t k = a at *
   generalize lpS n = b at *
   clear h1 h2 hn
   go_enter Tryz.func41, Tryz.ntmps41
   go_wp2_with fail
   refine (H0.out _).mono ?_
   rintro e w1 ⟨rfl, hb⟩
   have hB1 := hB0.trans (hb.mono hB0.size)
   have HX1 := Lib.hid (HX0.out.below hb HX0.out.lt)
   obtain ⟨k0, k1, k2, k3, _, _, _, _⟩ := head_facts HX1.out
   clear hb hB0 HX0
   go_wp2_with fail
   refine (H1.out _).mono ?_
   rintro e w2 ⟨rfl, hb⟩
   have hB2 := hB1.trans (hb.mono hB1.size)
   clear hb hB1 HX1 k0 k1 k2 k3
   go_wp2
   go_returns
   exact ⟨rets2 (congrArg _ HF.out) (congrArg _ HE.out.symm), hB2⟩
  ·rw [lpE_bad h2] at H1
   have hno : ¬ hdOk c t n = true := by rw [hdOk_iff]; exact fun h => h2 h.2
   have HF := Lib.hid (hpS_bad (k := k) hno)
   have HE := Lib.hid (hpE_bad hno)
   generalize putS c t k = a at *
   generalize lpS n = b at *
   clear h1 h2 hn hno
   go_enter Tryz.func41, Tryz.ntmps41
   go_wp2_with fail
   refine (H0.out _).mono ?_
   rintro e w1 ⟨rfl, hb⟩
   have hB1 := hB0.trans (hb.mono hB0.size)
   have HX1 := Lib.hid (HX0.out.below hb HX0.out.lt)
   obtain ⟨k0, k1, k2, k3, _, _, _, _⟩ := head_facts HX1.out
   clear hb hB0 HX0
   go_wp2_with fail
   refine (H1.out _).mono ?_
   rintro e w2 ⟨rfl, hb⟩
   have hB2 := hB1.trans (hb.mono hB1.size)
   clear hb hB1 HX1 k0 k1 k2 k3
   go_wp2
   go_returns
   exact ⟨rets2 (congrArg _ HF.out.symm) (congrArg _ HE.out.symm), hB2⟩
 ·rw [putE_bad h1] at H0
  have hno : ¬ hdOk c t n = true := by rw [hdOk_iff]; exact fun h => h1 h.1
  have HF := Lib.hid (hpS_bad (k := k) hno)
  have HE := Lib.hid (hpE_bad hno)
  generalize putS c t k = a at *
  clear h1 hn hno
  go_enter Tryz.func41, Tryz.ntmps41
  go_wp2_with fail
  refine (H0.out _).mono ?_
  rintro e w1 ⟨rfl, hb⟩
  have hB1 := hB0.trans (hb.mono hB0.size)
  clear hb hB0 HX0
  go_wp2
  go_returns
  exact ⟨rets2 (congrArg _ HF.out.symm) (congrArg _ HE.out.symm), hB1⟩
end Go.Proofs.YtiecbagejdcafaaGreatDoor
