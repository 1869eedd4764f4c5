/- What ident's Put gives. -/
import Derived.Test.YtkokjeakpecndaaByteSl
import Derived.Test.YtkokjeakpecndaaRev
import Derived.Test.YtkokjeakpecndaaIdent
import Derived.Laws.BytesArg
import Derived.Handy
import Derived.Deep.RegionWith
namespace Go.Proofs.Ytkokjeakpecndaa
open Go.RowKit Go.PlainAid
set_option linter.unusedVariables false
theorem ident_or (n : Nat) : bits .or .u8 128 ((n : Int) % 128) = 128 + (n : Int) % 128 := or8_128 _ (by omega) (by omega)
theorem ident_and (n : Nat) (h : n ≤ 268435455) : bits .and .i64 (n : Int) 127 = (n : Int) % 128 := andi_127 _ (by omega) (by omega)
theorem ident_byte (n : Nat) : (n : Int) % 128 % 256 = (n : Int) % 128 := by omega
theorem loG_short (n : Nat) (h : n ≤ 268435455) : (loG (n / 128)).length ≤ 3 := loG_le _ 3 (by simp; omega)
theorem groups_short {n t : Nat} {l : List Int} (h : n ≤ 268435455) (hl : l ++ loG t = ((n % 128 : Nat) : Int) :: loG (n / 128)) : l.length ≤ 4 := by
  have h1 := congrArg List.length hl
  have h2 := loG_short n h
  rw [List.length_append, List.length_cons] at h1
  omega
theorem u8s_reverse (l : List Int) : (u8s l).reverse = u8s l.reverse := by simp [u8s]
theorem u8s_bytes (l : List Int) : ∀ u ∈ u8s l, ∃ x : Int, u = .int .u8 x := by
  intro u hu
  obtain ⟨x, _, rfl⟩ := List.mem_map.1 hu
  exact ⟨x, rfl⟩
set_option maxHeartbeats 1600000 in
theorem putGroups_any (n : Nat) (h : n ≤ 268435455) (w : World) :
    Calls Try.prog 24 #[.int .i64 n] w fun e w' => e = .returned (.string (strOfNums (gB n))) ∧ Below w.heap.size w w' := by
  have HF : Hid ((((n % 128 : Nat) : Int) :: loG (n / 128)).reverse = gB n) := Lib.hid (by rw [gB, hiG, List.reverse_cons])
  have e1 := ident_and n h
  have e2 := ident_byte n
  go_enter Try.func24, Try.ntmps24
  go_wp2
  go_loopw [0, 3] (fun tv sv wr => ∃ (t g : Nat) (l : List Int), tv = .int .i64 (t : Int) ∧ t ≤ n ∧ Hid (l ++ loG t = ((n % 128 : Nat) : Int) :: loG (n / 128)) ∧ Sl wr 5 sv (u8s l) g ∧ w.heap.size ≤ g ∧ Below w.heap.size w wr) (fun tv _ _ => (intOf tv).toNat)
  case atStart => exact ⟨n / 128, w.heap.size, [((n % 128 : Nat) : Int)], rfl, Nat.div_le_self _ _, Lib.hid rfl, sl_new_bytes w [((n % 128 : Nat) : Int)] (by simp [maxLen]), Nat.le_refl _, by go_grown⟩
  case round =>
    obtain ⟨t, g, l, rfl, ht, HL, hs, hg, hB⟩ := hrel
    clear e1 e2
    have HS := Lib.hid hs
    have HB := Lib.hid hB
    clear hs hB
    have hll := groups_short h HL.out
    by_cases h0 : t = 0
    · subst h0
      have HR := Lib.hid (fun v' w' (hs' : Sl w' 5 v' (u8s l) g) => reverse_any v' (u8s l) g w' hs' (u8s_bytes l))
      go_wp2_with fail
      refine (HR.out _ _ HS.out).mono ?_
      rintro e w1 ⟨rfl, hs1, hg1⟩
      rw [u8s_reverse, show l = ((n % 128 : Nat) : Int) :: loG (n / 128) by simpa [loG_zero] using HL.out, HF.out] at hs1
      have hcv := conv_bytes hs1
      have hBf := grown_to_below HB.out hg hg1
      go_wp2
      go_returns
      exact ⟨rfl, hBf⟩
    · have e1 := ident_and t (by omega)
      have e2 := ident_byte t
      have e4 := ident_or t
      have e5 : (0 : Int) < (t : Int) := by omega
      have hlast : (128 : Int) + (t : Int) % 128 = ((128 + t % 128 : Nat) : Int) := by omega
      have HLT := Lib.hid hlast
      clear hlast
      go_wp2_with (at_builtin; refine wpList_append_byte rfl (.tmp 14) (.tmp 19) rfl (l := l) (g := g) rfl (HS.out.alloc _) wr.heap.size 1 (128 + (t : Int) % 128) rfl (by simp) (by omega) ?_)
      intro v' w1 g' hs1 hg1 hgr1
      rw [HLT.out] at hs1
      have HS1 := Lib.hid hs1
      have HG1 := Lib.hid hgr1
      clear hs1 hgr1 e4
      go_wp2
      go_roundw
      case rel =>
        have hsz : w.heap.size ≤ wr.heap.size := HB.out.size
        refine ⟨t / 128, g', l ++ [((128 + t % 128 : Nat) : Int)], by simp, by omega, Lib.hid ?_, HS1.out, ?_, ?_⟩
        · rw [← HL.out, List.append_assoc, List.singleton_append, ← loG_pos h0]
        · rcases hg1 with rfl | rfl
          · exact hg
          · first | omega | (simp; omega)
        · exact (HB.out.alloc hsz _).grown HG1.out (by simp; omega) (by intro k hk; cases hk; exact hg)
      case measure => simp [intOf]; omega
theorem first_tag {cls tag : Int} {cons : Bool} (h : tag < 31) : first cls tag cons = 64 * cls + (if cons then 32 else 0) + tag := by unfold first; rw [if_pos h]
theorem first_big {cls tag : Int} {cons : Bool} (h : ¬ tag < 31) : first cls tag cons = 64 * cls + (if cons then 32 else 0) + 31 := by unfold first; rw [if_neg h]
theorem ident_or3 : ∀ (c : Fin 4) (b : Bool) (t : Fin 32), bits .or .u8 (if b then bits .or .u8 ((c.val : Int) * 64) 32 else (c.val : Int) * 64) (t.val : Int) = 64 * (c.val : Int) + (if b then 32 else 0) + (t.val : Int) := by decide +kernel
theorem ident_or1 (cls tag : Int) (h0 : 0 ≤ cls) (h1 : cls ≤ 3) (h2 : 0 ≤ tag) (h3 : tag < 32) : bits .or .u8 (cls * 64) tag = 64 * cls + tag := by
  have := ident_or3 ⟨cls.toNat, by omega⟩ false ⟨tag.toNat, by omega⟩
  simp only [Int.toNat_of_nonneg h0, Int.toNat_of_nonneg h2] at this
  simpa using this
theorem ident_or2 (cls tag : Int) (h0 : 0 ≤ cls) (h1 : cls ≤ 3) (h2 : 0 ≤ tag) (h3 : tag < 32) : bits .or .u8 (bits .or .u8 (cls * 64) 32) tag = 64 * cls + 32 + tag := by
  have := ident_or3 ⟨cls.toNat, by omega⟩ true ⟨tag.toNat, by omega⟩
  simp only [Int.toNat_of_nonneg h0, Int.toNat_of_nonneg h2] at this
  simpa using this
theorem new_cell_kept {X w5 : World} {t : TypeId} {v : Value} (h : Below (X.alloc (.cells #[v] t)).heap.size (X.alloc (.cells #[v] t)) w5) : w5.cell? ⟨X.heap.size, 0, none⟩ = some v :=
  (h.cell (p := ⟨X.heap.size, 0, none⟩) (by simp)).trans (by simp)
theorem new_cell_kept2 {X w5 : World} {t : TypeId} {v : Value} (h : Below (X.alloc (.cells #[v] t)).drew.heap.size (X.alloc (.cells #[v] t)).drew w5) : w5.cell? ⟨X.heap.size, 0, none⟩ = some v :=
  (h.cell (p := ⟨X.heap.size, 0, none⟩) (by simp)).trans (by simp)
set_option maxHeartbeats 1600000 in
theorem identPut_any (cls tag : Int) (cons : Bool) (len : Int) (h : idOk cls tag = true) (w : World) :
    Calls Try.prog 16 #[.agg #[.int .i64 cls, .int .i64 tag, .bool cons, .int .i64 len]] w fun e w' => e = .returned (.tuple #[.string (strOfNums (idPut cls tag cons)), .int .i64 0]) ∧ Below w.heap.size w w' := by
  obtain ⟨h0, h1, h2, h3⟩ := idOk_iff.1 h
  clear h
  have n0 : ¬ cls < 0 := by omega
  have n1 : ¬ 3 < cls := by omega
  have n2 : ¬ tag < 0 := by omega
  have n3 : ¬ 268435455 < tag := by omega
  by_cases ht : tag < 31
  · have HF : Hid (strOfNums [first cls tag cons] = strOfNums (idPut cls tag cons)) := Lib.hid (by rw [idPut, if_pos ht])
    cases cons
    case' false => have eor : bits .or .u8 (cls * 64) tag = first cls tag false := by rw [ident_or1 cls tag h0 h1 h2 (by omega), first_tag ht]; simp
    case' true => have eor : bits .or .u8 (bits .or .u8 (cls * 64) 32) tag = first cls tag true := by rw [ident_or2 cls tag h0 h1 h2 (by omega), first_tag ht]; simp
    all_goals
      generalize hY : first cls tag _ = Y at eor HF
      clear hY
      have hcv := conv_at Y
      go_enter Try.func16, Try.ntmps16
      go_wp2
      go_returns
      exact ⟨rets2 (congrArg _ HF.out) rfl, by go_grown⟩
  · have HF : Hid (strOfNums [first cls tag cons] ++ strOfNums (gB tag.toNat) = strOfNums (idPut cls tag cons)) := Lib.hid (by rw [idPut, if_neg ht, ← strOfNums_append]; rfl)
    have HP := Lib.hid (putGroups_any tag.toNat (by omega))
    rw [Int.toNat_of_nonneg h2] at HP
    have hge : 31 ≤ tag := by omega
    have hs2 : (strOfNums (gB tag.toNat)).size ≤ 4 := by rw [strOfNums_size]; exact gB_le tag.toNat (by omega)
    cases cons
    case' false => have eor : bits .or .u8 (cls * 64) 31 = first cls tag false := by rw [ident_or1 cls 31 h0 h1 (by decide) (by decide), first_big ht]; simp
    case' true => have eor : bits .or .u8 (bits .or .u8 (cls * 64) 32) 31 = first cls tag true := by rw [ident_or2 cls 31 h0 h1 (by decide) (by decide), first_big ht]; simp
    all_goals
      generalize hY : first cls tag _ = Y at eor HF
      have hs1 : (strOfNums [Y]).size = 1 := by rw [strOfNums_size]; rfl
      clear hY
      have hcv := conv_at Y
      go_enter Try.func16, Try.ntmps16
      go_wp2
      go_region_with (go_at_call 24; refine (HP.out _).mono ?_; rintro e w5 ⟨rfl, hb5⟩; first | (have hc5 := new_cell_kept hb5; simp at hc5) | (have hc5 := new_cell_kept2 hb5; simp at hc5) | skip)
      all_goals
        have hbw : Below w.heap.size w w5 := Below.trans (by go_grown) (hb5.mono (by simp <;> omega))
        have hsz := hbw.size
        clear hb5 hcv HP
        go_wp2
        go_returns
        exact ⟨rets2 (congrArg _ HF.out) rfl, by first | exact hbw | exact hbw.alloc hsz _⟩
theorem idOk_not {cls tag : Int} (h : idOk cls tag = false) : cls < 0 ∨ (0 ≤ cls ∧ 3 < cls) ∨ (0 ≤ cls ∧ cls ≤ 3 ∧ tag < 0) ∨ (0 ≤ cls ∧ cls ≤ 3 ∧ 0 ≤ tag ∧ 268435455 < tag) := by
  have hn : ¬ (0 ≤ cls ∧ cls ≤ 3 ∧ 0 ≤ tag ∧ tag ≤ 268435455) := by rw [← idOk_iff, h]; simp
  omega
set_option maxHeartbeats 1600000 in
theorem identPut_bad (cls tag : Int) (cons : Bool) (len : Int) (h : idOk cls tag = false) (w : World) :
    Calls Try.prog 16 #[.agg #[.int .i64 cls, .int .i64 tag, .bool cons, .int .i64 len]] w fun e w' => e = .returned (.tuple #[.string ⟨#[]⟩, .int .i64 1]) ∧ Below w.heap.size w w' := by
  have hn := idOk_not h
  clear h
  rcases hn with n0 | ⟨n0, n1⟩ | ⟨n0, n1, n2⟩ | ⟨n0, n1, n2, n3⟩
  all_goals
    go_enter Try.func16, Try.ntmps16
    go_wp2
    go_returns
    exact ⟨rfl, by go_grown⟩
end Go.Proofs.Ytkokjeakpecndaa
