/- What the code's Sum of a digest that goes on gives: the digest of all that came. -/
import Derived.Test.YtfkfkoebplpooaaShaWrite
namespace Go.Proofs.Ytfkfkoebplpooaa
open Go.RowKit Go.PlainAid
set_option linter.unusedVariables false
theorem index8 (w : World) (l : List Int) (i : Nat) (hl : l.length = 8) (hi : i < 8) :
    (Instr.index 54 (.agg (uv l).toArray) (.int .i64 i)).run Try.prog w = .ok (.int .u32 (l.getD i 0)) w := by
  have h0 : (0 : Int) ≤ (i : Int) ∧ (i : Int) < 8 := by omega
  have hc := uv_at (l := l) (p := i) (by omega)
  simp [Instr.index, run_underlying Try.underlying54, asIntOf, h0, part, go_sem, Try.sizeOf52, Try.isAgg52]
  rw [if_pos hi, hc]
  simp
theorem sgrown_to_below {a w w' : World} {g : Nat} (h : Below a.heap.size a w) (hg : a.heap.size ≤ g) (hb : w.grownBy w' (some g)) : Below a.heap.size a w' :=
  h.grown hb h.size (by intro k hk; cases hk; exact hg)
set_option maxRecDepth 100000 in
set_option maxHeartbeats 1000000 in
theorem sum_any (HAB : ABSpec) (g : Nat) (all : ByteArray) (w : World) (h : HashAt w g all) (hs : all.size ≤ 900000) :
    Calls Try.prog 19 #[.pointer (some ⟨g, 0, none⟩)] w fun e w' => e = .returned (.string (shaB all)) ∧ Below w.heap.size w w' := by
  have HC := Lib.hid (copy_any g all w h)
  have HH := Lib.hid h
  have hgl := h.lt
  clear h
  go_enter Try.func19, Try.ntmps19
  go_wp2_with fail
  refine HC.out.mono ?_
  rintro e w1 ⟨rfl, hc1, hB1⟩
  have HC1 := Lib.hid hc1
  have hc72 : w1.cell? ⟨g, 72, none⟩ = some (.int .u64 (all.size : Int)) := (HashAt.below HH.out hB1 hgl).count
  clear hc1 HC
  go_wp2_with fail
  refine (padding_any all.size (by omega) w1).mono ?_
  rintro e w2 ⟨rfl, hB2⟩
  have hts := tailB_size all.size
  have hpz := pad_bd all.size
  have hsz1 := hB1.size
  have HC2 := Lib.hid (HC1.out.below hB2 HC1.out.lt)
  have hBB := hB1.trans (hB2.mono hsz1)
  clear hc72 HC1 hB1 hB2
  go_wp2_with fail
  refine (write_any HAB w.heap.size all (tailB all.size) w2 HC2.out (by omega)).mono ?_
  rintro e w3 ⟨rfl, hc3, hg3⟩
  have hB3 := sgrown_to_below hBB (Nat.le_refl _) hg3
  have HPD : Hid (all ++ tailB all.size = padB all) := Lib.hid rfl
  rw [HPD.out] at hc3
  have HSH : Hid (shaB all = digB (stAt (padB all) ((padB all).size / 64))) := Lib.hid rfl
  have hok := stAt_ok (padB all) ((padB all).size / 64)
  obtain ⟨R, hR, hr, hrow⟩ := hc3
  generalize stAt (padB all) ((padB all).size / 64) = t at *
  generalize hpsz : (padB all).size = psz at *
  clear hr hpsz
  obtain ⟨k0, k1, k2, k3, k4, k5, k6, k7, f0, f1, f2, f3, f4, f5, f6, f7⟩ := rowS hrow
  have HOK := Lib.hid hok
  clear hrow hR hok f0 f1 f2 f3 f4 f5 f6 f7 HC2 hg3 hBB HPD
  have HLIT : Hid ((#[.int .u32 t.a, .int .u32 t.b, .int .u32 t.c, .int .u32 t.d, .int .u32 t.e, .int .u32 t.f, .int .u32 t.g, .int .u32 t.h] : Array Value) = (uv t.l).toArray) := Lib.hid rfl
  go_wp2_with fail
  rw [HLIT.out]
  have hl8 : t.l.length = 8 := rfl
  have HL8 := Lib.hid hl8
  have HD0 : Hid (dgP t 8 = shaB all) := Lib.hid (by rw [dgP_done, HSH.out])
  have HWD := Lib.hid (fun i (hi : i < 8) => okL HOK.out hi)
  have HDN : Hid (∀ i, dgP t (i + 1) = dgP t i ++ putB (t.l.getD i 0).toNat 4) := Lib.hid (fun i => rfl)
  clear hl8 k0 k1 k2 k3 k4 k5 k6 k7 HLIT HSH
  generalize t.l = l at *
  go_loopg [4, 20] 8 (fun gn ov iv wr => ∃ i : Nat, i ≤ 8 ∧ gn = 8 - i ∧ iv = .int .i64 i ∧ ov = .string (dgP t i) ∧ Below w.heap.size w wr)
  case atStart => exact ⟨0, by omega, by omega, rfl, rfl, hB3⟩
  case round =>
    clear hB3
    obtain ⟨i, hi, rfl, rfl, rfl, hBe⟩ := hrel
    have hds := dgP_size t i
    by_cases hlt : i < 8
    · have hix := index8 wr l i HL8.out hlt
      obtain ⟨x0, x1⟩ := HWD.out i hlt
      have HDS : Hid (dgP t (i + 1) = dgP t i ++ putB (l.getD i 0).toNat 4) := Lib.hid (HDN.out i)
      generalize l.getD i 0 = x at *
      generalize dgP t i = d at *
      go_wp2_with fail
      refine (put32_any x x0 x1 _).mono ?_
      rintro e w5 ⟨rfl, hB5⟩
      have hps4 : (putB x.toNat 4).size = 4 := putB_size _ _
      have hBB := hBe.trans (hB5.mono hBe.size)
      clear hBe hB5 hix
      generalize putB x.toNat 4 = q at *
      go_wp2
      go_roundg (8 - (i + 1))
      case measure => omega
      case rel => exact ⟨i + 1, by omega, rfl, by go_num, by rw [HDS.out], hBB⟩
    · have hi8 : i = 8 := by omega
      subst hi8
      generalize dgP t 8 = d at *
      go_wp2
      go_ret
      exact ⟨ret_string HD0.out, hBe⟩
end Go.Proofs.Ytfkfkoebplpooaa
