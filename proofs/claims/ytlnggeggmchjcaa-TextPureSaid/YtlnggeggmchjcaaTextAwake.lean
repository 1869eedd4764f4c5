/- The document's fixed answers of layer 14 hold: 'awake' returns true. Over the landed code's contracts. And any push of a State that a content left. -/
import Derived.Test.YtlnggeggmchjcaaTextCode
namespace Go.Proofs.Ytlnggeggmchjcaa
open Go.RowKit Go.PlainAid
set_option linter.unusedVariables false
theorem row5t_far {w : World} {g k : Nat} {t : TypeId} {l : List Value} (h : Row w g t l) (hg : g ≠ k) (a' b' c' d' e' : Value) :
    Row (((((w.setCell ⟨k, 0, none⟩ a').setCell ⟨k, 1, none⟩ b').setCell ⟨k, 2, none⟩ c').setCell ⟨k, 3, none⟩ d').setCell ⟨k, 4, none⟩ e') g t l :=
  ((((h.far (p := ⟨k, 0, none⟩) hg a').far (p := ⟨k, 1, none⟩) hg b').far (p := ⟨k, 2, none⟩) hg c').far (p := ⟨k, 3, none⟩) hg d').far (p := ⟨k, 4, none⟩) hg e'
theorem t5_new_kept {X w5 : World} {p l v y m : Int} (h : Below (X.alloc (.cells #[.int .i64 p, .int .i64 l, .int .i64 v, .int .u8 y, .int .u8 m] 27)).heap.size (X.alloc (.cells #[.int .i64 p, .int .i64 l, .int .i64 v, .int .u8 y, .int .u8 m] 27)) w5) :
    w5.cell? ⟨X.heap.size, 0, none⟩ = some (.int .i64 p) ∧ w5.frozen? ⟨X.heap.size, 0, none⟩ = false ∧ w5.cell? ⟨X.heap.size, 1, none⟩ = some (.int .i64 l) ∧ w5.frozen? ⟨X.heap.size, 1, none⟩ = false ∧ w5.cell? ⟨X.heap.size, 2, none⟩ = some (.int .i64 v) ∧ w5.frozen? ⟨X.heap.size, 2, none⟩ = false ∧ w5.cell? ⟨X.heap.size, 3, none⟩ = some (.int .u8 y) ∧ w5.frozen? ⟨X.heap.size, 3, none⟩ = false ∧ w5.cell? ⟨X.heap.size, 4, none⟩ = some (.int .u8 m) ∧ w5.frozen? ⟨X.heap.size, 4, none⟩ = false :=
  txSt_kept h (Row.new X 27 (tC5 p l v y m)) rfl
theorem t5_new_kept2 {X w5 : World} {p l v y m : Int} (h : Below (X.alloc (.cells #[.int .i64 p, .int .i64 l, .int .i64 v, .int .u8 y, .int .u8 m] 27)).drew.heap.size (X.alloc (.cells #[.int .i64 p, .int .i64 l, .int .i64 v, .int .u8 y, .int .u8 m] 27)).drew w5) :
    w5.cell? ⟨X.heap.size, 0, none⟩ = some (.int .i64 p) ∧ w5.frozen? ⟨X.heap.size, 0, none⟩ = false ∧ w5.cell? ⟨X.heap.size, 1, none⟩ = some (.int .i64 l) ∧ w5.frozen? ⟨X.heap.size, 1, none⟩ = false ∧ w5.cell? ⟨X.heap.size, 2, none⟩ = some (.int .i64 v) ∧ w5.frozen? ⟨X.heap.size, 2, none⟩ = false ∧ w5.cell? ⟨X.heap.size, 3, none⟩ = some (.int .u8 y) ∧ w5.frozen? ⟨X.heap.size, 3, none⟩ = false ∧ w5.cell? ⟨X.heap.size, 4, none⟩ = some (.int .u8 m) ∧ w5.frozen? ⟨X.heap.size, 4, none⟩ = false :=
  txSt_kept h (Row.new X 27 (tC5 p l v y m)) rfl
theorem textCheck_is (tag : Int) (s : ByteArray) (hs : s.size ≤ 900000) {ok : Bool} (h : decide (rightT tag (bl s)) = ok) (w : World) :
    Calls Try.prog 12 #[.int .i64 tag, .string s] w fun e w' => e = .returned (.bool ok) ∧ Below w.heap.size w w' := by
  have := textCheck_any tag s hs w
  rw [h] at this
  exact this
set_option maxRecDepth 100000 in
set_option maxHeartbeats 8000000 in
theorem awake14_any (w : World) :
    Calls Try.prog 8 #[] w fun e w' => e = .returned (.bool true) ∧ Below w.heap.size w w' := by
  have HS1 := Lib.hid (textStart_yes 12 1 (by decide))
  have HS2 := Lib.hid (textStart_yes 12 3 (by decide))
  have HP1 := Lib.hid (textPush_utf8no 1 0 0 0 195 ⟨by decide, by decide, by decide, by decide, by decide, by decide⟩ (by decide) (by decide) (m := 1) (k := 128) (j := 191) (ok := true) rfl (fun _ => by decide))
  have HP2 := Lib.hid (textPush_utf8 3 0 0 0 224 ⟨by decide, by decide, by decide, by decide, by decide, by decide⟩ (by decide) (by decide) (m := 2) (k := 160) (j := 191) rfl (by decide))
  rw [show (3 : Int) - 1 = 2 from rfl] at HP2
  have HP3 := Lib.hid (textPush_utf8no 2 2 160 191 128 ⟨by decide, by decide, by decide, by decide, by decide, by decide⟩ (by decide) (by decide) (m := 0) (k := 0) (j := 0) (ok := false) rfl (fun e => by cases e))
  have HC1 := Lib.hid (textCheck_is 19 ⟨#[97, 32, 98, 63]⟩ (by decide +kernel) (ok := true) (by decide +kernel))
  have HC2 := Lib.hid (textCheck_is 19 ⟨#[97, 64]⟩ (by decide +kernel) (ok := false) (by decide +kernel))
  have HC3 := Lib.hid (textCheck_is 22 ⟨#[97, 64]⟩ (by decide +kernel) (ok := true) (by decide +kernel))
  have HC4 := Lib.hid (textCheck_is 22 ⟨#[128]⟩ (by decide +kernel) (ok := false) (by decide +kernel))
  have HC5 := Lib.hid (textCheck_is 12 ⟨#[226, 130, 172]⟩ (by decide +kernel) (ok := true) (by decide +kernel))
  go_enter Try.func8, Try.ntmps8
  go_wp2_with fail
  refine (HS1.out _).mono ?_
  rintro e w1 ⟨rfl, hB1⟩
  have hB1 := hB1.alloc hB1.size (.cells #[.int .i64 12, .int .i64 1, .int .i64 0, .int .u8 0, .int .u8 0] 27)
  go_wp2_with fail
  refine (HP1.out _).mono ?_
  rintro e w2 ⟨rfl, hb⟩
  have hB2 := hB1.trans (hb.mono hB1.size)
  have hB2 := hB2.alloc hB2.size (.cells #[.int .i64 0, .int .i64 0, .int .i64 0, .int .u8 0, .int .u8 0] 27)
  clear hb hB1
  go_wp2_with fail
  refine (HS2.out _).mono ?_
  rintro e w3 ⟨rfl, hb⟩
  have hB3 := hB2.trans (hb.mono hB2.size)
  have hB3 := hB3.alloc hB3.size (.cells #[.int .i64 12, .int .i64 3, .int .i64 0, .int .u8 0, .int .u8 0] 27)
  clear hb hB2
  go_wp2_with fail
  refine (HP2.out _).mono ?_
  rintro e w4 ⟨rfl, hb⟩
  have hB4 := hB3.trans (hb.mono hB3.size)
  have hB4 := hB4.alloc hB4.size (.cells #[.int .i64 12, .int .i64 2, .int .i64 2, .int .u8 160, .int .u8 191] 27)
  clear hb hB3
  go_wp2_with fail
  refine (HP3.out _).mono ?_
  rintro e w5 ⟨rfl, hb⟩
  have hB5 := hB4.trans (hb.mono hB4.size)
  have hB5 := hB5.alloc hB5.size (.cells #[.int .i64 0, .int .i64 0, .int .i64 0, .int .u8 0, .int .u8 0] 27)
  clear hb hB4
  go_wp2_with fail
  refine (HC1.out _).mono ?_
  rintro e w6 ⟨rfl, hb⟩
  have hB6 := hB5.trans (hb.mono hB5.size)
  clear hb hB5
  go_wp2_with fail
  refine (HC2.out _).mono ?_
  rintro e w7 ⟨rfl, hb⟩
  have hB7 := hB6.trans (hb.mono hB6.size)
  clear hb hB6
  go_wp2_with fail
  refine (HC3.out _).mono ?_
  rintro e w8 ⟨rfl, hb⟩
  have hB8 := hB7.trans (hb.mono hB7.size)
  clear hb hB7
  go_wp2_with fail
  refine (HC4.out _).mono ?_
  rintro e w9 ⟨rfl, hb⟩
  have hB9 := hB8.trans (hb.mono hB8.size)
  clear hb hB8
  go_wp2_with fail
  refine (HC5.out _).mono ?_
  rintro e w10 ⟨rfl, hb⟩
  have hB10 := hB9.trans (hb.mono hB9.size)
  clear hb hB9
  go_wp2
  go_returns
  exact ⟨rfl, hB10⟩
/-- A push of any byte, of a State that a content left: whatever it tells, what was there stays. -/
theorem tPush_some {tag n : Int} {l : List Int} {i : Nat} {p q v y m : Int} (h : TAt tag n l i ⟨p, q, v, y, m⟩ true) (hi : i < l.length) (hn : (l.length : Int) ≤ n) (hn9 : n ≤ 9223372036854775807) (b : Int) (hb : 0 ≤ b ∧ b ≤ 255) :
    ∃ (p' q' v' y' m' : Int) (ok : Bool), ∀ w, Calls Try.prog 11 #[.agg #[.int .i64 p, .int .i64 q, .int .i64 v, .int .u8 y, .int .u8 m], .int .u8 b] w fun e w' => e = .returned (.tuple #[.agg #[.int .i64 p', .int .i64 q', .int .i64 v', .int .u8 y', .int .u8 m'], .bool ok]) ∧ Below w.heap.size w w' := by
  rcases h with ⟨_, h, hs⟩ | ⟨h, _⟩
  · have hlen : (l.take i).length = i := by rw [List.length_take]; omega
    have hOk := tlT_ok tag (l.take i)
    have e1 : p = tag ∧ q = n - (i : Int) ∧ v = (tlT tag (l.take i)).n ∧ y = (tlT tag (l.take i)).lo ∧ m = (tlT tag (l.take i)).hi := by
      unfold tSt at hs
      rw [hlen] at hs
      cases hs
      exact ⟨rfl, rfl, rfl, rfl, rfl⟩
    obtain ⟨rfl, rfl, rfl, rfl, rfl⟩ := e1
    clear hs
    obtain ⟨⟨v, y, m⟩, ht⟩ : ∃ t : TL, tlT p (l.take i) = t := ⟨_, rfl⟩
    rw [ht] at hOk
    rw [ht]
    have hq : 1 ≤ n - (i : Int) ∧ n - (i : Int) ≤ 9223372036854775807 := by omega
    by_cases h12 : p = 12
    · subst h12
      obtain ⟨⟨a, b', c⟩, d, hbe⟩ : ∃ (t : TL) (d : Bool), tBehind ⟨v, y, m⟩ b = (t, d) := ⟨_, _, rfl⟩
      by_cases hc : d = true ∧ a ≤ n - (i : Int) - 1
      · obtain ⟨rfl, hc⟩ := hc
        exact ⟨_, _, _, _, _, _, fun w => textPush_utf8 (n - (i : Int)) v y m b hOk hq hb hbe hc w⟩
      · exact ⟨_, _, _, _, _, _, fun w => textPush_utf8no (n - (i : Int)) v y m b hOk hq hb hbe (fun e hh => hc ⟨e, hh⟩) w⟩
    · by_cases hc : plT p b
      · exact ⟨_, _, _, _, _, _, fun w => textPush_other p (n - (i : Int)) v y m b h12 hq hb hc w⟩
      · exact ⟨_, _, _, _, _, _, fun w => textPush_wrong p (n - (i : Int)) v y m b h12 hq hb hc w⟩
  · cases h
end Go.Proofs.Ytlnggeggmchjcaa
