/- What text's Check gives, and a State along a content: the landed code's contracts. Of every tag and length, and every text of at most 900000 bytes. -/
import Derived.Test.YtlnggeggmchjcaaTextPush
import Derived.Deep.RegionWith
namespace Go.Proofs.Ytlnggeggmchjcaa
open Go.RowKit Go.PlainAid
set_option linter.unusedVariables false
theorem txRow_kept {a W w5 : World} {g : Nat} {t : TypeId} {l : List Value} (hb : Below W.heap.size W w5) (hR : Row a g t l) (hd : W.heap = a.heap) : Row w5 g t l := by
  have h : Row W g t l := by unfold Row; rw [hd]; exact hR
  exact h.below hb h.lt
theorem txBelow_kept {o a W w5 : World} (hb : Below W.heap.size W w5) (hB : Below o.heap.size o a) (hd : W.heap = a.heap) (h1 : W.os = a.os) (h2 : W.tape = a.tape) (h3 : W.output = a.output) : Below o.heap.size o w5 := by
  have h : Below o.heap.size o W := ⟨h1.trans hB.os, h2.trans hB.tape, h3.trans hB.output, by rw [hd]; exact hB.size, by intro k hk; rw [hd]; exact hB.block k hk⟩
  exact h.trans (hb.mono h.size)
theorem txSt_kept {a W w5 : World} {g : Nat} {p l v y m : Int} (hb : Below W.heap.size W w5) (hR : Row a g 27 (tC5 p l v y m)) (hd : W.heap = a.heap) :
    w5.cell? ⟨g, 0, none⟩ = some (.int .i64 p) ∧ w5.frozen? ⟨g, 0, none⟩ = false ∧ w5.cell? ⟨g, 1, none⟩ = some (.int .i64 l) ∧ w5.frozen? ⟨g, 1, none⟩ = false ∧ w5.cell? ⟨g, 2, none⟩ = some (.int .i64 v) ∧ w5.frozen? ⟨g, 2, none⟩ = false ∧ w5.cell? ⟨g, 3, none⟩ = some (.int .u8 y) ∧ w5.frozen? ⟨g, 3, none⟩ = false ∧ w5.cell? ⟨g, 4, none⟩ = some (.int .u8 m) ∧ w5.frozen? ⟨g, 4, none⟩ = false :=
  ⟨(txRow_kept hb hR hd).cell 0, (txRow_kept hb hR hd).frozen 0, (txRow_kept hb hR hd).cell 1, (txRow_kept hb hR hd).frozen 1, (txRow_kept hb hR hd).cell 2, (txRow_kept hb hR hd).frozen 2, (txRow_kept hb hR hd).cell 3, (txRow_kept hb hR hd).frozen 3, (txRow_kept hb hR hd).cell 4, (txRow_kept hb hR hd).frozen 4⟩
theorem txTake_more {α : Type} {l : List α} {i : Nat} (h : i < l.length) : l.take (i + 1) = l.take i ++ [l[i]] := by
  rw [List.take_add_one, List.getElem?_eq_getElem h]; rfl
/-- What a State holds. -/
structure TS where
  p : Int
  l : Int
  v : Int
  y : Int
  m : Int
def TS.no : TS := ⟨0, 0, 0, 0, 0⟩
/-- The State behind these bytes of a content of n. -/
def tSt (tag n : Int) (l : List Int) : TS := ⟨tag, n - l.length, (tlT tag l).n, (tlT tag l).lo, (tlT tag l).hi⟩
def tStep (tag n : Int) (l : List Int) (i : Nat) : TS × Bool := if canT tag n (l.take (i + 1)) then (tSt tag n (l.take (i + 1)), true) else (TS.no, false)
/-- What is so behind i bytes of a text. -/
def TAt (tag n : Int) (l : List Int) (i : Nat) (S : TS) (ok : Bool) : Prop := (ok = true ∧ ¬ (0 ≤ txW tag n l ∧ txW tag n l ≤ i) ∧ S = tSt tag n (l.take i)) ∨ (ok = false ∧ (0 ≤ txW tag n l ∧ txW tag n l ≤ i) ∧ S = TS.no)
theorem tAt_start {tag n : Int} {l : List Int} (hn : 0 ≤ n) : TAt tag n l 0 ⟨tag, n, 0, 0, 0⟩ true := by
  refine .inl ⟨rfl, ?_, ?_⟩
  · intro h
    have := (tx_zero tag n l).1 (by have h1 := h.1; have h2 := h.2; omega)
    omega
  · rw [List.take_zero]
    unfold tSt
    rw [tlT_nil]
    simp
theorem tAt_step {tag n : Int} {l : List Int} {i : Nat} {S : TS} (h : TAt tag n l i S true) (hi : i < l.length) : TAt tag n l (i + 1) (tStep tag n l i).1 (tStep tag n l i).2 := by
  rcases h with ⟨_, h, _⟩ | ⟨h, _⟩
  · have hs := tx_step tag n l i hi h
    unfold tStep
    by_cases hc : canT tag n (l.take (i + 1))
    · rw [if_pos hc]
      refine .inl ⟨rfl, ?_, rfl⟩
      have : txW tag n l ≠ (i : Int) + 1 := fun e => hs.1 e hc
      omega
    · rw [if_neg hc]
      have := hs.2 hc
      exact .inr ⟨rfl, by omega, rfl⟩
  · cases h
/-- Whether a step is the wrong one. -/
theorem tAt_wrong {tag n : Int} {l : List Int} {i : Nat} {S S' : TS} {ok : Bool} (h : TAt tag n l i S true) (h2 : TAt tag n l (i + 1) S' ok) : (txW tag n l = (i : Int) + 1 ↔ ok = false) := by
  rcases h with ⟨_, h, _⟩ | ⟨h, _⟩
  · rcases h2 with ⟨h3, h4, _⟩ | ⟨h3, h4, _⟩
    · rw [h3]; exact ⟨fun e => by omega, fun e => by cases e⟩
    · rw [h3]; exact ⟨fun _ => rfl, fun _ => by omega⟩
  · cases h
theorem tAt_end {tag : Int} {l : List Int} {i : Nat} {S : TS} {ok : Bool} (h : TAt tag l.length l i S ok) (hi : ok = true → i = l.length) : decide (rightT tag l) = ok := by
  have hr := tx_range tag l.length l
  rcases h with ⟨h1, h2, _⟩ | ⟨h1, h2, _⟩
  · rw [h1]
    have := hi h1
    exact decide_eq_true ((tx_right tag l).2 (by omega))
  · rw [h1]
    exact decide_eq_false (fun hh => by have := (tx_right tag l).1 hh; omega)
theorem tAt_true {tag n : Int} {l : List Int} (hw : txW tag n l = -1) {i : Nat} {S : TS} {ok : Bool} (h : TAt tag n l i S ok) : ok = true := by
  rcases h with ⟨h, _⟩ | ⟨_, h, _⟩
  · exact h
  · omega
theorem tAt_false {tag n : Int} {l : List Int} {i : Nat} {S : TS} (h : TAt tag n l i S false) : 0 ≤ txW tag n l ∧ txW tag n l ≤ i := by
  rcases h with ⟨h, _⟩ | ⟨_, h, _⟩
  · cases h
  · exact h
theorem tPush_is {tag n : Int} {l : List Int} {i : Nat} {p q v y m : Int} (h : TAt tag n l i ⟨p, q, v, y, m⟩ true) (hi : i < l.length) (hn : (l.length : Int) ≤ n) (hn9 : n ≤ 9223372036854775807) (hb : 0 ≤ l[i] ∧ l[i] ≤ 255)
    {p' q' v' y' m' : Int} {ok : Bool} (hS : tStep tag n l i = (⟨p', q', v', y', m'⟩, ok)) (w : World) :
    Calls Try.prog 11 #[.agg #[.int .i64 p, .int .i64 q, .int .i64 v, .int .u8 y, .int .u8 m], .int .u8 l[i]] w fun e w' => e = .returned (.tuple #[.agg #[.int .i64 p', .int .i64 q', .int .i64 v', .int .u8 y', .int .u8 m'], .bool ok]) ∧ Below w.heap.size w w' := by
  rcases h with ⟨_, h, hs⟩ | ⟨h, _⟩
  · have hc := tx_can tag n l i (by omega) h
    have hlen : (l.take i).length = i := by rw [List.length_take]; omega
    have hp := x_push (x := l[i]) hc (by rw [hlen]; omega)
    rw [← txTake_more hi, hlen] at hp
    obtain ⟨hp1, hp2⟩ := hp
    have hOk := tlT_ok tag (l.take i)
    have e1 : p = tag ∧ q = n - (i : Int) ∧ v = (tlT tag (l.take i)).n ∧ y = (tlT tag (l.take i)).lo ∧ m = (tlT tag (l.take i)).hi := by
      unfold tSt at hs
      rw [hlen] at hs
      cases hs
      exact ⟨rfl, rfl, rfl, rfl, rfl⟩
    obtain ⟨rfl, rfl, rfl, rfl, rfl⟩ := e1
    clear hs
    obtain ⟨⟨v, y, m⟩, ht⟩ : ∃ t : TL, tlT p (l.take i) = t := ⟨_, rfl⟩
    rw [ht] at hp1 hp2 hOk
    rw [ht]
    unfold tStep at hS
    have hq : 1 ≤ n - (i : Int) ∧ n - (i : Int) ≤ 9223372036854775807 := by omega
    unfold xOk at hp1
    unfold xTail at hp2
    by_cases h12 : p = 12
    · subst h12
      rw [if_pos rfl] at hp1 hp2
      obtain ⟨⟨a, b, c⟩, d, hbe⟩ : ∃ (t : TL) (d : Bool), tBehind ⟨v, y, m⟩ l[i] = (t, d) := ⟨_, _, rfl⟩
      rw [hbe] at hp1 hp2
      have hp1' : (d && decide (a ≤ n - (i : Int) - 1)) = decide (canT 12 n (l.take (i + 1))) := hp1
      by_cases hcn : canT 12 n (l.take (i + 1))
      · rw [decide_eq_true hcn] at hp1'
        have ht2 : (⟨a, b, c⟩ : TL) = tlT 12 (l.take (i + 1)) := hp2 hcn
        rw [if_pos hcn] at hS
        have hlen2 : (l.take (i + 1)).length = i + 1 := by rw [List.length_take]; omega
        unfold tSt at hS
        rw [← ht2, hlen2] at hS
        cases hS
        have hd := Bool.and_eq_true_iff.1 hp1'
        have hbe2 : tBehind ⟨v, y, m⟩ l[i] = (⟨a, b, c⟩, true) := by rw [hbe, hd.1]
        have := textPush_utf8 (n - (i : Int)) v y m l[i] hOk hq hb hbe2 (of_decide_eq_true hd.2) w
        rw [show n - (i : Int) - 1 = n - ((i + 1 : Nat) : Int) by omega] at this
        exact this
      · rw [decide_eq_false hcn] at hp1'
        rw [if_neg hcn] at hS
        cases hS
        exact textPush_utf8no (n - (i : Int)) v y m l[i] hOk hq hb hbe (fun e hh => by rw [e, decide_eq_true hh] at hp1'; cases hp1') w
    · rw [if_neg h12] at hp1 hp2
      by_cases hcn : canT p n (l.take (i + 1))
      · rw [decide_eq_true hcn] at hp1
        have ht2 := hp2 hcn
        rw [if_pos hcn] at hS
        have hlen2 : (l.take (i + 1)).length = i + 1 := by rw [List.length_take]; omega
        unfold tSt at hS
        rw [← ht2, hlen2] at hS
        cases hS
        have := textPush_other p (n - (i : Int)) v y m l[i] h12 hq hb (of_decide_eq_true hp1) w
        rw [show n - (i : Int) - 1 = n - ((i + 1 : Nat) : Int) by omega] at this
        exact this
      · rw [decide_eq_false hcn] at hp1
        rw [if_neg hcn] at hS
        cases hS
        exact textPush_wrong p (n - (i : Int)) v y m l[i] h12 hq hb (of_decide_eq_false hp1) w
  · cases h
set_option maxRecDepth 100000 in
set_option maxHeartbeats 8000000 in
theorem textCheck_any (tag : Int) (s : ByteArray) (hs : s.size ≤ 900000) (w : World) :
    Calls Try.prog 12 #[.int .i64 tag, .string s] w fun e w' => e = .returned (.bool (decide (rightT tag (bl s)))) ∧ Below w.heap.size w w' := by
  have hb9 : (s.size : Int) ≤ 900000 := by omega
  have H1 := Lib.hid (textStart_yes tag (s.size : Int) (by omega))
  have HSZ := Lib.hid (bl_length s)
  have HA0 : Hid (TAt tag s.size (bl s) 0 ⟨tag, s.size, 0, 0, 0⟩ true) := Lib.hid (tAt_start (by omega))
  have HEND : Hid (∀ (i : Nat) (S : TS) (ok : Bool), TAt tag s.size (bl s) i S ok → (ok = true → i = s.size) → decide (rightT tag (bl s)) = ok) := Lib.hid (fun i S ok h hi => by
    rw [← bl_length] at h
    exact tAt_end h (by rw [bl_length]; exact hi))
  have HGB := Lib.hid (get_bt s)
  have HX := Lib.hid (fun (i : Nat) => (⟨bt_nonneg s i, bt_le s i⟩ : 0 ≤ bt s i ∧ bt s i ≤ 255))
  have HBL := Lib.hid (fun (i : Nat) (hi : i < (bl s).length) => bl_get s i hi)
  generalize decide (rightT tag (bl s)) = R at *
  go_enter Try.func12, Try.ntmps12
  go_wp2_with fail
  refine (H1.out _).mono ?_
  rintro e w1 ⟨rfl, hB1⟩
  go_wp2
  go_loopw [6, 7] (fun ov iv wr => ∃ (i : Nat) (ok : Bool) (p q v y m : Int), ov = .bool ok ∧ iv = .int .i64 (i : Int) ∧ i ≤ s.size ∧ Hid (Row wr w1.heap.size 27 (tC5 p q v y m)) ∧ Hid (Below w.heap.size w wr) ∧ Hid (TAt tag s.size (bl s) i ⟨p, q, v, y, m⟩ ok)) (fun _ iv _ => s.size - (intOf iv).toNat)
  case atStart => exact ⟨0, true, tag, s.size, 0, 0, 0, rfl, rfl, by omega, Lib.hid (Row.new w1 27 (tC5 _ _ _ _ _)), Lib.hid (hB1.alloc hB1.size _), HA0⟩
  case round =>
    obtain ⟨i, ok, p, q, v, y, m, rfl, rfl, hi, HRo, HB, HT⟩ := hrel
    by_cases hgo : ok = true ∧ i < s.size
    · obtain ⟨rfl, hlt⟩ := hgo
      have hbt := HGB.out i hlt
      have hll : i < (bl s).length := by rw [HSZ.out]; exact hlt
      have hz2 := HBL.out i hll
      obtain ⟨⟨p', q', v', y', m'⟩, ok', hst⟩ : ∃ (S : TS) (d : Bool), tStep tag s.size (bl s) i = (S, d) := ⟨_, _, rfl⟩
      have HT2 := Lib.hid (tAt_step HT.out hll)
      rw [hst] at HT2
      have HP := Lib.hid (tPush_is HT.out hll (by rw [HSZ.out]; omega) (by omega) (by rw [hz2]; exact HX.out i) hst)
      rw [hz2] at HP
      have hx := HX.out i
      generalize bt s i = z at *
      obtain ⟨hx0, hx1⟩ := hx
      clear hst hz2
      have h0 : wr.cell? ⟨w1.heap.size, 0, none⟩ = some (.int .i64 p) := HRo.out.cell 0
      have h1 : wr.cell? ⟨w1.heap.size, 1, none⟩ = some (.int .i64 q) := HRo.out.cell 1
      have h2 : wr.cell? ⟨w1.heap.size, 2, none⟩ = some (.int .i64 v) := HRo.out.cell 2
      have h3 : wr.cell? ⟨w1.heap.size, 3, none⟩ = some (.int .u8 y) := HRo.out.cell 3
      have h4 : wr.cell? ⟨w1.heap.size, 4, none⟩ = some (.int .u8 m) := HRo.out.cell 4
      have f0 := HRo.out.frozen 0
      have f1 := HRo.out.frozen 1
      have f2 := HRo.out.frozen 2
      have f3 := HRo.out.frozen 3
      have f4 := HRo.out.frozen 4
      have hls := HRo.out.lt
      have hlti : (i : Int) < (s.size : Int) := by omega
      clear HT
      go_wp2
      go_region_with (go_at_call 11; refine (HP.out _).mono ?_; rintro e w5 ⟨rfl, hb5⟩; obtain ⟨hc0, hf0, hc1, hf1, hc2, hf2, hc3, hf3, hc4, hf4⟩ := txSt_kept hb5 HRo.out rfl)
      all_goals
        have HR5 := Lib.hid (row5t (txRow_kept hb5 HRo.out rfl) (.int .i64 p') (.int .i64 q') (.int .i64 v') (.int .u8 y') (.int .u8 m'))
        have HB5 := Lib.hid (below5t (txBelow_kept hb5 HB.out rfl rfl rfl rfl) hB1.size (.int .i64 p') (.int .i64 q') (.int .i64 v') (.int .u8 y') (.int .u8 m'))
        clear hb5 hc0 hf0 hc1 hf1 hc2 hf2 hc3 hf3 hc4 hf4 h0 h1 h2 h3 h4 f0 f1 f2 f3 f4 hls HRo HB HP
        go_wp2
        go_roundw
        case rel => exact ⟨i + 1, ok', p', q', v', y', m', rfl, by simp, by omega, HR5, HB5, HT2⟩
        case measure => simp [intOf]; omega
    · have HF : Hid (ok = R) := Lib.hid (HEND.out i _ ok HT.out (fun e => by
        have : ¬ i < s.size := fun h => hgo ⟨e, h⟩
        omega)).symm
      clear HT HEND
      cases ok
      · clear hgo
        go_wp2
        go_returns
        exact ⟨rets1 (congrArg Value.bool HF.out), HB.out⟩
      · have hne : ¬ (i : Int) < (s.size : Int) := fun h => hgo ⟨rfl, by omega⟩
        clear hgo
        go_wp2
        go_returns
        exact ⟨rets1 (congrArg Value.bool HF.out), HB.out⟩
end Go.Proofs.Ytlnggeggmchjcaa
