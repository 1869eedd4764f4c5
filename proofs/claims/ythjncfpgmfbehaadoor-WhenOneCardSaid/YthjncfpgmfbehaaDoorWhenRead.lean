/- What when's read gives: the landed code's contract. Of every tag and text of at most a million bytes. -/
import Derived.Test.YthjncfpgmfbehaaDoorWhenPush
import Derived.Test.YthjncfpgmfbehaaDoorWhenPut
import Derived.Deep.RegionWith
namespace Go.Proofs.YthjncfpgmfbehaaDoor
open Go.RowKit Go.PlainAid
set_option linter.unusedVariables false
theorem row_kept {a W w5 : World} {g : Nat} {t : TypeId} {l : List Value} (hb : Below W.heap.size W w5) (hR : Row a g t l) (hd : W.heap = a.heap) : Row w5 g t l := by
  have h : Row W g t l := by unfold Row; rw [hd]; exact hR
  exact h.below hb h.lt
theorem below_kept {o a W w5 : World} (hb : Below W.heap.size W w5) (hB : Below o.heap.size o a) (hd : W.heap = a.heap) (h1 : W.os = a.os) (h2 : W.tape = a.tape) (h3 : W.output = a.output) : Below o.heap.size o w5 := by
  have h : Below o.heap.size o W := ⟨h1.trans hB.os, h2.trans hB.tape, h3.trans hB.output, by rw [hd]; exact hB.size, by intro k hk; rw [hd]; exact hB.block k hk⟩
  exact h.trans (hb.mono h.size)
theorem wst_kept {a W w5 : World} {g : Nat} {p l v y m : Int} (hb : Below W.heap.size W w5) (hR : Row a g 26 (wC5 p l v y m)) (hd : W.heap = a.heap) :
    w5.cell? ⟨g, 0, none⟩ = some (.int .u8 p) ∧ w5.frozen? ⟨g, 0, none⟩ = false ∧ w5.cell? ⟨g, 1, none⟩ = some (.int .i64 l) ∧ w5.frozen? ⟨g, 1, none⟩ = false ∧ w5.cell? ⟨g, 2, none⟩ = some (.int .i64 v) ∧ w5.frozen? ⟨g, 2, none⟩ = false ∧ w5.cell? ⟨g, 3, none⟩ = some (.int .i64 y) ∧ w5.frozen? ⟨g, 3, none⟩ = false ∧ w5.cell? ⟨g, 4, none⟩ = some (.int .i64 m) ∧ w5.frozen? ⟨g, 4, none⟩ = false :=
  ⟨(row_kept hb hR hd).cell 0, (row_kept hb hR hd).frozen 0, (row_kept hb hR hd).cell 1, (row_kept hb hR hd).frozen 1, (row_kept hb hR hd).cell 2, (row_kept hb hR hd).frozen 2, (row_kept hb hR hd).cell 3, (row_kept hb hR hd).frozen 3, (row_kept hb hR hd).cell 4, (row_kept hb hR hd).frozen 4⟩
theorem wPush_is (p l v y m b : Int) (hs : WS.Ok ⟨p, l, v, y, m⟩) (hb : 0 ≤ b ∧ b ≤ 255) {S : WS} {ok : Bool} (h : wPush ⟨p, l, v, y, m⟩ b = (S, ok)) (w : World) :
    Calls Tryd.prog 12 #[.agg #[.int .u8 p, .int .i64 l, .int .i64 v, .int .i64 y, .int .i64 m], .int .u8 b] w fun e w' => e = .returned (.tuple #[.agg #[.int .u8 S.p, .int .i64 S.l, .int .i64 S.v, .int .i64 S.y, .int .i64 S.m], .bool ok]) ∧ Below w.heap.size w w' := by
  have := wPush_any p l v y m b hs hb w
  rw [h] at this
  exact this
theorem wStart_is (tag n : Int) {S : WS} {ok : Bool} (h : wStart tag n = (S, ok)) (w : World) :
    Calls Tryd.prog 11 #[.int .i64 tag, .int .i64 n] w fun e w' => e = .returned (.tuple #[.agg #[.int .u8 S.p, .int .i64 S.l, .int .i64 S.v, .int .i64 S.y, .int .i64 S.m], .bool ok]) ∧ Below w.heap.size w w' := by
  have := wStart_any tag n w
  rw [h] at this
  exact this
theorem WS.no_ok : WS.Ok WS.no := ⟨by decide, by decide, by decide, by decide, by decide, by decide, by decide, by decide, by decide, by decide, fun h => absurd h (by decide)⟩
theorem take_more {α : Type} {l : List α} {i : Nat} (h : i < l.length) : l.take (i + 1) = l.take i ++ [l[i]] := by
  rw [List.take_add_one, List.getElem?_eq_getElem h]; rfl
/-- What is so behind i bytes of a text. -/
def WAt (tag n : Int) (l : List Int) (i : Nat) (S : WS) (ok : Bool) : Prop := (ok = true ∧ canP tag n (l.take i) ∧ S = wSt tag (l.take i)) ∨ (ok = false ∧ ¬ canP tag n l ∧ S = WS.no)
theorem canP_take {tag n : Int} {l : List Int} (h : canP tag n l) : ∀ i, canP tag n (l.take i) := by
  intro i
  refine ⟨h.1, by have := h.2.1; rw [List.length_take]; omega, fun j hj => ?_⟩
  have hj2 : j < i ∧ j < l.length := by rw [List.length_take] at hj; omega
  exact (stepC_congr (fun k hk => g_take (by omega))).2 (h.2.2 j hj2.2)
theorem WAt.ok {tag n : Int} {l : List Int} {i : Nat} {S : WS} {ok : Bool} (h : WAt tag n l i S ok) : WS.Ok S := by
  rcases h with ⟨_, h, rfl⟩ | ⟨_, _, rfl⟩
  · exact wSt_ok h
  · exact WS.no_ok
theorem WAt.start (tag n : Int) (l : List Int) : WAt tag n l 0 (wStart tag n).1 (wStart tag n).2 := by
  rw [w_start]
  by_cases h : typ tag n
  · rw [if_pos h]
    exact .inl ⟨rfl, ⟨h, by have := typ_off h; unfold offT at this; simp; split at this <;> omega, fun i hi => absurd hi (by simp)⟩, by rw [List.take_zero]⟩
  · rw [if_neg h]
    exact .inr ⟨rfl, fun hc => h hc.1, rfl⟩
theorem WAt.push {tag n : Int} {l : List Int} {i : Nat} {S : WS} (h : WAt tag n l i S true) (hi : i < l.length) : WAt tag n l (i + 1) (wPush S l[i]).1 (wPush S l[i]).2 := by
  rcases h with ⟨_, h, rfl⟩ | ⟨h, _⟩
  · rw [w_push h]
    by_cases hc : canP tag n (l.take i ++ [l[i]])
    · rw [if_pos hc]
      exact .inl ⟨rfl, by rw [take_more hi]; exact hc, by rw [take_more hi]⟩
    · rw [if_neg hc]
      exact .inr ⟨rfl, fun hl => hc (by rw [← take_more hi]; exact canP_take hl _), rfl⟩
  · cases h
/-- What read gives. -/
def wR (tag : Int) (s : ByteArray) : WS × Bool := if rightP tag (bl s) then (wSt tag (bl s), true) else (WS.no, false)
theorem right_size (tag : Int) (s : ByteArray) : rightP tag (bl s) ↔ canP tag s.size (bl s) := by
  have e : ((bl s).length : Int) = s.size := by rw [bl_length]
  unfold rightP
  rw [e]
theorem WAt.stop {tag : Int} {s : ByteArray} {i : Nat} {S : WS} (h : WAt tag s.size (bl s) i S false) : (S, false) = wR tag s := by
  rcases h with ⟨h, _⟩ | ⟨_, h, rfl⟩
  · cases h
  · unfold wR; rw [if_neg (fun hr => h ((right_size tag s).1 hr))]
theorem WAt.done {tag : Int} {s : ByteArray} {S : WS} (h : WAt tag s.size (bl s) s.size S true) : (S, true) = wR tag s := by
  rcases h with ⟨_, h, rfl⟩ | ⟨h, _⟩
  · rw [List.take_of_length_le (by rw [bl_length]; exact Nat.le_refl _)] at h ⊢
    unfold wR; rw [if_pos ((right_size tag s).2 h)]
  · cases h
set_option maxHeartbeats 8000000 in
theorem wRead_any (tag : Int) (s : ByteArray) (hs : s.size ≤ 1000000) (w : World) :
    Calls Tryd.prog 23 #[.int .i64 tag, .string s] w fun e w' => e = .returned (.tuple #[.agg #[.int .u8 (wR tag s).1.p, .int .i64 (wR tag s).1.l, .int .i64 (wR tag s).1.v, .int .i64 (wR tag s).1.y, .int .i64 (wR tag s).1.m], .bool (wR tag s).2]) ∧ Below w.heap.size w w' := by
  have hb9 : (s.size : Int) ≤ 9223372036854775807 := by omega
  have HA := Lib.hid (WAt.start tag s.size (bl s))
  obtain ⟨⟨p0, l0, v0, y0, m0⟩, ok0, hst⟩ : ∃ (S : WS) (ok : Bool), wStart tag s.size = (S, ok) := ⟨_, _, rfl⟩
  have HS := Lib.hid (wStart_is tag s.size hst)
  rw [hst] at HA
  have HGB := Lib.hid (get_bt s)
  have HX0 := Lib.hid (bt_nonneg s)
  have HX1 := Lib.hid (bt_le s)
  have HBL := Lib.hid (fun (i : Nat) (hi : i < (bl s).length) => bl_get s i hi)
  have HSZ := Lib.hid (bl_length s)
  have HE0 := Lib.hid (fun i S => WAt.stop (tag := tag) (s := s) (i := i) (S := S))
  have HE1 := Lib.hid (fun S => WAt.done (tag := tag) (s := s) (S := S))
  have HPU := Lib.hid (fun (i : Nat) (S : WS) => WAt.push (tag := tag) (n := s.size) (l := bl s) (i := i) (S := S))
  have HOK := Lib.hid (fun (i : Nat) (S : WS) (ok : Bool) => WAt.ok (tag := tag) (n := s.size) (l := bl s) (i := i) (S := S) (ok := ok))
  generalize wR tag s = R at *
  clear hst
  go_enter Tryd.func23, Tryd.ntmps23
  go_wp2_with fail
  refine (HS.out _).mono ?_
  rintro e w1 ⟨rfl, hb1⟩
  have HV1 := Lib.hid ((Row.new w 26 (wC5 0 0 0 0 0)).below hb1 (by simp))
  have hB1 : Below w.heap.size w w1 := ((Below.refl w.heap.size w).alloc (Nat.le_refl _) (.cells #[.int .u8 0, .int .i64 0, .int .i64 0, .int .i64 0, .int .i64 0] 26)).trans (hb1.mono (by simp))
  have hlt1 := HV1.out.lt
  clear hb1 HS
  go_wp2
  go_loopw [7, 8] (fun ov iv wr => ∃ (ok : Bool) (i : Nat) (p l v y m : Int), ov = .bool ok ∧ iv = .int .i64 (i : Int) ∧ i ≤ s.size ∧ Hid (Row wr w1.heap.size 26 (wC5 p l v y m)) ∧ Hid (Row wr w.heap.size 26 (wC5 0 0 0 0 0)) ∧ Hid (Below w.heap.size w wr) ∧ Hid (WAt tag s.size (bl s) i ⟨p, l, v, y, m⟩ ok)) (fun _ iv _ => s.size - (intOf iv).toNat)
  case atStart => exact ⟨ok0, 0, p0, l0, v0, y0, m0, rfl, rfl, by omega, Lib.hid (Row.new w1 26 (wC5 _ _ _ _ _)), Lib.hid (HV1.out.alloc _), Lib.hid (hB1.alloc hB1.size _), HA⟩
  case round =>
    obtain ⟨ok, i, p, l, v, y, m, rfl, rfl, hi, HRo, HVo, HB, HT⟩ := hrel
    by_cases hgo : ok = true ∧ i < s.size
    · obtain ⟨rfl, hlt⟩ := hgo
      have hbt := HGB.out i hlt
      have hx0 := HX0.out i
      have hx1 := HX1.out i
      have hll : i < (bl s).length := by rw [HSZ.out]; exact hlt
      have hpu := HPU.out i _ HT.out hll
      rw [HBL.out i hll] at hpu
      have hok := HOK.out i _ _ HT.out
      obtain ⟨z, hz⟩ : ∃ z, bt s i = z := ⟨_, rfl⟩
      rw [hz] at hbt hx0 hx1 hpu
      obtain ⟨⟨p', l', v', y', m'⟩, ok', hpe⟩ : ∃ (S : WS) (ok : Bool), wPush ⟨p, l, v, y, m⟩ z = (S, ok) := ⟨_, _, rfl⟩
      have HP := Lib.hid (wPush_is p l v y m z hok ⟨hx0, hx1⟩ hpe)
      rw [hpe] at hpu
      have HT2 := Lib.hid hpu
      clear hpe hpu hz hok HT
      have h0 : wr.cell? ⟨w1.heap.size, 0, none⟩ = some (.int .u8 p) := HRo.out.cell 0
      have h1 : wr.cell? ⟨w1.heap.size, 1, none⟩ = some (.int .i64 l) := HRo.out.cell 1
      have h2 : wr.cell? ⟨w1.heap.size, 2, none⟩ = some (.int .i64 v) := HRo.out.cell 2
      have h3 : wr.cell? ⟨w1.heap.size, 3, none⟩ = some (.int .i64 y) := HRo.out.cell 3
      have h4 : wr.cell? ⟨w1.heap.size, 4, none⟩ = some (.int .i64 m) := HRo.out.cell 4
      have f0 := HRo.out.frozen 0
      have f1 := HRo.out.frozen 1
      have f2 := HRo.out.frozen 2
      have f3 := HRo.out.frozen 3
      have f4 := HRo.out.frozen 4
      have hls := HRo.out.lt
      have hlti : (i : Int) < (s.size : Int) := by omega
      go_wp2
      go_region_with (go_at_call 12; refine (HP.out _).mono ?_; rintro e w5 ⟨rfl, hb5⟩; obtain ⟨hc0, hf0, hc1, hf1, hc2, hf2, hc3, hf3, hc4, hf4⟩ := wst_kept hb5 HRo.out rfl)
      all_goals
        have HR5 := Lib.hid (row5 (row_kept hb5 HRo.out rfl) (.int .u8 p') (.int .i64 l') (.int .i64 v') (.int .i64 y') (.int .i64 m'))
        have HV5 := Lib.hid (row5_far (row_kept hb5 HVo.out rfl) (show w.heap.size ≠ w1.heap.size by omega) (.int .u8 p') (.int .i64 l') (.int .i64 v') (.int .i64 y') (.int .i64 m'))
        have HB5 := Lib.hid (below5 (below_kept hb5 HB.out rfl rfl rfl rfl) (show w.heap.size ≤ w1.heap.size by omega) (.int .u8 p') (.int .i64 l') (.int .i64 v') (.int .i64 y') (.int .i64 m'))
        clear hb5 hc0 hf0 hc1 hf1 hc2 hf2 hc3 hf3 hc4 hf4 h0 h1 h2 h3 h4 f0 f1 f2 f3 f4 hls HRo HVo HB HP
        go_wp2
        go_roundw
        case rel => exact ⟨ok', i + 1, p', l', v', y', m', rfl, by simp, by omega, HR5, HV5, HB5, HT2⟩
        case measure => simp [intOf]; omega
    · have HF : Hid ((⟨⟨p, l, v, y, m⟩, ok⟩ : WS × Bool) = R) := Lib.hid (by
        cases ok
        · exact HE0.out i _ HT.out
        · obtain rfl : i = s.size := by
            rcases Nat.lt_or_ge i s.size with h | h
            · exact absurd ⟨rfl, h⟩ hgo
            · omega
          exact HE1.out _ HT.out)
      have h0 : wr.cell? ⟨w1.heap.size, 0, none⟩ = some (.int .u8 p) := HRo.out.cell 0
      have h1 : wr.cell? ⟨w1.heap.size, 1, none⟩ = some (.int .i64 l) := HRo.out.cell 1
      have h2 : wr.cell? ⟨w1.heap.size, 2, none⟩ = some (.int .i64 v) := HRo.out.cell 2
      have h3 : wr.cell? ⟨w1.heap.size, 3, none⟩ = some (.int .i64 y) := HRo.out.cell 3
      have h4 : wr.cell? ⟨w1.heap.size, 4, none⟩ = some (.int .i64 m) := HRo.out.cell 4
      have d0 : wr.cell? ⟨w.heap.size, 0, none⟩ = some (.int .u8 0) := HVo.out.cell 0
      have d1 : wr.cell? ⟨w.heap.size, 1, none⟩ = some (.int .i64 0) := HVo.out.cell 1
      have d2 : wr.cell? ⟨w.heap.size, 2, none⟩ = some (.int .i64 0) := HVo.out.cell 2
      have d3 : wr.cell? ⟨w.heap.size, 3, none⟩ = some (.int .i64 0) := HVo.out.cell 3
      have d4 : wr.cell? ⟨w.heap.size, 4, none⟩ = some (.int .i64 0) := HVo.out.cell 4
      have e0 := HVo.out.frozen 0
      have e1 := HVo.out.frozen 1
      have e2 := HVo.out.frozen 2
      have e3 := HVo.out.frozen 3
      have e4 := HVo.out.frozen 4
      have hls := HVo.out.lt
      have hne : ok = true → ¬ (i : Int) < (s.size : Int) := fun h => by
        have : ¬ i < s.size := fun h2 => hgo ⟨h, h2⟩
        omega
      clear HT HE0 HE1 HPU HOK HGB HX0 HX1 HBL HSZ hgo HA HV1
      cases ok
      · clear hne
        go_wp2
        exact bodyPost_ret (results_cell_one Tryd.results23 _ (ad := ⟨w.heap.size, 0, none⟩) rfl rfl (wst_load (row5 HVo.out (.int .u8 p) (.int .i64 l) (.int .i64 v) (.int .i64 y) (.int .i64 m)))) rfl ⟨by rw [← HF.out]; rfl, below5 HB.out (Nat.le_refl _) _ _ _ _ _⟩
      · have hne := hne rfl
        go_wp2
        exact bodyPost_ret (results_cell_one Tryd.results23 _ (ad := ⟨w.heap.size, 0, none⟩) rfl rfl (wst_load (row5 HVo.out (.int .u8 p) (.int .i64 l) (.int .i64 v) (.int .i64 y) (.int .i64 m)))) rfl ⟨by rw [← HF.out]; rfl, below5 HB.out (Nat.le_refl _) _ _ _ _ _⟩
end Go.Proofs.YthjncfpgmfbehaaDoor
