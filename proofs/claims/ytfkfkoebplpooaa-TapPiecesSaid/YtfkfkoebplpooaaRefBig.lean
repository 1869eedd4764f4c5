/- What the reference's functions on numbers by bytes give: bytes, at, atMost. -/
import Derived.Test.YtfkfkoebplpooaaMem
import Derived.Test.YtfkfkoebplpooaaBig
import Derived.Test.YtfkfkoebplpooaaWord
namespace Go.Proofs.Ytfkfkoebplpooaa
open Go.RowKit Go.PlainAid
set_option linter.unusedVariables false
def nvs (l : List Nat) : List Value := l.map fun n : Nat => Value.int .i64 (n : Int)
theorem nvs_length (l : List Nat) : (nvs l).length = l.length := by simp [nvs]
theorem nvs_snoc (l : List Nat) (x : Nat) : nvs (l ++ [x]) = nvs l ++ [.int .i64 (x : Int)] := by simp [nvs]
theorem nvs_append (l m : List Nat) : nvs (l ++ m) = nvs l ++ nvs m := by simp [nvs]
/-- A new slice that holds l is handed back. -/
def NewSl (t : TypeId) (l : List Value) (w : World) (e : Ending) (w' : World) : Prop :=
  ∃ v g, e = .returned v ∧ Sl w' t v l g ∧ w.heap.size ≤ g ∧ Below w.heap.size w w'
theorem infoI64b : (Try.prog.info? 3).map (fun i => (i.zero, i.size, i.bytes)) = some (some (.int .i64 0), 1, 8) := by kernel_rfl

set_option maxHeartbeats 400000 in
theorem bytes_any (x : Nat) (hx : (x : Int) ≤ 18446744073709551615) (w : World) :
    Calls Try.prog 40 #[.int .u64 x] w (NewSl 3 (nvs (dgl x 8)) w) := by
  obtain ⟨i0, hi, hz0, hz1, hz2⟩ := info_parts infoI64b
  go_enter Try.func40, Try.ntmps40
  go_wp2
  go_loopw [0, 3, 4] (fun xv ov i wr => ∃ k g : Nat, ∃ v, k ≤ 8 ∧ i = .int .i64 k ∧ xv = .int .u64 ((x / 256 ^ k : Nat) : Int) ∧ ov = v ∧ Sl wr 3 v (nvs (dgl x k)) g ∧ w.heap.size ≤ g ∧ Below w.heap.size w wr) (fun _ _ i _ => 8 - (intOf i).toNat)
  case atStart => exact ⟨0, w.heap.size, _, by omega, rfl, by simp, rfl, Sl.new w _ [] (by simp), by omega, by go_grown⟩
  case round =>
    obtain ⟨k, g, v, hk, rfl, rfl, rfl, hs, hg, hB⟩ := hrel
    have hd : x / 256 ^ k / 256 = x / 256 ^ (k + 1) := by rw [Nat.div_div_eq_div_mul, Nat.pow_succ]
    have hle : x / 256 ^ k ≤ x := Nat.div_le_self _ _
    have hsn : dgl x (k + 1) = dgl x k ++ [x / 256 ^ k % 256] := rfl
    have hln := dgl_length x k
    generalize hy : x / 256 ^ k = y at *
    have hyb : (y : Int) ≤ 18446744073709551615 := by omega
    have HS := Lib.hid hs
    have HD := Lib.hid hd
    have HN := Lib.hid hsn
    have HL := Lib.hid hln
    have HX := Lib.hid hx
    clear hs hd hsn hln hle hy hx
    by_cases hlt : k < 8
    · go_wp2_with (at_builtin; refine wpList_append_own _ rfl (.tmp 10) (.tmp 14) 71 rfl w.heap.size 3 i0 (.int .i64 0) 1 8 Try.underlying71 hi hz0 hz1 hz2 rfl (by decide) _ k (nvs (dgl x k)) rfl ?c0 ⟨wr.heap.size, 0, none⟩ 1 1 [.int .i64 ((y : Int) % 256)] rfl ?c1 ?c2 ?c3 ?c4 ?c5 ?c6 ?_)
      case c0 => have := (HS.out.alloc (.cells #[.int .i64 ((y : Int) % 256)] 3)).own hg; rw [nvs_length, HL.out] at this; exact this
      case c1 => rfl
      case c2 => exact cell_one_new _ _ _
      case c3 => intro u hu; simp at hu; subst hu; rfl
      case c4 => unfold maxLen; omega
      case c5 => omega
      case c6 => have := hB.size; simp; omega
      intro v' w1 hown hgr hnil
      obtain ⟨g', hs', hg'⟩ := Sl.of_own hown (fun h => hnil h)
      have HB : Below w.heap.size w w1 := (hB.alloc hB.size _).grown hgr (by have := hB.size; simp; omega) (by
        intro j hj; obtain ⟨_, h2, _⟩ := HS.out; rw [h2] at hj; simp [Value.ownBlock] at hj; omega)
      have HS2 : Hid (Sl w1 3 v' (nvs (dgl x (k + 1))) g') := Lib.hid (by rw [HN.out, nvs_snoc]; exact hs')
      clear hown hgr hnil hs'
      go_wp2
      go_roundw
      case rel => exact ⟨k + 1, g', v', by omega, by go_num, by rw [← HD.out]; go_num, rfl, HS2.out, hg', HB⟩
      case measure => simp [intOf]; omega
    · have hk8 : k = 8 := by omega
      subst hk8
      go_wp2
      go_ret
      exact ⟨_, g, rfl, HS.out, hg, hB⟩

set_option maxHeartbeats 400000 in
theorem at_any (l : List Nat) (v : Value) (g : Nat) (i : Nat) (hi : (i : Int) ≤ 1000) (w : World) (hs : Sl w 3 v (nvs l) g) :
    Calls Try.prog 52 #[v, .int .i64 i] w fun e w' => e = .returned (.int .i64 ((l.getD i 0 : Nat) : Int)) ∧ w = w' := by
  obtain ⟨sp, rfl, hm, hr⟩ := id hs
  rw [nvs_length] at hm
  unfold maxLen at hm
  rw [nvs_length]
  by_cases hlt : i < l.length
  · have hc : w.cell? ⟨g, i, none⟩ = some (.int .i64 ((l.getD i 0 : Nat) : Int)) := by
      rw [hs.cell (by rw [nvs_length]; exact hlt)]; simp [nvs, List.getD, List.getElem?_eq_getElem hlt]
    generalize l.getD i 0 = x at *
    clear hs hr
    go_enter Try.func52, Try.ntmps52
    go_wp2
    go_ret
    exact ⟨rfl, rfl⟩
  · have hx : l.getD i 0 = 0 := by simp [List.getD, List.getElem?_eq_none (show l.length ≤ i by omega)]
    have HX := Lib.hid hx
    clear hs hr hx
    go_enter Try.func52, Try.ntmps52
    go_wp2
    go_ret
    exact ⟨ret_int (by rw [HX.out]; rfl), rfl⟩

set_option maxHeartbeats 400000 in
theorem atMost_any (a b : List Nat) (va vb : Value) (ga gb : Nat) (ha : a.length ≤ 40) (hb : b.length ≤ 40) (ha1 : ∀ x ∈ a, x ≤ 255) (hb1 : ∀ x ∈ b, x ≤ 255) (w : World) (hsa : Sl w 3 va (nvs a) ga) (hsb : Sl w 3 vb (nvs b) gb) :
    Calls Try.prog 42 #[va, vb] w fun e w' => e = .returned (.bool (decide (num a ≤ num b))) ∧ w = w' := by
  have HA := Lib.hid (fun (i : Nat) (hi : (i : Int) ≤ 1000) w (hs : Sl w 3 va (nvs a) ga) => at_any a va ga i hi w hs)
  have HB := Lib.hid (fun (i : Nat) (hi : (i : Int) ≤ 1000) w (hs : Sl w 3 vb (nvs b) gb) => at_any b vb gb i hi w hs)
  have HSA := Lib.hid hsa
  have HSB := Lib.hid hsb
  have HA1 := Lib.hid ha1
  have HB1 := Lib.hid hb1
  clear hsa hsb ha1 hb1
  go_enter Try.func42, Try.ntmps42
  go_wp2
  go_loop [5] (fun iv => ∃ k : Nat, k ≤ 40 ∧ iv = .int .i64 ((k : Int) - 1) ∧ Hid (∀ j, k ≤ j → a.getD j 0 = b.getD j 0)) (fun i => (intOf i + 1).toNat)
  case atStart => exact ⟨40, by omega, rfl, Lib.hid fun j hj => by simp [List.getD, List.getElem?_eq_none (show a.length ≤ j by omega), List.getElem?_eq_none (show b.length ≤ j by omega)]⟩
  case round =>
    obtain ⟨k, hk, rfl, HE⟩ := hrel
    by_cases h0 : 1 ≤ k
    · obtain ⟨m, rfl⟩ : ∃ m, k = m + 1 := ⟨k - 1, by omega⟩
      have hm : ((m + 1 : Nat) : Int) - 1 = (m : Int) := by omega
      rw [hm]
      clear hm h0
      have hma : (m : Int) ≤ 1000 := by omega
      have HCA := Lib.hid (HA.out m hma w HSA.out)
      have HCB := Lib.hid (HB.out m hma w HSB.out)
      by_cases he : a.getD m 0 = b.getD m 0
      · have HE2 : Hid (∀ j, m ≤ j → a.getD j 0 = b.getD j 0) := Lib.hid fun j hj => by
          rcases Nat.lt_or_ge m j with h | h
          · exact HE.out j (by omega)
          · have : j = m := by omega
            subst this; exact he
        have HQ := Lib.hid he
        clear he
        go_wp2_with (go_at_call 52; first
          | (with_reducible refine HCA.out.mono ?_; rintro e w' ⟨rfl, rfl⟩)
          | (with_reducible refine HCB.out.mono ?_; rintro e w' ⟨rfl, rfl⟩; rw [← HQ.out]))
        go_round
        case rel => exact ⟨m, by omega, by go_num, HE2⟩
        case measure => simp [intOf]
      · have he' : ((a.getD m 0 : Nat) : Int) ≠ ((b.getD m 0 : Nat) : Int) := by omega
        have HR : Hid (decide (num a ≤ num b) = decide (a.getD m 0 < b.getD m 0)) := Lib.hid (by
          rcases Nat.lt_or_ge (a.getD m 0) (b.getD m 0) with h | h
          · have := num_lt_of HA1.out HB1.out h (fun j hj => HE.out j (by omega))
            rw [decide_eq_true (by omega), decide_eq_true (by omega)]
          · have := num_lt_of (i := m) HB1.out HA1.out (by omega) (fun j hj => (HE.out j (by omega)).symm)
            rw [decide_eq_false (by omega), decide_eq_false (by omega)])
        have he2 : (((a.getD m 0 : Nat) : Int) != ((b.getD m 0 : Nat) : Int)) = true := by simpa using he'
        clear he he'
        generalize a.getD m 0 = x at *
        generalize b.getD m 0 = y at *
        go_wp2_with (go_at_call 52; first
          | (with_reducible refine HCA.out.mono ?_; rintro e w' ⟨rfl, rfl⟩)
          | (with_reducible refine HCB.out.mono ?_; rintro e w' ⟨rfl, rfl⟩))
        go_ret
        exact ⟨ret_bool HR.out.symm, rfl⟩
    · have hk0 : k = 0 := by omega
      subst hk0
      have HR : Hid (decide (num a ≤ num b) = true) := Lib.hid (by
        rw [num_eq_of (a := a) (b := b) fun j => HE.out j (by omega)]; simp)
      go_wp2
      go_ret
      exact ⟨ret_bool HR.out.symm, rfl⟩
end Go.Proofs.Ytfkfkoebplpooaa
