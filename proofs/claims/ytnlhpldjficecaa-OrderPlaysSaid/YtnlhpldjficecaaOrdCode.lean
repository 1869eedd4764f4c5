/- Package order's sorter: what its calls give: Push, End, Reset. -/
import Derived.Test.YtnlhpldjficecaaOrdTake
namespace Go.Proofs.Ytnlhpldjficecaa
open Go.RowKit Go.PlainAid
set_option linter.unusedVariables false
theorem u8s_drop (l : List Int) (i : Nat) : (u8s l).drop i = u8s (l.drop i) := by simp [u8s]
theorem came_drop {w : World} {g cap : Nat} {v : Value} {l : List Int} (h : Sl w 5 v (u8s l) g) (i : Nat) : Came w (some ⟨g, i, none⟩) (u8s (l.drop i)) := by
  intro j u hj
  refine ⟨_, rfl, ?_⟩
  have hj' := (List.getElem?_eq_some_iff.1 hj).1
  rw [u8s_length, List.length_drop] at hj'
  rw [u8s_at (by rw [List.length_drop]; omega), List.getElem_drop] at hj
  have e : (⟨g, i, none⟩ : Addr).add j = ⟨g, i + j, none⟩ := by unfold Addr.add; split <;> simp_all
  rw [e, h.cells_u8 (i + j) (by omega)]
  exact hj
set_option maxRecDepth 100000 in
set_option maxHeartbeats 8000000 in
theorem comes_any {w : World} {k : Nat} {F : Nat → Prop} {most n : Nat} {prev last : List Int} {v : Value} {l : List Int} {first : Bool} (hR : Row w k 48 [.int .i64 most, v, .int .i64 (last.length : Int), .bool first, .int .i64 0]) (hH : Hi w k F v l) (hK : Keeps (mk0 most prev last n) l first) :
    Calls Try.prog 25 #[.pointer (some ⟨k, 0, none⟩)] w fun e w' => e = .returned (.bool (decide (0 < cmpL prev last))) ∧ ∃ n, w' = w.drewN n := by
  have hE : 0 < cmpL prev last ↔ first = true ∨ ∃ x ∈ l.drop last.length, 0 < x := keeps_end hK
  obtain ⟨B, hB⟩ : ∃ B, decide (0 < cmpL prev last) = B := ⟨_, rfl⟩
  rw [hB]
  have hl65 : l.length ≤ 65536 := hK.hlen
  have q3 : w.cell? ⟨k, 3, none⟩ = some (.bool first) := hR.cell 3
  have q2 : w.cell? ⟨k, 2, none⟩ = some (.int .i64 (last.length : Int)) := hR.cell 2
  have q1 : w.cell? ⟨k, 1, none⟩ = some v := hR.cell 1
  cases first with
  | true =>
    have hBt : true = B := by rw [← hB]; exact (decide_eq_true (hE.2 (.inl rfl))).symm
    subst hBt
    clear hE hB hR hH hK q1 q2
    go_enter Try.func25, Try.ntmps25
    go_wp2
    go_quiet (fail)
    go_wp2
    go_returns
    exact ⟨rfl, _, rfl⟩
  | false =>
    have hBx : B = true ↔ ∃ x ∈ l.drop last.length, 0 < x := by
      rw [← hB, decide_eq_true_iff, hE]; simp
    have hi : last.length ≤ l.length := (hK.no rfl).1
    rcases hH with ⟨rfl, rfl, _⟩ | ⟨g, hS, hkg, _⟩
    · have h0 : last.length = 0 := by simpa using hi
      rw [h0] at q2 hBx
      have HQ : Hid (∀ n, Calls Try.prog 30 #[.slice none 0 0, .func (.func 31) #[] #[]] (w.drewN n) fun e w' => e = .returned (.bool B) ∧ w' = w.drewN n) := Lib.hid (fun n => containsUp_any none 0 [] (Nat.zero_le _) (Nat.zero_le _) (w.drewN n) (Came.nil _ _) B hBx)
      clear hE hB hR hK hBx hi
      go_enter Try.func25, Try.ntmps25
      go_wp2
      go_quiet (first | (go_at_call 30; exact Calls.quiet_of_same (HQ.out _)))
      go_wp2
      go_returns
      exact ⟨rfl, _, rfl⟩
    · obtain ⟨cap, rfl, hlc, hcm⟩ := hS.open (n := l.length) (u8s_length l)
      have hdl : (l.drop last.length).length = l.length - last.length := List.length_drop
      have HQ : Hid (∀ n (oa : Option Addr) (cc : Nat), Came w oa (u8s (l.drop last.length)) → l.length - last.length ≤ cc → cc ≤ maxLen → Calls Try.prog 30 #[.slice oa (l.length - last.length) cc, .func (.func 31) #[] #[]] (w.drewN n) fun e w' => e = .returned (.bool B) ∧ w' = w.drewN n) := Lib.hid (fun n oa cc hC h1 h2 => by
        have := containsUp_any oa cc (l.drop last.length) (by rw [hdl]; exact h1) h2 (w.drewN n) (hC.below (drawn_below w n)) B hBx
        rw [hdl] at this; exact this)
      have HC := Lib.hid (came_drop (cap := cap) hS last.length)
      have hC0 : last.length = cap → Came w (some ⟨g, 0, none⟩) (u8s (l.drop last.length)) := fun e => by
        rw [List.drop_eq_nil_of_le (by omega)]; exact Came.nil _ _
      have HC0 := Lib.hid hC0
      clear hE hB hR hK hBx hC0 hS hdl
      generalize hdd : l.drop last.length = dd at *
      clear hdd
      generalize l.length = L at *
      generalize last.length = i at *
      have hcap : i ≤ cap := by omega
      have hii : (i : Int) ≤ (L : Int) := by omega
      have hic : (L : Int) ≤ (cap : Int) := by omega
      go_enter Try.func25, Try.ntmps25
      by_cases hec : i = cap
      · have hL : L = i := by omega
        have HQ1 : Hid (∀ n, Calls Try.prog 30 #[.slice (some ⟨g, 0, none⟩) 0 0, .func (.func 31) #[] #[]] (w.drewN n) fun e w' => e = .returned (.bool B) ∧ w' = w.drewN n) := Lib.hid (fun n => by
          have := HQ.out n (some ⟨g, 0, none⟩) 0 (HC0.out hec) (by omega) (Nat.zero_le _)
          rw [show L - i = 0 by omega] at this; exact this)
        subst hL
        subst hec
        clear HQ HC HC0
        go_wp2
        go_quiet (first | (go_at_call 30; exact Calls.quiet_of_same (HQ1.out _)))
        go_wp2
        go_returns
        exact ⟨rfl, _, rfl⟩
      · have HQ1 : Hid (∀ n, Calls Try.prog 30 #[.slice (some ⟨g, i, none⟩) (L - i) (cap - i), .func (.func 31) #[] #[]] (w.drewN n) fun e w' => e = .returned (.bool B) ∧ w' = w.drewN n) := Lib.hid (fun n => HQ.out n _ _ HC.out (by omega) (by omega))
        have hec2 : ¬ cap = i := fun e => hec e.symm
        clear HQ HC HC0
        go_wp2
        go_quiet (first | (go_at_call 30; exact Calls.quiet_of_same (HQ1.out _)))
        go_wp2
        go_returns
        exact ⟨rfl, _, rfl⟩
/-- A byte taken, whatever the sorter holds. -/
theorem take_any {w : World} {k : Nat} {F : Nat → Prop} {most n : Nat} {prev last : List Int} {v : Value} {l : List Int} {first : Bool} (b : Int) (hR : Row w k 48 [.int .i64 most, v, .int .i64 (last.length : Int), .bool first, .int .i64 0]) (hH : Hi w k F v l) (hK : Keeps (mk0 most prev last n) l first) (hm : last.length + 1 ≤ 65536) (hb : 0 ≤ b ∧ b ≤ 255) :
    Calls Try.prog 24 #[.pointer (some ⟨k, 0, none⟩), .int .u8 b] w fun e w' => e = .returned (.tuple #[]) ∧ Took w k F (mk0 most prev last n) b w' := by
  cases first with
  | true => exact take_first b hR hH hK (by omega) hb
  | false =>
    have hlen : last.length ≤ l.length := (hK.no rfl).1
    rcases hH with ⟨rfl, rfl, hF⟩ | ⟨g, hS, hkg, hF⟩
    · obtain rfl : last = [] := List.length_eq_zero_iff.1 (by simpa using hlen)
      exact take_none b hR hF hK hb
    · obtain ⟨cap, rfl, _, _⟩ := hS.open (n := l.length) (u8s_length l)
      by_cases hq : last.length = l.length
      · exact take_behind b hR hS hkg hF hK hm hb (.inl hq)
      · have hlt : last.length < l.length := by omega
        by_cases hc : l[last.length] < b
        · exact take_behind b hR hS hkg hF hK hm hb (.inr ⟨_, List.getElem?_eq_getElem hlt, hc⟩)
        · exact take_within b _ hR hS hkg hF hK (by omega) hb (List.getElem?_eq_getElem hlt) hc
theorem chg_none (F : Nat → Prop) (w : World) : Chg F w w := ⟨rfl, rfl, rfl, Nat.le_refl _, fun _ _ _ => rfl⟩
set_option maxRecDepth 100000 in
set_option maxHeartbeats 8000000 in
theorem so_push {w : World} {k : Nat} {F : Nat → Prop} {m : OM} (b : Int) (hA : SoAt w k F m) (hOk : m.Ok) (hn : m.n ≤ 1000000) (hb : 0 ≤ b ∧ b ≤ 255) :
    Calls Try.prog 13 #[.pointer (some ⟨k, 0, none⟩), .int .u8 b] w fun r w' => ∃ F', r = .returned (.int .i64 (m.push b).e) ∧ (∀ i, F' i → F i ∨ w.heap.size ≤ i) ∧ SoAt w' k F' (m.push b) ∧ Chg F w w' := by
  obtain ⟨v, came, first, l, hR, hH, hE⟩ := hA
  obtain ⟨most, prev, last, n, e⟩ := m
  have q4 : w.cell? ⟨k, 4, none⟩ = some (.int .i64 e) := hR.cell 4
  by_cases he : e = 0
  · subst he
    obtain ⟨rfl, hK⟩ := hE rfl
    replace hK : Keeps (mk0 most prev last n) l first := hK
    replace hR : Row w k 48 [.int .i64 most, v, .int .i64 (last.length : Int), .bool first, .int .i64 0] := hR
    have hll : last.length ≤ most := hOk.len
    have hmm : most ≤ 65536 := hOk.most
    have q2 : w.cell? ⟨k, 2, none⟩ = some (.int .i64 (last.length : Int)) := hR.cell 2
    have q0 : w.cell? ⟨k, 0, none⟩ = some (.int .i64 (most : Int)) := hR.cell 0
    have f4 := hR.frozen 4
    have hkw := hR.lt
    by_cases hq : last.length = most
    · have HP : Hid ((OM.mk most prev last n 0).push b = ⟨most, prev, last, n, 11⟩) := Lib.hid (OM.push_over b rfl (by show most < last.length + 1; omega))
      have hqq : ((last.length : Int) == (most : Int)) = true := by simp; omega
      have hT : ∀ q, SoAt ((w.drewN q).setCell ⟨k, 4, none⟩ (.int .i64 11)) k F ⟨most, prev, last, n, 11⟩ ∧ Chg F w ((w.drewN q).setCell ⟨k, 4, none⟩ (.int .i64 11)) := fun q =>
        ⟨⟨v, _, first, l, (hR.below (drawn_below w q) hkw).set 4 _, hi_set (hi_drew hH q) _ _, fun h => by cases h⟩, chg_set2 hH.self (Chg.of_below (drawn_below w q)) _ _⟩
      have HT := Lib.hid hT
      clear hT hR hH hK hE hOk hq
      generalize last.length = i at *
      go_enter Try.func13, Try.ntmps13
      go_wp2
      go_quiet (fail)
      go_wp2
      go_returns
      rw [HP.out]
      first
        | exact ⟨F, rfl, fun i hi => .inl hi, (HT.out _).1, (HT.out _).2⟩
        | exact ⟨rfl, F, fun i hi => .inl hi, (HT.out _).1, (HT.out _).2⟩
    · have HP : Hid ((OM.mk most prev last n 0).push b = ⟨most, prev, last ++ [b], n, 0⟩) := Lib.hid (OM.push_on b rfl (by show ¬ most < last.length + 1; omega))
      have hqq : ((last.length : Int) == (most : Int)) = false := by simp; omega
      have hC : ∀ q, Calls Try.prog 24 #[.pointer (some ⟨k, 0, none⟩), .int .u8 b] (w.drewN q) fun e w' => e = .returned (.tuple #[]) ∧ Took (w.drewN q) k F (mk0 most prev last n) b w' := fun q =>
        take_any b (hR.below (drawn_below w q) hkw) (hi_drew hH q) hK (by omega) hb
      have HC := Lib.hid hC
      clear hC hR hH hK hE hOk hq
      generalize (last.length : Int) = i at *
      go_enter Try.func13, Try.ntmps13
      go_wp2
      go_quiet (fail)
      go_wp2_with fail
      refine (HC.out _).mono ?_
      rintro r w1 ⟨rfl, F', hF', hA', hC'⟩
      have hA2 : SoAt w1 k F' ⟨most, prev, last ++ [b], n, 0⟩ := hA'
      obtain ⟨v1, came1, first1, l1, hR1, _, _⟩ := id hA2
      have q41 : w1.cell? ⟨k, 4, none⟩ = some (.int .i64 0) := hR1.cell 4
      have HA := Lib.hid hA2
      have HCh : Hid (Chg F w w1) := Lib.hid ⟨hC'.os, hC'.tape, hC'.output, hC'.size, hC'.block⟩
      have HF' : Hid (∀ i, F' i → F i ∨ w.heap.size ≤ i) := Lib.hid hF'
      clear hR1 hA' hC' hA2 hF' HC q0 q2 f4 hkw
      go_wp2
      go_returns
      rw [HP.out]
      first
        | exact ⟨F', rfl, HF'.out, HA.out, HCh.out⟩
        | exact ⟨rfl, F', HF'.out, HA.out, HCh.out⟩
  · have hp : (OM.mk most prev last n e).push b = ⟨most, prev, last, n, e⟩ := OM.push_err b he
    have hne : (e == 0) = false := by simpa using he
    have HA : Hid (SoAt w k F ⟨most, prev, last, n, e⟩) := Lib.hid ⟨v, came, first, l, hR, hH, hE⟩
    rw [hp]
    clear hR hH hE hOk hp
    go_enter Try.func13, Try.ntmps13
    go_wp2
    go_returns
    first
      | exact ⟨F, rfl, fun i hi => .inl hi, HA.out, chg_none F _⟩
      | exact ⟨rfl, F, fun i hi => .inl hi, HA.out, chg_none F _⟩
set_option maxRecDepth 100000 in
set_option maxHeartbeats 8000000 in
theorem so_fin {w : World} {k : Nat} {F : Nat → Prop} {m : OM} (hA : SoAt w k F m) (hOk : m.Ok) (hn : m.n ≤ 1000000) :
    Calls Try.prog 15 #[.pointer (some ⟨k, 0, none⟩)] w fun r w' => ∃ F', r = .returned (.int .i64 m.fin.e) ∧ (∀ i, F' i → F i ∨ w.heap.size ≤ i) ∧ SoAt w' k F' m.fin ∧ Chg F w w' := by
  obtain ⟨v, came, first, l, hR, hH, hE⟩ := hA
  obtain ⟨most, prev, last, n, e⟩ := m
  have q4 : w.cell? ⟨k, 4, none⟩ = some (.int .i64 e) := hR.cell 4
  by_cases he : e = 0
  · subst he
    obtain ⟨rfl, hK⟩ := hE rfl
    replace hK : Keeps (mk0 most prev last n) l first := hK
    replace hR : Row w k 48 [.int .i64 most, v, .int .i64 (last.length : Int), .bool first, .int .i64 0] := hR
    have hkw := hR.lt
    have HC := Lib.hid (comes_any hR hH hK)
    by_cases hq : 0 < cmpL prev last
    · have HP : Hid ((OM.mk most prev last n 0).fin = ⟨most, prev, last, n, 9⟩) := Lib.hid (OM.fin_over rfl hq)
      have hT : ∀ q, Row (w.drewN q) k 48 [.int .i64 most, v, .int .i64 (last.length : Int), .bool first, .int .i64 0] ∧ SoAt (((w.drewN q).setCell ⟨k, 4, none⟩ (.int .i64 9)).setCell ⟨k, 2, none⟩ (.int .i64 0)) k F ⟨most, prev, last, n, 9⟩ ∧ Chg F w (((w.drewN q).setCell ⟨k, 4, none⟩ (.int .i64 9)).setCell ⟨k, 2, none⟩ (.int .i64 0)) := fun q =>
        ⟨hR.below (drawn_below w q) hkw, ⟨v, _, first, l, ((hR.below (drawn_below w q) hkw).set 4 (.int .i64 9)).set 2 _, hi_set (hi_set (hi_drew hH q) _ _) _ _, fun h => by cases h⟩, chg_set2 hH.self (chg_set2 hH.self (Chg.of_below (drawn_below w q)) _ _) _ _⟩
      have HT := Lib.hid hT
      have hd : decide (0 < cmpL prev last) = true := decide_eq_true hq
      rw [hd] at HC
      clear hT hR hH hK hE hOk hq hd
      generalize (last.length : Int) = i at *
      go_enter Try.func15, Try.ntmps15
      go_wp2_with fail
      refine HC.out.mono ?_
      rintro r w1 ⟨rfl, q, rfl⟩
      have h1 := (HT.out q).1
      have h2 := h1.set 4 (.int .i64 9)
      have f4 := h1.frozen 4
      have c4 := h1.cell 4
      have f2 := h2.frozen 2
      have c2 := h2.cell 2
      have h3 := h2.set 2 (.int .i64 0)
      have d4 := h3.cell 4
      have HD := Lib.hid (HT.out q).2
      clear h1 h2 h3 HC HT
      go_wp2
      go_returns
      rw [HP.out]
      first
        | exact ⟨F, rfl, fun i hi => .inl hi, HD.out.1, HD.out.2⟩
        | exact ⟨rfl, F, fun i hi => .inl hi, HD.out.1, HD.out.2⟩
    · have HP : Hid ((OM.mk most prev last n 0).fin = ⟨most, last, [], n + 1, 0⟩) := Lib.hid (OM.fin_on rfl hq)
      have hno : ¬ (first = true ∨ ∃ x ∈ l.drop last.length, 0 < x) := fun h => hq ((keeps_end hK).2 h)
      obtain rfl : first = false := by cases first with | true => exact absurd (.inl rfl) hno | false => rfl
      have hKf : Keeps ⟨most, last, [], n + 1, 0⟩ l false := keeps_fin hK (fun h => hno (.inr h))
      have hT : ∀ q, Row (w.drewN q) k 48 [.int .i64 most, v, .int .i64 (last.length : Int), .bool false, .int .i64 0] ∧ SoAt ((w.drewN q).setCell ⟨k, 2, none⟩ (.int .i64 0)) k F ⟨most, last, [], n + 1, 0⟩ ∧ Chg F w ((w.drewN q).setCell ⟨k, 2, none⟩ (.int .i64 0)) := fun q =>
        ⟨hR.below (drawn_below w q) hkw, ⟨v, 0, false, l, (hR.below (drawn_below w q) hkw).set 2 _, hi_set (hi_drew hH q) _ _, fun h => ⟨rfl, hKf⟩⟩, chg_set2 hH.self (Chg.of_below (drawn_below w q)) _ _⟩
      have HT := Lib.hid hT
      have hd : decide (0 < cmpL prev last) = false := decide_eq_false hq
      rw [hd] at HC
      clear hT hR hH hK hE hOk hq hd hKf hno
      generalize (last.length : Int) = i at *
      go_enter Try.func15, Try.ntmps15
      go_wp2_with fail
      refine HC.out.mono ?_
      rintro r w1 ⟨rfl, q, rfl⟩
      have h1 := (HT.out q).1
      have f2 := h1.frozen 2
      have c2 := h1.cell 2
      have h3 := h1.set 2 (.int .i64 0)
      have d4 := h3.cell 4
      have HD := Lib.hid (HT.out q).2
      clear h1 h3 HC HT
      go_wp2
      go_returns
      rw [HP.out]
      first
        | exact ⟨F, rfl, fun i hi => .inl hi, HD.out.1, HD.out.2⟩
        | exact ⟨rfl, F, fun i hi => .inl hi, HD.out.1, HD.out.2⟩
  · have hp : (OM.mk most prev last n e).fin = ⟨most, prev, last, n, e⟩ := OM.fin_err he
    have hne : (e == 0) = false := by simpa using he
    have HA : Hid (SoAt w k F ⟨most, prev, last, n, e⟩) := Lib.hid ⟨v, came, first, l, hR, hH, hE⟩
    rw [hp]
    clear hR hH hE hOk hp
    go_enter Try.func15, Try.ntmps15
    go_wp2
    go_returns
    first
      | exact ⟨F, rfl, fun i hi => .inl hi, HA.out, chg_none F _⟩
      | exact ⟨rfl, F, fun i hi => .inl hi, HA.out, chg_none F _⟩
theorem soSpec : OrdCode SoAt := ⟨so_lt, so_aside, so_new, fun b hA hOk hn hb => so_push b hA hOk hn hb, fun hA hOk hn => so_fin hA hOk hn⟩
end Go.Proofs.Ytnlhpldjficecaa
