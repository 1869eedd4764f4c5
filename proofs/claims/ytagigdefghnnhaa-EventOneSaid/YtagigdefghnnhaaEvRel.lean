/- What a machine of the landed code holds, and the machine in plain words: they go on alike. Of numbers alone. -/
import Derived.Test.YtagigdefghnnhaaEvTake
import Derived.Test.YtagigdefghnnhaaEvOn
namespace Go.Proofs.Ytagigdefghnnhaa
open Go.PlainAid
set_option linter.unusedVariables false
structure Rel (d : Nat) (x : CM) (m : EM) : Prop where
  most : x.s.most = d
  at_ : x.p = m.at_
  done : x.dn = m.done
  over : x.er = m.over
  st : m.over = 0 → m.st = pays x.s.st m.leaf
  leaf : m.over = 0 → x.n = m.leaf ∧ 0 ≤ m.leaf ∧ m.leaf ≤ 2305843009213693951
  pos : m.over = 0 → ∀ y ∈ m.st, 0 ≤ y
  hd : m.over = 0 → IsB m.hd ∧ m.hd.length ≤ 13 ∧ x.c = strOfNums m.hd
  no : m.over = 0 → 0 < m.leaf → m.hd = []
/-- The machine behind a byte, of the code. -/
def CM.next (x : CM) (er : Int) : CM := if er = 0 then { x with p := x.p + 1 } else { x with er := er }
theorem rel_err {d : Nat} {m : EM} {x' : CM} (h1 : x'.s.most = d) (h2 : x'.p = m.at_) (h3 : x'.dn = m.done) {er : Int} (he : er ≠ 0) : Rel d (x'.next er) { m with over := er } := by
  unfold CM.next
  rw [if_neg he]
  exact ⟨h1, h2, h3, rfl, fun h => absurd h he, fun h => absurd h he, fun h => absurd h he, fun h => absurd h he, fun h => absurd h he⟩
theorem popS_mem {y : Int} : ∀ (l : List Int), y ∈ popS l → y ∈ l := by
  intro l
  induction l with
  | nil => intro h; exact h
  | cons x r ih =>
    intro h
    rw [popS] at h
    by_cases hx : x = 0
    · rw [if_pos hx] at h; exact List.mem_cons_of_mem _ (ih h)
    · rw [if_neg hx] at h; exact h
/-- Nothing is over while the innermost one has bytes left. -/
theorem pop_stay {l : List Int} (p : Nat) (h : ∀ y r, l = y :: r → y ≠ 0) : popE l p = [] ∧ popS l = l := by
  cases l with
  | nil => exact ⟨rfl, rfl⟩
  | cons y r => exact ⟨popE_stay r p (h y r rfl), popS_stay r (h y r rfl)⟩
theorem pays_mem {l : List Int} {n y : Int} (h : ∀ z ∈ l, 0 ≤ z) (hh : ∀ z r, l = z :: r → n ≤ z) (hy : y ∈ pays l n) : 0 ≤ y := by
  cases l with
  | nil => cases hy
  | cons z r =>
    have hz := hh z r rfl
    rcases List.mem_cons.1 hy with rfl | h2
    · omega
    · exact h y (List.mem_cons_of_mem _ h2)
theorem headE_ok {most : Nat} {st : List Int} {f : Bool} {n : Int} (h : headE most st f n = 0) : ∀ z r, st = z :: r → n ≤ z := by
  intro z r hs
  subst hs
  unfold headE at h
  by_cases hz : z < n
  · simp only at h; rw [if_pos hz] at h; cases h
  · omega
/-- A head's byte. -/
theorem rel_head {d : Nat} {m : EM} {b : Int} {x : CM} (ho : m.over = 0) (hd0 : m.done = false) (hl : m.leaf = 0) (hz : m.st.head? ≠ some 0)
    (h1 : x.s.most = d) (h2 : x.s.st = pays m.st 1) (h3 : x.n = 0) (h4 : x.p = m.at_) (h5 : x.dn = false) (h6 : x.er = 0) (hpos : ∀ y ∈ m.st, 0 ≤ y)
    (hb : IsB (m.hd ++ [b])) {c t : Int} {f : Bool} {n : Int} {g : Nat} {er : Int} (hg : hdGet (m.hd ++ [b]) = (c, t, f, n, g, er)) :
    thE x f n er = (m.step d b).1 ∧ thL x c t f n er = (m.step d b).2.1 ∧ Rel d ((thX x (strOfNums (m.hd ++ [b])) f n er).next (m.step d b).1) (m.step d b).2.2 := by
  have hbd := hdGet_bd (m.hd ++ [b]) hb
  rw [hg] at hbd
  obtain ⟨_, _, _, _, hn0, hn1⟩ := hbd
  simp only at hn0 hn1
  have hp1 : ∀ y ∈ pays m.st 1, 0 ≤ y := by
    intro y hy
    refine pays_mem hpos (fun z r hs => ?_) hy
    have := hpos z (by rw [hs]; exact List.mem_cons_self ..)
    have : z ≠ 0 := fun e => hz (by rw [hs, e]; rfl)
    omega
  have hstep : m.step d b = if er = 2 then (0, [], { m with st := pays m.st 1, hd := m.hd ++ [b], at_ := m.at_ + 1 })
      else if er ≠ 0 then (er, [], { m with over := er })
      else if headE d (pays m.st 1) f n ≠ 0 then (headE d (pays m.st 1) f n, [], { m with over := headE d (pays m.st 1) f n })
      else (0, headL (pays m.st 1) m.at_ c t f n, headM (pays m.st 1) m.at_ f n) := by
    unfold EM.step
    rw [if_neg (by simpa using ho), if_neg (by simp [hd0]), if_neg (by omega), if_neg hz, hg]
  rw [hstep]
  have hdd : x.dn = m.done := h5.trans hd0.symm
  by_cases e2 : er = 2
  · subst e2
    have hsh := hdGet_short _ hb (by rw [hg])
    refine ⟨rfl, rfl, ?_⟩
    show Rel d (({ x with c := strOfNums (m.hd ++ [b]) } : CM).next 0) { m with st := pays m.st 1, hd := m.hd ++ [b], at_ := m.at_ + 1 }
    refine ⟨h1, by show x.p + 1 = _; rw [h4], hdd, h6.trans ho.symm, fun _ => ?_, fun _ => ⟨h3.trans hl.symm, by show 0 ≤ m.leaf; omega, by show m.leaf ≤ _; omega⟩, fun _ => hp1, fun _ => ⟨hb, hsh, rfl⟩, fun _ h => ?_⟩
    · show pays m.st 1 = pays x.s.st m.leaf
      rw [hl, pays_zero, h2]
    · have : (0 : Int) < m.leaf := h
      omega
  · by_cases e0 : er = 0
    · subst e0
      rw [if_neg (by decide), if_neg (by simp)]
      have hH : headE x.s.most x.s.st f n = headE d (pays m.st 1) f n := by rw [h1, h2]
      by_cases hz1 : headE d (pays m.st 1) f n = 0
      · rw [if_neg (fun h => h hz1)]
        have hz2 := hH.trans hz1
        have hge := headE_ok hz1
        have hT : thE x f n 0 = 0 := hz2
        have hL : thL x c t f n 0 = bgL x c t f n ++ popE (bgX x f n).s.st x.p := by unfold thL; rw [if_neg (by decide), if_neg (by simp), if_neg (fun h => h hz2)]
        have hX : thX x (strOfNums (m.hd ++ [b])) f n 0 = ⟨⟨x.s.most, popS (bgX x f n).s.st⟩, ⟨#[]⟩, (bgX x f n).n, x.p, decide ((bgX x f n).n = 0) && (popS (bgX x f n).s.st).isEmpty, x.er⟩ := by unfold thX; rw [if_neg (by decide), if_neg (by simp), if_neg (fun h => h hz2)]
        rw [hT, hL, hX]
        refine ⟨rfl, ?_, ?_⟩
        · show _ = headL (pays m.st 1) m.at_ c t f n
          cases f with
          | true =>
            have hB : bgL x c t true n = [evEnter x.p c t true n] := by unfold bgL; rw [if_neg (fun h => h hz2), if_pos rfl]
            have hY : (bgX x true n).s.st = n :: pays x.s.st n := by unfold bgX; rw [if_neg (fun h => h hz2), if_pos rfl]
            rw [hB, hY, headL_open, h2, h4]; rfl
          | false =>
            have hY : (bgX x false n).s.st = x.s.st := by unfold bgX; rw [if_neg (fun h => h hz2), if_neg (by simp)]
            by_cases hn : n = 0
            · have hB : bgL x c t false n = [evLeaf x.p c t false n, evEnd x.p] := by unfold bgL; rw [if_neg (fun h => h hz2), if_neg (by simp), if_pos hn]
              rw [hB, hY, hn, headL_none, h2, h4]; rfl
            · have hB : bgL x c t false n = [evLeaf x.p c t false n] := by unfold bgL; rw [if_neg (fun h => h hz2), if_neg (by simp), if_neg hn]
              rw [hB, hY, headL_leaf hn, h2, h4, (pop_stay m.at_ (fun y r h => by have := hge y r h; omega)).1]; rfl
        · show Rel d (CM.next _ 0) (headM (pays m.st 1) m.at_ f n)
          unfold CM.next
          rw [if_pos rfl]
          cases f with
          | true =>
            have hY : (bgX x true n).s.st = n :: pays x.s.st n := by unfold bgX; rw [if_neg (fun h => h hz2), if_pos rfl]
            have hN : (bgX x true n).n = 0 := by unfold bgX; rw [if_neg (fun h => h hz2), if_pos rfl]; exact h3
            rw [headM_open, hY, hN, h2]
            refine ⟨h1, by show x.p + 1 = _; rw [h4]; rfl, by simp [EM.fin], by show x.er = 0; exact h6, fun _ => (pays_zero _).symm, fun _ => ⟨rfl, Int.le_refl _, by show (0 : Int) ≤ 2305843009213693951; decide⟩, fun _ y hy => ?_, fun _ => ⟨IsB.nil, Nat.zero_le _, rfl⟩, fun _ h => absurd h (by show ¬ (0 : Int) < 0; decide)⟩
            have hy := popS_mem _ hy
            rcases List.mem_cons.1 hy with rfl | hy
            · exact hn0
            · exact pays_mem hp1 hge hy
          | false =>
            have hY : (bgX x false n).s.st = x.s.st := by unfold bgX; rw [if_neg (fun h => h hz2), if_neg (by simp)]
            have hN : (bgX x false n).n = n := by unfold bgX; rw [if_neg (fun h => h hz2), if_neg (by simp)]
            rw [hY, hN, h2]
            by_cases hn : n = 0
            · rw [hn, headM_none]
              exact ⟨h1, by show x.p + 1 = _; rw [h4]; rfl, by simp [EM.fin], h6, fun _ => (pays_zero _).symm, fun _ => ⟨rfl, Int.le_refl _, by show (0 : Int) ≤ 2305843009213693951; decide⟩, fun _ y hy => hp1 y (popS_mem _ hy), fun _ => ⟨IsB.nil, Nat.zero_le _, rfl⟩, fun _ h => absurd h (by show ¬ (0 : Int) < 0; decide)⟩
            · rw [headM_leaf hn, (pop_stay m.at_ (fun y r h => by have := hge y r h; omega)).2]
              exact ⟨h1, by show x.p + 1 = _; rw [h4], by simp [hn], h6, fun _ => rfl, fun _ => ⟨rfl, hn0, hn1⟩, fun _ y hy => pays_mem hp1 hge hy, fun _ => ⟨IsB.nil, Nat.zero_le _, rfl⟩, fun _ _ => rfl⟩
      · rw [if_pos hz1]
        have hz2 : headE x.s.most x.s.st f n ≠ 0 := by rw [hH]; exact hz1
        have hT : thE x f n 0 = headE d (pays m.st 1) f n := hH
        have hL : thL x c t f n 0 = [] := by unfold thL; rw [if_neg (by decide), if_neg (by simp), if_pos hz2]
        have hX : thX x (strOfNums (m.hd ++ [b])) f n 0 = x := by unfold thX; rw [if_neg (by decide), if_neg (by simp), if_pos hz2]
        rw [hT, hL, hX]
        exact ⟨rfl, rfl, rel_err h1 h4 hdd hz1⟩
    · rw [if_neg e2, if_pos e0]
      have hT : thE x f n er = er := by unfold thE; rw [if_neg e2, if_pos e0]
      have hL : thL x c t f n er = [] := by unfold thL; rw [if_neg e2, if_pos e0]
      have hX : thX x (strOfNums (m.hd ++ [b])) f n er = x := by unfold thX; rw [if_neg e2, if_pos e0]
      rw [hT, hL, hX]
      exact ⟨rfl, rfl, rel_err h1 h4 hdd e0⟩
/-- A byte of a content: the machine of the code has one fewer to come, then the ends. -/
theorem rel_leaf {d : Nat} {m : EM} {b : Int} {x : CM} (h : Rel d x m) (ho : m.over = 0) (hd0 : m.done = false) (hl : 0 < m.leaf) :
    ([evByte x.p b] ++ if x.n = 1 then [evEnd x.p] else []) ++ popE (pays x.s.st 1) x.p = (m.step d b).2.1 ∧ (m.step d b).1 = 0 ∧
    Rel d ((⟨⟨x.s.most, popS (pays x.s.st 1)⟩, x.c, x.n - 1, x.p, decide (x.n - 1 = 0) && (popS (pays x.s.st 1)).isEmpty, x.er⟩ : CM).next 0) (m.step d b).2.2 := by
  obtain ⟨l1, l2, l3⟩ := h.leaf ho
  have hst := h.st ho
  have hpos := h.pos ho
  obtain ⟨_, _, hc⟩ := h.hd ho
  rw [h.no ho hl] at hc
  by_cases h1 : m.leaf = 1
  · have hs : m.step d b = (0, evByte m.at_ b :: evEnd m.at_ :: popE m.st m.at_, EM.fin m.st (m.at_ + 1)) := by
      unfold EM.step
      rw [if_neg (by simpa using ho), if_neg (by simp [hd0]), if_pos hl, if_pos h1]
    have hst1 : pays x.s.st 1 = m.st := by rw [hst, h1]
    have hn : x.n = 1 := l1.trans h1
    rw [hs, hst1, hn, h.at_]
    refine ⟨rfl, rfl, ?_⟩
    unfold CM.next
    rw [if_pos rfl]
    exact ⟨h.most, rfl, by simp [EM.fin], h.over.trans ho, fun _ => (pays_zero _).symm, fun _ => ⟨rfl, Int.le_refl _, by show (0 : Int) ≤ 2305843009213693951; decide⟩, fun _ y hy => hpos y (popS_mem _ hy), fun _ => ⟨IsB.nil, Nat.zero_le _, hc⟩, fun _ h => absurd h (by show ¬ (0 : Int) < 0; decide)⟩
  · have hs : m.step d b = (0, [evByte m.at_ b], { m with leaf := m.leaf - 1, at_ := m.at_ + 1 }) := by
      unfold EM.step
      rw [if_neg (by simpa using ho), if_neg (by simp [hd0]), if_pos hl, if_neg h1]
    have hn : ¬ x.n = 1 := fun e => h1 (l1.symm.trans e)
    have hn2 : ¬ x.n - 1 = 0 := by omega
    obtain ⟨p1, p2⟩ := pop_stay (l := pays x.s.st 1) x.p (fun y r hy => by
      have : ∃ z q, x.s.st = z :: q ∧ y = z - 1 := by
        cases hx : x.s.st with
        | nil => rw [hx] at hy; cases hy
        | cons z q => rw [hx] at hy; injection hy with hy _; exact ⟨z, q, rfl, hy.symm⟩
      obtain ⟨z, q, hz, rfl⟩ := this
      have := hpos (z - m.leaf) (by rw [hst, hz]; exact List.mem_cons_self ..)
      omega)
    rw [hs, p1, p2, if_neg hn, h.at_]
    refine ⟨rfl, rfl, ?_⟩
    unfold CM.next
    rw [if_pos rfl]
    refine ⟨h.most, rfl, by simp [hn2, hd0], h.over.trans ho |>.trans ho.symm, fun _ => ?_, fun _ => ⟨by show x.n - 1 = m.leaf - 1; rw [l1], by show 0 ≤ m.leaf - 1; omega, by show m.leaf - 1 ≤ _; omega⟩, hpos |> fun q _ => q, fun _ => ⟨(h.hd ho).1, (h.hd ho).2.1, (h.hd ho).2.2⟩, fun _ _ => h.no ho hl⟩
    show m.st = pays (pays x.s.st 1) (m.leaf - 1)
    rw [pays_pays, hst]
    congr 1
    omega
/-- Whether a byte fits. -/
theorem take_fit {s : SS} (h : s.last ≠ 0) : s.takeE = 0 ∧ s.take = ⟨s.most, pays s.st 1⟩ := by
  obtain ⟨most, st⟩ := s
  refine ⟨by unfold SS.takeE; rw [if_neg h], ?_⟩
  cases st with
  | nil => rfl
  | cons x r => exact if_neg h
theorem take_full {s : SS} (h : s.last = 0) : s.takeE = 5 ∧ s.take = s := by
  obtain ⟨most, st⟩ := s
  refine ⟨by unfold SS.takeE; rw [if_pos h], ?_⟩
  cases st with
  | nil => rfl
  | cons x r => exact if_pos h
end Go.Proofs.Ytagigdefghnnhaa
