/- What the landed code's take gives: the part of an event, and what it leaves in memory. Of every grammar in which nothing was wrong, and every event that can come. -/
import Derived.Test.YtiiimhamfibdbaaM5
import Derived.Test.YtiiimhamfibdbaaE1
namespace Go.Proofs.Ytiiimhamfibdbaa
open Go.RowKit Go.PlainAid
set_option linter.unusedVariables false
theorem scanP_some {v : Bool} {c t : Int} {f : Bool} {n : Int} : ∀ {l : List GPl} {i i' : Nat} {x : Int}, scanP v c t f n i l = some (i', x) → fitsG x c t f n = true ∧ mayP v x = true ∧ ∃ q ∈ l, q.1 = x := by
 intro l
 induction l with
 |nil => intro i i' x h; cases h
 |cons q r ih =>
  intro i i' x h
  rw [scanP] at h
  split at h
  ·rename_i hq
   injection h with h
   simp only [Prod.mk.injEq] at h
   obtain ⟨_, rfl⟩ := h
   exact ⟨hq.1, hq.2, q, List.mem_cons_self .., rfl⟩
  ·split at h
   ·cases h
   ·obtain ⟨h1, h2, q', h3, h4⟩ := ih h
    exact ⟨h1, h2, q', List.mem_cons_of_mem _ h3, h4⟩
theorem GS.head_lv (s : GS) (c t : Int) (f : Bool) (n : Int) : (s.head c t f n).leaf = s.leaf ∧ (s.head c t f n).ver = s.ver := by
 unfold GS.head
 split
 ·exact ⟨rfl, rfl⟩
 ·split <;> exact ⟨rfl, rfl⟩
theorem GS.head_code {s : GS} {o : GO} {r : List GO} {i : Nat} (ho : s.op = o :: r) (hp : PlAt o i) (hv : VerP s.op s.ver) (c t : Int) (f : Bool) (n : Int) :
  (scanP s.ver c t f n i ((rowP o.p).drop i) = none → (s.head c t f n).part = 0) ∧
  (∀ i' x, scanP s.ver c t f n i ((rowP o.p).drop i) = some (i', x) → (s.head c t f n).part = x ∧ x ≠ 0 ∧ fitsG x c t f n = true ∧ (x = 21 → s.ver = true) ∧ ∃ k', (s.head c t f n).op = ⟨o.p, k', true⟩ :: r ∧ PlAt ⟨o.p, k', true⟩ i') := by
 have hc := hp.head s.ver (hv o (by rw [ho]; exact List.mem_cons_self ..)) c t f n
 have hd : s.head c t f n = match scanG c t f n o.came o.k ((rowG o.p).drop o.k) with
   |none => { s with part := 0 }
   |some (k, p) => { s with op := ⟨o.p, k, true⟩ :: r, part := if s.ver = false ∧ (p = 21 ∨ p = 17 ∧ o.p = 14) then 0 else p } := by
  unfold GS.head; rw [ho]; rfl
 cases hq : scanG c t f n o.came o.k ((rowG o.p).drop o.k) with
 |none =>
  rw [hq] at hc hd
  refine ⟨fun _ => by rw [hd], fun i' x h => ?_⟩
  have hc : scanP s.ver c t f n i ((rowP o.p).drop i) = none := hc
  rw [hc] at h; cases h
 |some y =>
  obtain ⟨k, p⟩ := y
  rw [hq] at hc hd
  have hc : if s.ver = false ∧ (p = 21 ∨ p = 17 ∧ o.p = 14) then scanP s.ver c t f n i ((rowP o.p).drop i) = none else ∃ i', scanP s.ver c t f n i ((rowP o.p).drop i) = some (i', p) ∧ PlAt ⟨o.p, k, true⟩ i' := hc
  have hd : s.head c t f n = { s with op := ⟨o.p, k, true⟩ :: r, part := if s.ver = false ∧ (p = 21 ∨ p = 17 ∧ o.p = 14) then 0 else p } := hd
  by_cases hx : s.ver = false ∧ (p = 21 ∨ p = 17 ∧ o.p = 14)
  ·rw [if_pos hx] at hc
   refine ⟨fun _ => by rw [hd]; exact if_pos hx, fun i' x h => ?_⟩
   rw [hc] at h; cases h
  ·rw [if_neg hx] at hc
   obtain ⟨i0, h1, h2⟩ := hc
   refine ⟨fun h => (by rw [h1] at h; cases h), fun i' x h => ?_⟩
   rw [h1] at h
   injection h with h
   simp only [Prod.mk.injEq] at h
   obtain ⟨rfl, rfl⟩ := h
   obtain ⟨g1, g2, q, g3, g4⟩ := scanP_some h1
   have hq1 := (rowP_one o.p q (List.mem_of_mem_drop g3)).1
   refine ⟨by rw [hd]; exact if_neg hx, by omega, g1, fun h21 => ?_, k, by rw [hd], h2⟩
   subst h21
   cases hs : s.ver
   ·rw [hs] at g2; cases g2
   ·rfl
theorem fits3_cons (c t n : Int) : fitsG 3 c t true n = false := by
 by_cases hc : c = 0 <;> simp [fitsG, rowG, hc]
def TkEnd (w : World) (k : Nat) (F : Nat → Prop) (s : GS) (e : Ev) (r : Ending) (w' : World) : Prop :=
 ∃ (q : Int) (ok : Bool) (F' : Nat → Prop), r = .returned (.tuple #[.int .i64 q, .bool ok]) ∧ (ok = true → (s.push e).part = q ∧ q ≠ 0 ∧ ∃ g c E, GmOn w' k F' (s.push e) g c E) ∧ (ok = false → (s.push e).part = 0 ∧ ∃ a b d, Row w' k 47 [a, b, d, .int .i64 0]) ∧
  F' k ∧ (∀ i, F' i → F i ∨ w.heap.size ≤ i) ∧ (∀ i, F' i → i < w'.heap.size) ∧ Chg F w w'
theorem GmOn.parts {w : World} {k : Nat} {F : Nat → Prop} {s : GS} {g c : Nat} {E : List GPl} (h : GmOn w k F s g c E) (hne : s.op ≠ []) : ∃ (o : GO) (r : List GO) (m : List GPl) (i : Nat), s.op = o :: r ∧ E = (o.p, (i : Int)) :: m ∧ PlAt o i ∧ OpP r m := by
 have ho := h.op
 cases hs : s.op with
 |nil => exact absurd hs hne
 |cons o r =>
  rw [hs] at ho
  cases E with
  |nil => exact ho.elim
  |cons q m =>
   obtain ⟨q1, q2⟩ := q
   obtain ⟨h1, ⟨i, h2, h3⟩, h4⟩ := ho
   have h1 : q1 = o.p := h1
   have h2 : q2 = (i : Int) := h2
   subst h1 h2
   exact ⟨o, r, m, i, rfl, rfl, h3, h4⟩
theorem TopP.same {o o' : GO} {r : List GO} (h : TopP (o :: r)) (hp : o'.p = o.p) : TopP (o' :: r) := by
 cases r with
 |nil => show o'.p = 0; rw [hp]; exact h
 |cons a b => exact ⟨by rw [hp]; exact h.1, h.2⟩
theorem push1 {s : GS} {e : Ev} (hk : e.k = 1) : s.push e = { s.head e.c e.t e.f e.n with op := ⟨(s.head e.c e.t e.f e.n).part, 0, false⟩ :: (s.head e.c e.t e.f e.n).op } := by unfold GS.push; rw [if_pos hk]
theorem push2 {s : GS} {e : Ev} (hk : e.k = 2) : s.push e = { s.head e.c e.t e.f e.n with leaf := (s.head e.c e.t e.f e.n).part, ver := s.ver || decide ((s.head e.c e.t e.f e.n).part = 3) } := by unfold GS.push; rw [if_neg (by omega), if_pos hk]
theorem enter_ok {s : GS} {e : Ev} {o : GO} {r : List GO} {i i' : Nat} {m : List GPl} {x : Int} (hk : e.k = 1) (hf : e.f = true) (ho : s.op = o :: r) (hp : PlAt o i) (hop : OpP r m) (hv : VerP s.op s.ver) (ht : TopP s.op) (hs : scanP s.ver e.c e.t e.f e.n i ((rowP o.p).drop i) = some (i', x)) :
  (s.push e).part = x ∧ x ≠ 0 ∧ (s.push e).leaf = s.leaf ∧ (s.push e).ver = s.ver ∧ (s.ver || decide (x = 3)) = s.ver ∧ OpP (s.push e).op ((x, 0) :: (o.p, (i' : Int)) :: m) ∧ TopP (s.push e).op ∧ VerP (s.push e).op (s.push e).ver := by
 obtain ⟨h1, h2, h3, h4, k', h5, h6⟩ := (GS.head_code ho hp hv e.c e.t e.f e.n).2 i' x hs
 obtain ⟨h7, h8⟩ := GS.head_lv s e.c e.t e.f e.n
 have hx3 : x ≠ 3 := by
  rintro rfl
  rw [hf, fits3_cons] at h3; cases h3
 have hop2 : (s.push e).op = ⟨x, 0, false⟩ :: ⟨o.p, k', true⟩ :: r := by rw [push1 hk]; show GO.mk (s.head e.c e.t e.f e.n).part 0 false :: (s.head e.c e.t e.f e.n).op = _; rw [h1, h5]
 have hver : (s.push e).ver = s.ver := by rw [push1 hk]; exact h8
 refine ⟨by rw [push1 hk]; exact h1, h2, by rw [push1 hk]; exact h7, hver, by rw [decide_eq_false hx3, Bool.or_false], ?_, ?_, ?_⟩
 ·rw [hop2]
  exact ⟨rfl, ⟨0, rfl, plAt_zero x⟩, rfl, ⟨i', rfl, h6⟩, hop⟩
 ·rw [hop2]
  rw [ho] at ht
  exact ⟨h2, ht.same rfl⟩
 ·rw [hop2, hver]
  intro z hz hz2
  rcases List.mem_cons.1 hz with rfl | hz
  ·exact h4 hz2
  ·rcases List.mem_cons.1 hz with rfl | hz
   ·exact hv o (by rw [ho]; exact List.mem_cons_self ..) hz2
   ·exact hv z (by rw [ho]; exact List.mem_cons_of_mem _ hz) hz2
theorem leaf_ok {s : GS} {e : Ev} {o : GO} {r : List GO} {i i' : Nat} {m : List GPl} {x : Int} (hk : e.k = 2) (ho : s.op = o :: r) (hp : PlAt o i) (hop : OpP r m) (hv : VerP s.op s.ver) (ht : TopP s.op) (hs : scanP s.ver e.c e.t e.f e.n i ((rowP o.p).drop i) = some (i', x)) :
  (s.push e).part = x ∧ x ≠ 0 ∧ (s.push e).leaf = x ∧ (s.push e).ver = (s.ver || decide (x = 3)) ∧ OpP (s.push e).op ((o.p, (i' : Int)) :: m) ∧ TopP (s.push e).op ∧ VerP (s.push e).op (s.push e).ver := by
 obtain ⟨h1, h2, h3, h4, k', h5, h6⟩ := (GS.head_code ho hp hv e.c e.t e.f e.n).2 i' x hs
 obtain ⟨h7, h8⟩ := GS.head_lv s e.c e.t e.f e.n
 have hop2 : (s.push e).op = ⟨o.p, k', true⟩ :: r := by rw [push2 hk]; exact h5
 have hver : (s.push e).ver = (s.ver || decide (x = 3)) := by rw [push2 hk]; show (s.ver || decide ((s.head e.c e.t e.f e.n).part = 3)) = _; rw [h1]
 refine ⟨by rw [push2 hk]; exact h1, h2, by rw [push2 hk]; exact h1, hver, ?_, ?_, ?_⟩
 ·rw [hop2]
  exact ⟨rfl, ⟨i', rfl, h6⟩, hop⟩
 ·rw [hop2]
  rw [ho] at ht
  exact ht.same rfl
 ·rw [hop2, hver]
  intro z hz hz2
  have : s.ver = true := by
   rcases List.mem_cons.1 hz with rfl | hz
   ·exact hv o (by rw [ho]; exact List.mem_cons_self ..) hz2
   ·exact hv z (by rw [ho]; exact List.mem_cons_of_mem _ hz) hz2
  rw [this]; rfl
theorem head_no {s : GS} {e : Ev} {o : GO} {r : List GO} {i : Nat} (hk : e.k = 1 ∨ e.k = 2) (ho : s.op = o :: r) (hp : PlAt o i) (hv : VerP s.op s.ver) (hs : scanP s.ver e.c e.t e.f e.n i ((rowP o.p).drop i) = none) : (s.push e).part = 0 := by
 have h := (GS.head_code ho hp hv e.c e.t e.f e.n).1 hs
 rcases hk with hk | hk
 ·rw [push1 hk]; exact h
 ·rw [push2 hk]; exact h
theorem BgEnd.all {w w' : World} {k g c N i : Nat} {F : Nat → Prop} {p leaf : Int} {v : Bool} {m : List GPl} {R : Option (Nat × Int)} {e : Ending} (hN : m.length = N)
  (hr : Row w k 47 (gmC (.slice (some ⟨g, 0, none⟩) (N + 1) c) leaf v 0)) (hs : PlS 44 w 0 (.slice (some ⟨g, 0, none⟩) (N + 1) c) ((p, (i : Int)) :: m).reverse) (h : BgEnd w k g (.slice (some ⟨g, 0, none⟩) (N + 1) c) F p leaf v m R e w') :
  ∃ (q : Int) (ok told : Bool) (y : Int), e = .returned (.tuple #[.int .i64 q, .bool ok]) ∧ Row w' k 47 (gmC (.slice (some ⟨g, 0, none⟩) (N + 1) c) leaf told 0) ∧ PlS 44 w' 0 (.slice (some ⟨g, 0, none⟩) (N + 1) c) ((p, y) :: m).reverse ∧ Chg F w w' ∧
   (ok = true → ∃ i' : Nat, R = some (i', q) ∧ told = (v || decide (q = 3)) ∧ y = (i' : Int)) ∧ (ok = false → R = none) := by
 cases R with
 |none =>
  obtain ⟨h1, h2⟩ := h
  exact ⟨0, false, v, (i : Int), h1, hr.below h2 hr.lt, hs.below h2, Chg.of_below h2, fun h => (by cases h), fun _ => rfl⟩
 |some z =>
  obtain ⟨i', x⟩ := z
  obtain ⟨h1, h2, h3, h4⟩ := h
  exact ⟨x, true, _, (i' : Int), h1, h2, h3, h4, fun _ => ⟨i', rfl, rfl, rfl⟩, fun h => (by cases h)⟩
end Go.Proofs.Ytiiimhamfibdbaa
/- What the landed code's take gives of an event that enters. -/
namespace Go.Proofs.Ytiiimhamfibdbaa
open Go.RowKit Go.PlainAid
set_option linter.unusedVariables false
set_option maxRecDepth 100000 in
set_option maxHeartbeats 16000000 in
theorem take_enter_any {w : World} {k : Nat} {F : Nat → Prop} {s : GS} {g c : Nat} {E : List GPl} (hF : ∀ i, F i → i < w.heap.size) (h : GmOn w k F s g c E) (hne : s.op ≠ []) (hl : (s.op.length : Int) ≤ 65) (e : Ev) (hk : e.k = 1) (hf : e.f = true) :
  Calls Try.prog 13 #[.pointer (some ⟨k, 0, none⟩), evV e] w fun r w' => TkEnd w k F s e r w' := by
 obtain ⟨o, r, m, i, ho, rfl, hp, hop⟩ := h.parts hne
 have hml := hop.length
 have hlr : (r.length : Int) + 1 ≤ 65 := by rw [ho] at hl; simpa using hl
 obtain ⟨N, hN⟩ : ∃ N, m.length = N := ⟨_, rfl⟩
 have hN9 : N ≤ 100 := by omega
 have hlen : ((o.p, (i : Int)) :: m).length = N + 1 := by rw [List.length_cons, hN]
 have hrow := h.row
 have hels := h.els
 rw [hlen] at hrow hels
 obtain ⟨R, hR⟩ : ∃ R, scanP s.ver e.c e.t e.f e.n i ((rowP o.p).drop i) = R := ⟨_, rfl⟩
 have HOK : Hid (∀ i' x, R = some (i', x) → (s.push e).part = x ∧ x ≠ 0 ∧ (s.push e).leaf = s.leaf ∧ (s.push e).ver = s.ver ∧ (s.ver || decide (x = 3)) = s.ver ∧ OpP (s.push e).op ((x, 0) :: (o.p, (i' : Int)) :: m) ∧ TopP (s.push e).op ∧ VerP (s.push e).op (s.push e).ver) := Lib.hid (fun i' x hx => enter_ok hk hf ho hp hop h.ver h.top (hR.trans hx))
 have HNO : Hid (R = none → (s.push e).part = 0) := Lib.hid (fun hx => head_no (.inl hk) ho hp h.ver (hR.trans hx))
 have HH := Lib.hid h
 have HF := Lib.hid hF
 have HR := Lib.hid hrow
 have HS := Lib.hid hels
 have HBG := Lib.hid (fun (W : World) h1 h2 => gBegin_any (w := W) (c := c) (leaf := s.leaf) hN h.fk h.fg h.ne h1 h2 hN9 hp.1 e.c e.t e.f e.n hR)
 have hev : evV e = .agg #[.int .i64 1, .int .i64 e.at_, .int .i64 e.c, .int .i64 e.t, .bool e.f, .int .i64 e.n, .int .u8 e.b] := by unfold evV; rw [hk]
 have hec : evC e = [.int .i64 1, .int .i64 e.at_, .int .i64 e.c, .int .i64 e.t, .bool e.f, .int .i64 e.n, .int .u8 e.b] := by unfold evC; rw [hk]
 rw [hev]
 clear hrow hels hev hec hF
 obtain ⟨x1, hx1⟩ : ∃ x, e.at_ = x := ⟨_, rfl⟩
 obtain ⟨x2, hx2⟩ : ∃ x, e.c = x := ⟨_, rfl⟩
 obtain ⟨x3, hx3⟩ : ∃ x, e.t = x := ⟨_, rfl⟩
 obtain ⟨x4, hx4⟩ : ∃ x, e.f = x := ⟨_, rfl⟩
 obtain ⟨x5, hx5⟩ : ∃ x, e.n = x := ⟨_, rfl⟩
 obtain ⟨x6, hx6⟩ : ∃ x, e.b = x := ⟨_, rfl⟩
 rw [hx2, hx3, hx4, hx5] at HBG
 rw [hx1, hx2, hx3, hx4, hx5, hx6]
 clear hx1 hx2 hx3 hx4 hx5 hx6 hp h hR hf
 go_enter Try.func13, Try.ntmps13
 have hb1 : Below w.heap.size w (w.alloc (.cells #[.int .i64 1, .int .i64 x1, .int .i64 x2, .int .i64 x3, .bool x4, .int .i64 x5, .int .u8 x6] 34)) := (Below.refl _ _).alloc (Nat.le_refl _) _
 have HX : Hid (Row (w.alloc (.cells #[.int .i64 1, .int .i64 x1, .int .i64 x2, .int .i64 x3, .bool x4, .int .i64 x5, .int .u8 x6] 34)) w.heap.size 34 [.int .i64 1, .int .i64 x1, .int .i64 x2, .int .i64 x3, .bool x4, .int .i64 x5, .int .u8 x6]) := Lib.hid (Row.new w _ _)
 have HR1 := Lib.hid (HR.out.below hb1 HR.out.lt)
 have HS1 := Lib.hid (HS.out.below hb1)
 have HC1 : Hid (Chg F w (w.alloc (.cells #[.int .i64 1, .int .i64 x1, .int .i64 x2, .int .i64 x3, .bool x4, .int .i64 x5, .int .u8 x6] 34))) := Lib.hid (Chg.of_below hb1)
 clear hb1 HR HS
 go_upto_region 3 with (fail)
 generalize w.alloc (.cells #[.int .i64 1, .int .i64 x1, .int .i64 x2, .int .i64 x3, .bool x4, .int .i64 x5, .int .u8 x6] 34) = W1 at *
 have HBG1 := Lib.hid (HBG.out W1 HR1.out HS1.out)
 have y2 : W1.cell? ⟨w.heap.size, 2, none⟩ = some (.int .i64 x2) := HX.out.cell 2
 have y3 : W1.cell? ⟨w.heap.size, 3, none⟩ = some (.int .i64 x3) := HX.out.cell 3
 have y4 : W1.cell? ⟨w.heap.size, 4, none⟩ = some (.bool x4) := HX.out.cell 4
 have y5 : W1.cell? ⟨w.heap.size, 5, none⟩ = some (.int .i64 x5) := HX.out.cell 5
 clear HBG
 go_wp2_with fail
 refine HBG1.out.mono ?_
 intro e3 w3 h3
 obtain ⟨q, ok, told, y, rfl, hr3, hs3, hc3, hok, hno⟩ := BgEnd.all hN HR1.out HS1.out h3
 have HR3 := Lib.hid hr3
 have HS3 := Lib.hid hs3
 have HC3 : Hid (Chg F w w3) := Lib.hid (HC1.out.trans hc3 (fun i hi => .inl hi))
 have HT := Lib.hid hok
 have HU := Lib.hid hno
 clear hr3 hs3 hc3 hok hno h3 HBG1 HR1 HS1 HX y2 y3 y4 y5
 have k0 : w3.cell? ⟨k, 0, none⟩ = some (.slice (some ⟨g, 0, none⟩) (N + 1) c) := by rw [HR3.out.cell]; rfl
 have hbb : Below w3.heap.size w3 (w3.alloc (.cells #[.int .i64 q, .int .i64 0] 44)) := (Below.refl _ _).alloc (Nat.le_refl _) _
 have HE4 : Hid (Row (w3.alloc (.cells #[.int .i64 q, .int .i64 0] 44)) w3.heap.size 44 (plC (q, 0))) := Lib.hid (Row.new w3 _ _)
 have HS4 := Lib.hid (HS3.out.below hbb)
 have HR4 := Lib.hid (HR3.out.below hbb HR3.out.lt)
 have HC4 : Hid (Chg F w (w3.alloc (.cells #[.int .i64 q, .int .i64 0] 44))) := Lib.hid (HC3.out.trans (Chg.of_below hbb : Chg F _ _) (fun i hi => .inl hi))
 clear hbb
 go_wp2_with (refine wpList_append_el rfl (.tmp 25) (.tmp 28) rfl (q, 0) rfl rfl HS4.out HE4.out (by omega) ?_)
 intro g' c' w5 hs5 hg5 hgr5
 have hkg : g ≠ k := HH.out.ne
 have HR5 := Lib.hid (HR4.out.grown hgr5 (by intro e; injection e with e; exact hkg e.symm))
 have HC5 : Hid (Chg F w w5) := Lib.hid (HC4.out.trans (⟨hgr5.os, hgr5.tape, hgr5.output, hgr5.size, fun j hj hn => hgr5.block j hj (fun e => by injection e with e; subst e; exact hn HH.out.fg)⟩ : Chg F _ w5) (fun i hi => .inl hi))
 have hg6 : g' ≠ k ∧ (g' = g ∨ w.heap.size ≤ g') ∧ g' < w5.heap.size := by
  have h1 := HR4.out.lt
  have h2 : w.heap.size ≤ (w3.alloc (.cells #[.int .i64 q, .int .i64 0] 44)).heap.size := HC4.out.size
  have h3 := (hs5.ob (b := g') rfl).2
  have h4 : (w3.alloc (.cells #[.int .i64 q, .int .i64 0] 44)).heap.size = w3.heap.size + 1 := by simp
  rcases hg5 with rfl | h
  ·exact ⟨hkg, .inl rfl, h3⟩
  ·exact ⟨by omega, .inr (by omega), h3⟩
 have HS5 := Lib.hid hs5
 have f0 := HR5.out.frozen 0
 have k0' : w5.cell? ⟨k, 0, none⟩ = some (.slice (some ⟨g, 0, none⟩) (N + 1) c) := by rw [HR5.out.cell]; rfl
 clear hs5 hgr5 HS4 HR4 HC4 HE4 HR3 HS3 HC3 HC1 k0 hg5
 go_wp2
 have HR6 : Hid (Row (w5.setCell ⟨k, 0, none⟩ (.slice (some ⟨g', 0, none⟩) (N + 1 + 1) c')) k 47 (gmC (.slice (some ⟨g', 0, none⟩) (N + 1 + 1) c') s.leaf told 0)) := Lib.hid (HR5.out.set 0 _)
 have HS6 := Lib.hid (HS5.out.keep (w' := w5.setCell ⟨k, 0, none⟩ (.slice (some ⟨g', 0, none⟩) (N + 1 + 1) c')) (fun z hz => by injection hz with hz; have hz : g' = z := hz; subst hz; exact heap_setCell_other _ _ _ _ hg6.1))
 have HC6 := Lib.hid (HC5.out.setAt HH.out.fk 0 (.slice (some ⟨g', 0, none⟩) (N + 1 + 1) c'))
 have hsz : (w5.setCell ⟨k, 0, none⟩ (.slice (some ⟨g', 0, none⟩) (N + 1 + 1) c')).heap.size = w5.heap.size := by simp
 go_returns
 refine ⟨q, ok, fun j => F j ∨ j = g', rfl, fun h => ?_, fun h => ⟨HNO.out (HU.out h), _, _, _, HR6.out⟩, .inl HH.out.fk, fun j hj => ?_, fun j hj => ?_, HC6.out⟩
 ·obtain ⟨i', hi1, hi2, hi3⟩ := HT.out h
  obtain ⟨g1, g2, g3, g4, g5, g7, g8, g9⟩ := HOK.out i' q hi1
  refine ⟨g1, g2, g', c', (q, 0) :: (o.p, (i' : Int)) :: m, ?_, ?_, .inl HH.out.fk, .inr rfl, hg6.1, g7, g8, g9⟩
  ·have h := HR6.out
   rw [hi2, g5] at h
   rw [g3, g4, List.length_cons, List.length_cons, hN]
   exact h
  ·have h := HS6.out
   rw [hi3] at h
   rw [List.length_cons, List.length_cons, hN, List.reverse_cons, List.reverse_cons, List.append_assoc]
   first | exact h | (rw [List.reverse_cons, List.append_assoc] at h; exact h)
 ·rcases hj with hj | rfl
  ·exact .inl hj
  ·rcases hg6.2.1 with rfl | h
   ·exact .inl HH.out.fg
   ·exact .inr h
 ·have h1 := HC5.out.size
  rcases hj with hj | rfl
  ·have := HF.out j hj; rw [hsz]; omega
  ·rw [hsz]; exact hg6.2.2
end Go.Proofs.Ytiiimhamfibdbaa
/- What the landed code's take gives of an event that is a leaf's head, a byte, an end, an exit; and of any. -/
namespace Go.Proofs.Ytiiimhamfibdbaa
open Go.RowKit Go.PlainAid
set_option linter.unusedVariables false
set_option maxRecDepth 100000 in
set_option maxHeartbeats 16000000 in
theorem take_leaf_any {w : World} {k : Nat} {F : Nat → Prop} {s : GS} {g c : Nat} {E : List GPl} (hF : ∀ i, F i → i < w.heap.size) (h : GmOn w k F s g c E) (hne : s.op ≠ []) (hl : (s.op.length : Int) ≤ 65) (e : Ev) (hk : e.k = 2) :
  Calls Try.prog 13 #[.pointer (some ⟨k, 0, none⟩), evV e] w fun r w' => TkEnd w k F s e r w' := by
 obtain ⟨o, r, m, i, ho, rfl, hp, hop⟩ := h.parts hne
 have hml := hop.length
 have hlr : (r.length : Int) + 1 ≤ 65 := by rw [ho] at hl; simpa using hl
 obtain ⟨N, hN⟩ : ∃ N, m.length = N := ⟨_, rfl⟩
 have hN9 : N ≤ 100 := by omega
 have hlen : ((o.p, (i : Int)) :: m).length = N + 1 := by rw [List.length_cons, hN]
 have hrow := h.row
 have hels := h.els
 rw [hlen] at hrow hels
 obtain ⟨R, hR⟩ : ∃ R, scanP s.ver e.c e.t e.f e.n i ((rowP o.p).drop i) = R := ⟨_, rfl⟩
 have HOK : Hid (∀ i' x, R = some (i', x) → (s.push e).part = x ∧ x ≠ 0 ∧ (s.push e).leaf = x ∧ (s.push e).ver = (s.ver || decide (x = 3)) ∧ OpP (s.push e).op ((o.p, (i' : Int)) :: m) ∧ TopP (s.push e).op ∧ VerP (s.push e).op (s.push e).ver) := Lib.hid (fun i' x hx => leaf_ok hk ho hp hop h.ver h.top (hR.trans hx))
 have HNO : Hid (R = none → (s.push e).part = 0) := Lib.hid (fun hx => head_no (.inr hk) ho hp h.ver (hR.trans hx))
 have HH := Lib.hid h
 have HF := Lib.hid hF
 have HR := Lib.hid hrow
 have HS := Lib.hid hels
 have HBG := Lib.hid (fun (W : World) h1 h2 => gBegin_any (w := W) (c := c) (leaf := s.leaf) hN h.fk h.fg h.ne h1 h2 hN9 hp.1 e.c e.t e.f e.n hR)
 clear hrow hels hF hp h hR
 have hev : evV e = .agg #[.int .i64 2, .int .i64 e.at_, .int .i64 e.c, .int .i64 e.t, .bool e.f, .int .i64 e.n, .int .u8 e.b] := by unfold evV; rw [hk]
 rw [hev]
 clear hev
 obtain ⟨x1, hx1⟩ : ∃ x, e.at_ = x := ⟨_, rfl⟩
 obtain ⟨x2, hx2⟩ : ∃ x, e.c = x := ⟨_, rfl⟩
 obtain ⟨x3, hx3⟩ : ∃ x, e.t = x := ⟨_, rfl⟩
 obtain ⟨x4, hx4⟩ : ∃ x, e.f = x := ⟨_, rfl⟩
 obtain ⟨x5, hx5⟩ : ∃ x, e.n = x := ⟨_, rfl⟩
 obtain ⟨x6, hx6⟩ : ∃ x, e.b = x := ⟨_, rfl⟩
 rw [hx2, hx3, hx4, hx5] at HBG
 rw [hx1, hx2, hx3, hx4, hx5, hx6]
 clear hx1 hx2 hx3 hx4 hx5 hx6
 go_enter Try.func13, Try.ntmps13
 have hb1 : Below w.heap.size w (w.alloc (.cells #[.int .i64 2, .int .i64 x1, .int .i64 x2, .int .i64 x3, .bool x4, .int .i64 x5, .int .u8 x6] 34)) := (Below.refl _ _).alloc (Nat.le_refl _) _
 have HX : Hid (Row (w.alloc (.cells #[.int .i64 2, .int .i64 x1, .int .i64 x2, .int .i64 x3, .bool x4, .int .i64 x5, .int .u8 x6] 34)) w.heap.size 34 [.int .i64 2, .int .i64 x1, .int .i64 x2, .int .i64 x3, .bool x4, .int .i64 x5, .int .u8 x6]) := Lib.hid (Row.new w _ _)
 have HH1 := Lib.hid (HH.out.aside (Chg.of_below hb1 : Chg (fun _ => False) w _) (fun _ _ h => h))
 have HC1 : Hid (Chg F w (w.alloc (.cells #[.int .i64 2, .int .i64 x1, .int .i64 x2, .int .i64 x3, .bool x4, .int .i64 x5, .int .u8 x6] 34))) := Lib.hid (Chg.of_below hb1)
 have HR1 := Lib.hid (HR.out.below hb1 HR.out.lt)
 have HS1 := Lib.hid (HS.out.below hb1)
 clear HR HS
 clear hb1 HH
 go_upto_region 7 with (fail)
 generalize w.alloc (.cells #[.int .i64 2, .int .i64 x1, .int .i64 x2, .int .i64 x3, .bool x4, .int .i64 x5, .int .u8 x6] 34) = W1 at *
 have HBG1 := Lib.hid (HBG.out W1 HR1.out HS1.out)
 have y2 : W1.cell? ⟨w.heap.size, 2, none⟩ = some (.int .i64 x2) := HX.out.cell 2
 have y3 : W1.cell? ⟨w.heap.size, 3, none⟩ = some (.int .i64 x3) := HX.out.cell 3
 have y4 : W1.cell? ⟨w.heap.size, 4, none⟩ = some (.bool x4) := HX.out.cell 4
 have y5 : W1.cell? ⟨w.heap.size, 5, none⟩ = some (.int .i64 x5) := HX.out.cell 5
 clear HBG
 go_wp2_with fail
 refine HBG1.out.mono ?_
 intro e3 w3 h3
 obtain ⟨q, ok, told, y, rfl, hr3, hs3, hc3, hok, hno⟩ := BgEnd.all hN HR1.out HS1.out h3
 have HR3 := Lib.hid hr3
 have HS3 := Lib.hid hs3
 have HC3 : Hid (Chg F w w3) := Lib.hid (HC1.out.trans hc3 (fun i hi => .inl hi))
 have HT := Lib.hid hok
 have HU := Lib.hid hno
 clear hr3 hs3 hc3 hok hno h3 HBG1 HR1 HS1 HX y2 y3 y4 y5 HC1
 have k1 : w3.cell? ⟨k, 1, none⟩ = some (.int .i64 s.leaf) := by rw [HR3.out.cell]; rfl
 have f1 := HR3.out.frozen 1
 go_wp2
 have HR6 : Hid (Row (w3.setCell ⟨k, 1, none⟩ (.int .i64 q)) k 47 (gmC (.slice (some ⟨g, 0, none⟩) (N + 1) c) q told 0)) := Lib.hid (HR3.out.set 1 _)
 have HS6 := Lib.hid (HS3.out.keep (w' := w3.setCell ⟨k, 1, none⟩ (.int .i64 q)) (fun z hz => by injection hz with hz; have hz : g = z := hz; subst hz; exact heap_setCell_other _ _ _ _ HH1.out.ne))
 have HC6 := Lib.hid (HC3.out.setAt HH1.out.fk 1 (.int .i64 q))
 have hsz : (w3.setCell ⟨k, 1, none⟩ (.int .i64 q)).heap.size = w3.heap.size := by simp
 go_returns
 refine ⟨q, ok, F, rfl, fun h => ?_, fun h => ⟨HNO.out (HU.out h), _, _, _, HR6.out⟩, HH1.out.fk, fun j hj => .inl hj, fun j hj => ?_, HC6.out⟩
 ·obtain ⟨i', hi1, hi2, hi3⟩ := HT.out h
  obtain ⟨g1, g2, g3, g4, g7, g8, g9⟩ := HOK.out i' q hi1
  refine ⟨g1, g2, g, c, (o.p, (i' : Int)) :: m, ?_, ?_, HH1.out.fk, HH1.out.fg, HH1.out.ne, g7, g8, g9⟩
  ·have h := HR6.out
   rw [hi2] at h
   rw [g3, g4, List.length_cons, hN]
   exact h
  ·have h := HS6.out
   rw [hi3] at h
   rw [List.length_cons, hN]
   exact h
 ·have h1 := HC3.out.size
  have := HF.out j hj
  rw [hsz]; omega
theorem push3 {s : GS} {e : Ev} (hk : e.k = 3) : s.push e = { s with part := if s.leaf = 3 ∧ e.b ≠ 1 ∨ s.leaf = 19 ∧ e.b ≠ 255 then 0 else s.leaf } := by unfold GS.push; rw [if_neg (by omega), if_neg (by omega), if_pos hk]
theorem push4 {s : GS} {e : Ev} (hk : e.k = 4) : s.push e = { s with part := s.leaf } := by unfold GS.push; rw [if_neg (by omega), if_neg (by omega), if_neg (by omega), if_pos hk]
theorem GmOn.part {w : World} {k : Nat} {F : Nat → Prop} {s : GS} {g c : Nat} {E : List GPl} (h : GmOn w k F s g c E) (x : Int) : GmOn w k F { s with part := x } g c E := ⟨h.row, h.els, h.fk, h.fg, h.ne, h.op, h.top, h.ver⟩
set_option maxRecDepth 100000 in
set_option maxHeartbeats 16000000 in
theorem take_byte_any {w : World} {k : Nat} {F : Nat → Prop} {s : GS} {g c : Nat} {E : List GPl} (hF : ∀ i, F i → i < w.heap.size) (h : GmOn w k F s g c E) (hne : s.op ≠ []) (hl : (s.op.length : Int) ≤ 65) (e : Ev) (hk : e.k = 3) (hc : s.leaf ≠ 0) :
  Calls Try.prog 13 #[.pointer (some ⟨k, 0, none⟩), evV e] w fun r w' => TkEnd w k F s e r w' := by
 have HOK : Hid (canB s.leaf e.b = true → s.push e = { s with part := s.leaf }) := Lib.hid (fun hq => by
  rw [push3 hk]
  have : ¬ (s.leaf = 3 ∧ e.b ≠ 1 ∨ s.leaf = 19 ∧ e.b ≠ 255) := by unfold canB at hq; rw [Bool.not_eq_true'] at hq; exact of_decide_eq_false hq
  rw [if_neg this])
 have HNO : Hid (canB s.leaf e.b = false → (s.push e).part = 0) := Lib.hid (fun hq => by
  rw [push3 hk]
  have : s.leaf = 3 ∧ e.b ≠ 1 ∨ s.leaf = 19 ∧ e.b ≠ 255 := by unfold canB at hq; rw [Bool.not_eq_false'] at hq; exact of_decide_eq_true hq
  show (if _ then (0 : Int) else _) = 0
  rw [if_pos this])
 have HH := Lib.hid h
 have HF := Lib.hid hF
 clear h hF
 have hev : evV e = .agg #[.int .i64 3, .int .i64 e.at_, .int .i64 e.c, .int .i64 e.t, .bool e.f, .int .i64 e.n, .int .u8 e.b] := by unfold evV; rw [hk]
 rw [hev]
 clear hev
 obtain ⟨x1, hx1⟩ : ∃ x, e.at_ = x := ⟨_, rfl⟩
 obtain ⟨x2, hx2⟩ : ∃ x, e.c = x := ⟨_, rfl⟩
 obtain ⟨x3, hx3⟩ : ∃ x, e.t = x := ⟨_, rfl⟩
 obtain ⟨x4, hx4⟩ : ∃ x, e.f = x := ⟨_, rfl⟩
 obtain ⟨x5, hx5⟩ : ∃ x, e.n = x := ⟨_, rfl⟩
 obtain ⟨x6, hx6⟩ : ∃ x, e.b = x := ⟨_, rfl⟩
 rw [hx6] at HOK HNO
 rw [hx1, hx2, hx3, hx4, hx5, hx6]
 clear hx1 hx2 hx3 hx4 hx5 hx6
 go_enter Try.func13, Try.ntmps13
 have hb1 : Below w.heap.size w (w.alloc (.cells #[.int .i64 3, .int .i64 x1, .int .i64 x2, .int .i64 x3, .bool x4, .int .i64 x5, .int .u8 x6] 34)) := (Below.refl _ _).alloc (Nat.le_refl _) _
 have HX : Hid (Row (w.alloc (.cells #[.int .i64 3, .int .i64 x1, .int .i64 x2, .int .i64 x3, .bool x4, .int .i64 x5, .int .u8 x6] 34)) w.heap.size 34 [.int .i64 3, .int .i64 x1, .int .i64 x2, .int .i64 x3, .bool x4, .int .i64 x5, .int .u8 x6]) := Lib.hid (Row.new w _ _)
 have HH1 := Lib.hid (HH.out.aside (Chg.of_below hb1 : Chg (fun _ => False) w _) (fun _ _ h => h))
 have HC1 : Hid (Chg F w (w.alloc (.cells #[.int .i64 3, .int .i64 x1, .int .i64 x2, .int .i64 x3, .bool x4, .int .i64 x5, .int .u8 x6] 34))) := Lib.hid (Chg.of_below hb1)
 clear hb1 HH
 go_upto_region 11 with (fail)
 generalize w.alloc (.cells #[.int .i64 3, .int .i64 x1, .int .i64 x2, .int .i64 x3, .bool x4, .int .i64 x5, .int .u8 x6] 34) = W1 at *
 have y6 : W1.cell? ⟨w.heap.size, 6, none⟩ = some (.int .u8 x6) := HX.out.cell 6
 have k1 : W1.cell? ⟨k, 1, none⟩ = some (.int .i64 s.leaf) := by rw [HH1.out.row.cell]; rfl
 have HQ : Hid (∀ n, Calls Try.prog 19 #[.int .i64 s.leaf, .int .u8 x6] (W1.drewN n) fun r w' => r = .returned (.bool (canB s.leaf x6)) ∧ w' = W1.drewN n) := Lib.hid (fun n => gCanHave_any s.leaf x6 (W1.drewN n))
 generalize hcb : canB s.leaf x6 = cb at *
 go_quiet ((first | (go_at_call 19; exact Calls.quiet_of_same (HQ.out _))))
 go_wp2
 go_returns
 refine ⟨s.leaf, cb, F, rfl, fun h => ?_, fun h => ⟨HNO.out h, _, _, _, (HH1.out.aside (chg_draws (fun _ => False) W1 nq) (fun _ _ h => h)).row⟩, HH1.out.fk, fun j hj => .inl hj, fun j hj => Nat.lt_of_lt_of_le (HF.out j hj) HC1.out.size, HC1.out.trans (chg_draws F W1 nq) (fun i hi => .inl hi)⟩
 rw [HOK.out h]
 exact ⟨rfl, hc, g, c, E, (HH1.out.aside (chg_draws (fun _ => False) W1 nq) (fun _ _ h => h)).part _⟩
set_option maxRecDepth 100000 in
set_option maxHeartbeats 16000000 in
theorem take_end_any {w : World} {k : Nat} {F : Nat → Prop} {s : GS} {g c : Nat} {E : List GPl} (hF : ∀ i, F i → i < w.heap.size) (h : GmOn w k F s g c E) (hne : s.op ≠ []) (hl : (s.op.length : Int) ≤ 65) (e : Ev) (hk : e.k = 4) (hc : s.leaf ≠ 0) :
  Calls Try.prog 13 #[.pointer (some ⟨k, 0, none⟩), evV e] w fun r w' => TkEnd w k F s e r w' := by
 have HOK : Hid (s.push e = { s with part := s.leaf }) := Lib.hid (push4 hk)
 have HH := Lib.hid h
 have HF := Lib.hid hF
 clear h hF
 have hev : evV e = .agg #[.int .i64 4, .int .i64 e.at_, .int .i64 e.c, .int .i64 e.t, .bool e.f, .int .i64 e.n, .int .u8 e.b] := by unfold evV; rw [hk]
 rw [hev]
 clear hev
 obtain ⟨x1, hx1⟩ : ∃ x, e.at_ = x := ⟨_, rfl⟩
 obtain ⟨x2, hx2⟩ : ∃ x, e.c = x := ⟨_, rfl⟩
 obtain ⟨x3, hx3⟩ : ∃ x, e.t = x := ⟨_, rfl⟩
 obtain ⟨x4, hx4⟩ : ∃ x, e.f = x := ⟨_, rfl⟩
 obtain ⟨x5, hx5⟩ : ∃ x, e.n = x := ⟨_, rfl⟩
 obtain ⟨x6, hx6⟩ : ∃ x, e.b = x := ⟨_, rfl⟩
 rw [hx1, hx2, hx3, hx4, hx5, hx6]
 clear hx1 hx2 hx3 hx4 hx5 hx6
 go_enter Try.func13, Try.ntmps13
 have hb1 : Below w.heap.size w (w.alloc (.cells #[.int .i64 4, .int .i64 x1, .int .i64 x2, .int .i64 x3, .bool x4, .int .i64 x5, .int .u8 x6] 34)) := (Below.refl _ _).alloc (Nat.le_refl _) _
 have HX : Hid (Row (w.alloc (.cells #[.int .i64 4, .int .i64 x1, .int .i64 x2, .int .i64 x3, .bool x4, .int .i64 x5, .int .u8 x6] 34)) w.heap.size 34 [.int .i64 4, .int .i64 x1, .int .i64 x2, .int .i64 x3, .bool x4, .int .i64 x5, .int .u8 x6]) := Lib.hid (Row.new w _ _)
 have HH1 := Lib.hid (HH.out.aside (Chg.of_below hb1 : Chg (fun _ => False) w _) (fun _ _ h => h))
 have HC1 : Hid (Chg F w (w.alloc (.cells #[.int .i64 4, .int .i64 x1, .int .i64 x2, .int .i64 x3, .bool x4, .int .i64 x5, .int .u8 x6] 34))) := Lib.hid (Chg.of_below hb1)
 clear hb1 HH
 go_upto_region 13 with (fail)
 generalize w.alloc (.cells #[.int .i64 4, .int .i64 x1, .int .i64 x2, .int .i64 x3, .bool x4, .int .i64 x5, .int .u8 x6] 34) = W1 at *
 have k1 : W1.cell? ⟨k, 1, none⟩ = some (.int .i64 s.leaf) := by rw [HH1.out.row.cell]; rfl
 go_wp2
 go_returns
 refine ⟨s.leaf, true, F, rfl, fun h => ?_, fun h => (by cases h), HH1.out.fk, fun j hj => .inl hj, fun j hj => Nat.lt_of_lt_of_le (HF.out j hj) HC1.out.size, HC1.out⟩
 rw [HOK.out]
 exact ⟨rfl, hc, g, c, E, HH1.out.part _⟩
theorem push5 {s : GS} {e : Ev} {a : GO} {r : List GO} (hk : e.k = 5) (ho : s.op = a :: r) : s.push e = { s with op := r, part := if overG a.came ((rowG a.p).drop a.k) = true then a.p else 0 } := by unfold GS.push; rw [if_neg (by omega), if_neg (by omega), if_neg (by omega), if_neg (by omega), ho]
set_option maxRecDepth 100000 in
set_option maxHeartbeats 16000000 in
theorem take_exit_any {w : World} {k : Nat} {F : Nat → Prop} {s : GS} {g c : Nat} {E : List GPl} (hF : ∀ i, F i → i < w.heap.size) (h : GmOn w k F s g c E) (hne : s.op ≠ []) (hl : (s.op.length : Int) ≤ 65) (e : Ev) (hk : e.k = 5) :
  Calls Try.prog 13 #[.pointer (some ⟨k, 0, none⟩), evV e] w fun r w' => TkEnd w k F s e r w' := by
 obtain ⟨o, r, m, i, ho, rfl, hp, hop⟩ := h.parts hne
 have hml := hop.length
 have hlr : (r.length : Int) + 1 ≤ 65 := by rw [ho] at hl; simpa using hl
 obtain ⟨N, hN⟩ : ∃ N, m.length = N := ⟨_, rfl⟩
 have hN9 : N ≤ 100 := by omega
 have hlen : ((o.p, (i : Int)) :: m).length = N + 1 := by rw [List.length_cons, hN]
 have hrow := h.row
 have hels := h.els
 rw [hlen] at hrow hels
 have HOK : Hid (s.push e = { s with op := r, part := if overG o.came ((rowG o.p).drop o.k) = true then o.p else 0 }) := Lib.hid (push5 hk ho)
 have HO := Lib.hid hp.over
 have HT := Lib.hid h.top
 have HV := Lib.hid h.ver
 have HP := Lib.hid hop
 have HH := Lib.hid h
 have HF := Lib.hid hF
 have HR := Lib.hid hrow
 have HS := Lib.hid hels
 have hi7 := hp.1
 clear hrow hels hF h hp hop
 have hev : evV e = .agg #[.int .i64 5, .int .i64 e.at_, .int .i64 e.c, .int .i64 e.t, .bool e.f, .int .i64 e.n, .int .u8 e.b] := by unfold evV; rw [hk]
 rw [hev]
 clear hev
 obtain ⟨x1, hx1⟩ : ∃ x, e.at_ = x := ⟨_, rfl⟩
 obtain ⟨x2, hx2⟩ : ∃ x, e.c = x := ⟨_, rfl⟩
 obtain ⟨x3, hx3⟩ : ∃ x, e.t = x := ⟨_, rfl⟩
 obtain ⟨x4, hx4⟩ : ∃ x, e.f = x := ⟨_, rfl⟩
 obtain ⟨x5, hx5⟩ : ∃ x, e.n = x := ⟨_, rfl⟩
 obtain ⟨x6, hx6⟩ : ∃ x, e.b = x := ⟨_, rfl⟩
 rw [hx1, hx2, hx3, hx4, hx5, hx6]
 clear hx1 hx2 hx3 hx4 hx5 hx6
 go_enter Try.func13, Try.ntmps13
 have hb1 : Below w.heap.size w (w.alloc (.cells #[.int .i64 5, .int .i64 x1, .int .i64 x2, .int .i64 x3, .bool x4, .int .i64 x5, .int .u8 x6] 34)) := (Below.refl _ _).alloc (Nat.le_refl _) _
 have HX : Hid (Row (w.alloc (.cells #[.int .i64 5, .int .i64 x1, .int .i64 x2, .int .i64 x3, .bool x4, .int .i64 x5, .int .u8 x6] 34)) w.heap.size 34 [.int .i64 5, .int .i64 x1, .int .i64 x2, .int .i64 x3, .bool x4, .int .i64 x5, .int .u8 x6]) := Lib.hid (Row.new w _ _)
 have HH1 := Lib.hid (HH.out.aside (Chg.of_below hb1 : Chg (fun _ => False) w _) (fun _ _ h => h))
 have HC1 : Hid (Chg F w (w.alloc (.cells #[.int .i64 5, .int .i64 x1, .int .i64 x2, .int .i64 x3, .bool x4, .int .i64 x5, .int .u8 x6] 34))) := Lib.hid (Chg.of_below hb1)
 have HR1 := Lib.hid (HR.out.below hb1 HR.out.lt)
 have HS1 := Lib.hid (HS.out.below hb1)
 clear HR HS
 clear hb1 HH
 go_upto_region 15 with (fail)
 generalize w.alloc (.cells #[.int .i64 5, .int .i64 x1, .int .i64 x2, .int .i64 x3, .bool x4, .int .i64 x5, .int .u8 x6] 34) = W1 at *
 clear HX
 cases m with
 |nil =>
  obtain rfl : N = 0 := by rw [← hN]; rfl
  obtain rfl : r = [] := by
   cases r with
   |nil => rfl
   |cons _ _ => simp at hml
  have h0 : o.p = 0 := by have h := HT.out; rw [ho] at h; exact h
  have HE := Lib.hid (exit_last HR1.out)
  go_wp2_with fail
  refine HE.out.mono ?_
  rintro r9 w3 ⟨rfl, rfl⟩
  go_wp2
  go_returns
  refine ⟨0, false, F, rfl, fun h => (by cases h), fun h => ⟨?_, _, _, _, HR1.out⟩, HH1.out.fk, fun j hj => .inl hj, fun j hj => Nat.lt_of_lt_of_le (HF.out j hj) HC1.out.size, HC1.out⟩
  rw [HOK.out, h0]
  show (if _ then (0 : Int) else 0) = 0
  split <;> rfl
 |cons q2 m2 =>
  have hN1 : 0 < N := by rw [← hN]; exact Nat.succ_pos _
  obtain ⟨o2, r2, hr2⟩ : ∃ o2 r2, r = o2 :: r2 := by
   cases r with
   |nil => simp at hml
   |cons a b => exact ⟨a, b, rfl⟩
  have h0 : o.p ≠ 0 ∧ TopP r := by have h := HT.out; rw [ho, hr2] at h; rw [hr2]; exact h
  generalize hm2 : q2 :: m2 = m at *
  have HE := Lib.hid (exit_any (F := F) hN hN1 HH1.out.fk HH1.out.ne HR1.out HS1.out hN9 hi7 HO.out)
  generalize hov : overG o.came ((rowG o.p).drop o.k) = ov at *
  clear hov
  go_wp2_with fail
  refine HE.out.mono ?_
  rintro r9 w3 ⟨rfl, hr3, hs3, hc3⟩
  have HR3 := Lib.hid hr3
  have HS3 := Lib.hid hs3
  have HC3 : Hid (Chg F w w3) := Lib.hid (HC1.out.trans hc3 (fun i hi => .inl hi))
  clear hr3 hs3 hc3 HE HC1
  cases ov
  ·go_wp2
   go_returns
   refine ⟨0, false, F, rfl, fun h => (by cases h), fun h => ⟨?_, _, _, _, HR3.out⟩, HH1.out.fk, fun j hj => .inl hj, fun j hj => Nat.lt_of_lt_of_le (HF.out j hj) HC3.out.size, HC3.out⟩
   rw [HOK.out]
   rfl
  ·go_wp2
   go_returns
   refine ⟨o.p, true, F, rfl, fun h => ?_, fun h => (by cases h), HH1.out.fk, fun j hj => .inl hj, fun j hj => Nat.lt_of_lt_of_le (HF.out j hj) HC3.out.size, HC3.out⟩
   rw [HOK.out]
   refine ⟨rfl, h0.1, g, c, m, ?_, ?_, HH1.out.fk, HH1.out.fg, HH1.out.ne, HP.out, h0.2, ?_⟩
   ·rw [hN]; exact HR3.out
   ·rw [hN]; exact HS3.out
   ·intro z hz
    exact HV.out z (by rw [ho]; exact List.mem_cons_of_mem _ hz)
theorem gTake_any {w : World} {k : Nat} {F : Nat → Prop} {s : GS} {g c : Nat} {E : List GPl} (hF : ∀ i, F i → i < w.heap.size) (h : GmOn w k F s g c E) (hne : s.op ≠ []) (hl : (s.op.length : Int) ≤ 65) (e : Ev) (hk : 1 ≤ e.k ∧ e.k ≤ 5) (hc : s.can e) :
  Calls Try.prog 13 #[.pointer (some ⟨k, 0, none⟩), evV e] w fun r w' => TkEnd w k F s e r w' := by
 have h5 : e.k = 1 ∨ e.k = 2 ∨ e.k = 3 ∨ e.k = 4 ∨ e.k = 5 := by omega
 rcases h5 with hq | hq | hq | hq | hq
 ·exact take_enter_any hF h hne hl e hq (hc.1 hq)
 ·exact take_leaf_any hF h hne hl e hq
 ·exact take_byte_any hF h hne hl e hq (hc.2 (.inl hq))
 ·exact take_end_any hF h hne hl e hq (hc.2 (.inr hq))
 ·exact take_exit_any hF h hne hl e hq
end Go.Proofs.Ytiiimhamfibdbaa
/- What the landed code's New and Push of a grammar give: of every grammar, and every event that can come. -/
namespace Go.Proofs.Ytiiimhamfibdbaa
open Go.RowKit Go.PlainAid
set_option linter.unusedVariables false
set_option maxRecDepth 100000 in
set_option maxHeartbeats 8000000 in
theorem gNew_any (w : World) : Calls Try.prog 6 #[] w fun e w' => ∃ k F, e = .returned (.pointer (some ⟨k, 0, none⟩)) ∧ (∀ i, F i → w.heap.size ≤ i) ∧ GAt w' k F (some GS.new) ∧ Below w.heap.size w w' := by
 have hb1 : Below w.heap.size w (w.alloc (.cells #[.int .i64 0, .int .i64 0] 44)) := (Below.refl _ _).alloc (Nat.le_refl _) _
 have hb2 := hb1.alloc (by simp) (.cells #[.slice (some ⟨w.heap.size, 0, none⟩) 1 1, .int .i64 0, .bool false, .int .i64 0] 47)
 have hs : (w.alloc (.cells #[.int .i64 0, .int .i64 0] 44)).heap.size = w.heap.size + 1 := by simp
 have hp0 : PlS 44 (w.alloc (.cells #[.int .i64 0, .int .i64 0] 44)) 0 (.slice (some ⟨w.heap.size, 0, none⟩) 1 1) [(0, 0)] := World.ownsRow_lit w #[.int .i64 0, .int .i64 0] 1 (Nat.zero_le _) (by unfold maxLen; omega) rfl
 have hp := hp0.below ((Below.refl _ _).alloc (Nat.le_refl _) (.cells #[.slice (some ⟨w.heap.size, 0, none⟩) 1 1, .int .i64 0, .bool false, .int .i64 0] 47))
 have hr := Row.new (w.alloc (.cells #[.int .i64 0, .int .i64 0] 44)) 47 (gmC (.slice (some ⟨w.heap.size, 0, none⟩) 1 1) 0 false 0)
 rw [hs] at hr
 have HG : Hid (GAt ((w.alloc (.cells #[.int .i64 0, .int .i64 0] 44)).alloc (.cells #[.slice (some ⟨w.heap.size, 0, none⟩) 1 1, .int .i64 0, .bool false, .int .i64 0] 47)) (w.heap.size + 1) (fun j => j = w.heap.size + 1 ∨ j = w.heap.size) (some GS.new)) := Lib.hid ⟨fun j hj => by
   have : ((w.alloc (.cells #[.int .i64 0, .int .i64 0] 44)).alloc (.cells #[.slice (some ⟨w.heap.size, 0, none⟩) 1 1, .int .i64 0, .bool false, .int .i64 0] 47)).heap.size = w.heap.size + 1 + 1 := by simp
   rw [this]; omega,
  w.heap.size, 1, [(0, 0)], hr, hp, .inl rfl, .inr rfl, by omega, ⟨rfl, ⟨0, rfl, plAt_zero 0⟩, trivial⟩, rfl, fun o ho h21 => by
   rcases List.mem_cons.1 ho with rfl | h
   ·exact absurd h21 (by decide)
   ·cases h⟩
 have HB := Lib.hid hb2
 clear hb1 hb2 hs hp0 hp hr
 go_enter Try.func6, Try.ntmps6
 go_wp2
 go_returns
 exact ⟨_, _, rfl, fun j hj => by omega, HG.out, HB.out⟩
set_option maxRecDepth 100000 in
set_option maxHeartbeats 16000000 in
theorem gPush_any {w : World} {k : Nat} {F : Nat → Prop} {s : GS} (e : Ev) (h : GAt w k F (some s)) (hne : s.op ≠ []) (hl : (s.op.length : Int) ≤ 65) (hk : 1 ≤ e.k ∧ e.k ≤ 5) (hc : s.can e) :
  Calls Try.prog 7 #[.pointer (some ⟨k, 0, none⟩), evV e] w fun r w' => ∃ F', r = .returned (.tuple #[.int .i64 (s.push e).part, .int .i64 (if (s.push e).part = 0 then 8 else 0)]) ∧ (∀ i, F' i → F i ∨ w.heap.size ≤ i) ∧ GAt w' k F' (s.after e) ∧ Chg F w w' := by
 obtain ⟨hF, g, c, E, hm⟩ := h
 have HT := Lib.hid (fun (W : World) (hb : Below w.heap.size w W) => gTake_any (w := W) (fun i hi => Nat.lt_of_lt_of_le (hF i hi) hb.size) (hm.aside (Chg.of_below hb : Chg (fun _ => False) w _) (fun _ _ h => h)) hne hl e hk hc)
 have HR := Lib.hid hm.row
 have HF := Lib.hid hF
 have hfk := hm.fk
 have HA : Hid (((s.push e).part ≠ 0 → s.after e = some (s.push e)) ∧ ((s.push e).part = 0 → s.after e = none)) := Lib.hid ⟨fun h => if_neg h, fun h => if_pos h⟩
 clear hF hm hne hl hk hc
 generalize s.after e = sa at *
 unfold TkEnd at HT
 generalize hsp : s.push e = sp at *
 clear hsp
 obtain ⟨Z, hZ⟩ : ∃ Z : Int, (if sp.part = 0 then (8 : Int) else 0) = Z := ⟨_, rfl⟩
 have HZ : Hid ((sp.part = 0 → Z = 8) ∧ (sp.part ≠ 0 → Z = 0)) := Lib.hid ⟨fun h => by rw [← hZ, if_pos h], fun h => by rw [← hZ, if_neg h]⟩
 rw [hZ]
 clear hZ
 generalize hP : sp.part = P at *
 clear hP
 have hev : evV e = .agg #[.int .i64 e.k, .int .i64 e.at_, .int .i64 e.c, .int .i64 e.t, .bool e.f, .int .i64 e.n, .int .u8 e.b] := rfl
 rw [hev] at HT ⊢
 clear hev
 generalize e.k = x0 at *
 generalize e.at_ = x1 at *
 generalize e.c = x2 at *
 generalize e.t = x3 at *
 generalize e.f = x4 at *
 generalize e.n = x5 at *
 generalize e.b = x6 at *
 go_enter Try.func7, Try.ntmps7
 go_upto_region 1 with (fail)
 have hb1 : Below w.heap.size w (w.alloc (.cells #[.int .i64 x0, .int .i64 x1, .int .i64 x2, .int .i64 x3, .bool x4, .int .i64 x5, .int .u8 x6] 34)) := (Below.refl _ _).alloc (Nat.le_refl _) _
 have HX : Hid (Row (w.alloc (.cells #[.int .i64 x0, .int .i64 x1, .int .i64 x2, .int .i64 x3, .bool x4, .int .i64 x5, .int .u8 x6] 34)) w.heap.size 34 (evC ⟨x0, x1, x2, x3, x4, x5, x6⟩)) := Lib.hid (Row.new w _ _)
 have HT1 := Lib.hid (HT.out _ hb1)
 have HR1 := Lib.hid (HR.out.below hb1 HR.out.lt)
 have HC1 : Hid (Chg F w (w.alloc (.cells #[.int .i64 x0, .int .i64 x1, .int .i64 x2, .int .i64 x3, .bool x4, .int .i64 x5, .int .u8 x6] 34))) := Lib.hid (Chg.of_below hb1)
 clear hb1 HT HR
 generalize w.alloc (.cells #[.int .i64 x0, .int .i64 x1, .int .i64 x2, .int .i64 x3, .bool x4, .int .i64 x5, .int .u8 x6] 34) = W1 at *
 obtain ⟨y0, y1, y2, y3, y4, y5, y6⟩ := ev_facts HX.out
 have k3 : W1.cell? ⟨k, 3, none⟩ = some (.int .i64 0) := by rw [HR1.out.cell]; rfl
 go_wp2_with fail
 refine HT1.out.mono ?_
 rintro r w3 ⟨q, ok, F3, rfl, hok, hno, hfk3, hF3, hlt3, hc3⟩
 have HOK := Lib.hid hok
 have HNO := Lib.hid hno
 have HC3 : Hid (Chg F w w3) := Lib.hid (HC1.out.trans hc3 (fun i hi => .inl hi))
 have hnw : Hid (∀ i, F3 i → F i ∨ w.heap.size ≤ i) := Lib.hid (fun i hi => by
  rcases hF3 i hi with h | h
  ·exact .inl h
  ·exact .inr (Nat.le_trans HC1.out.size h))
 have HL3 := Lib.hid hlt3
 clear hok hno hc3 hF3 hlt3 HT1 HX HR1 HC1 y0 y1 y2 y3 y4 y5 y6 k3
 cases ok
 ·obtain ⟨h0, a, b, d, hr3⟩ := HNO.out rfl
  have HR3 := Lib.hid hr3
  have HA0 := Lib.hid (HA.out.2 h0)
  have H0 := Lib.hid h0
  clear hr3 HOK HNO HA h0
  have k3 : w3.cell? ⟨k, 3, none⟩ = some (.int .i64 0) := by rw [HR3.out.cell]; rfl
  have f3 := HR3.out.frozen 3
  go_upto_region 6 with (fail)
  have HR4 := Lib.hid (HR3.out.set 3 (.int .i64 8))
  have HC4 := Lib.hid (HC3.out.setAt hfk 3 (.int .i64 8))
  have hsz : (w3.setCell ⟨k, 3, none⟩ (.int .i64 8)).heap.size = w3.heap.size := by simp
  have HL4 : Hid (∀ i, F3 i → i < (w3.setCell ⟨k, 3, none⟩ (.int .i64 8)).heap.size) := Lib.hid (fun i hi => by rw [hsz]; exact HL3.out i hi)
  clear HR3 HC3 k3 f3 HL3 hsz
  generalize w3.setCell ⟨k, 3, none⟩ (.int .i64 8) = W4 at *
  have k3 : W4.cell? ⟨k, 3, none⟩ = some (.int .i64 8) := by rw [HR4.out.cell]; rfl
  go_quiet (fail)
  go_wp2
  go_returns
  obtain rfl := H0.out
  obtain rfl := HZ.out.1 rfl
  have hga : GAt (W4.drewN nq) k F3 sa := by
   rw [HA0.out]
   exact ⟨HL4.out, hfk3, a, b, d, HR4.out⟩
  exact ⟨F3, rfl, hnw.out, hga, HC4.out.trans (chg_draws F W4 nq) (fun i hi => .inl hi)⟩
 ·obtain ⟨h0, h1, hg⟩ := HOK.out rfl
  have HA0 := Lib.hid (HA.out.1 (by rw [h0]; exact h1))
  have H0 := Lib.hid h0
  have HG := Lib.hid hg
  clear HOK HNO HA h0 hg
  go_wp2
  go_returns
  obtain rfl := H0.out
  obtain rfl := HZ.out.2 h1
  have hga : GAt w3 k F3 sa := by
   rw [HA0.out]
   exact ⟨HL3.out, HG.out⟩
  exact ⟨F3, rfl, hnw.out, hga, HC3.out⟩
set_option maxRecDepth 100000 in
set_option maxHeartbeats 8000000 in
theorem gDead_any {w : World} {k : Nat} {F : Nat → Prop} (e : Ev) (h : GAt w k F none) :
  Calls Try.prog 7 #[.pointer (some ⟨k, 0, none⟩), evV e] w fun r w' => ∃ F', r = .returned (.tuple #[.int .i64 0, .int .i64 8]) ∧ (∀ i, F' i → F i ∨ w.heap.size ≤ i) ∧ GAt w' k F' none ∧ Chg F w w' := by
 obtain ⟨hF, hfk, a, b, d, hr⟩ := h
 have HF := Lib.hid hF
 have HR := Lib.hid hr
 have hev : evV e = .agg #[.int .i64 e.k, .int .i64 e.at_, .int .i64 e.c, .int .i64 e.t, .bool e.f, .int .i64 e.n, .int .u8 e.b] := rfl
 rw [hev]
 clear hev hF hr
 generalize e.k = x0 at *
 generalize e.at_ = x1 at *
 generalize e.c = x2 at *
 generalize e.t = x3 at *
 generalize e.f = x4 at *
 generalize e.n = x5 at *
 generalize e.b = x6 at *
 go_enter Try.func7, Try.ntmps7
 go_upto_region 1 with (fail)
 have hb1 : Below w.heap.size w (w.alloc (.cells #[.int .i64 x0, .int .i64 x1, .int .i64 x2, .int .i64 x3, .bool x4, .int .i64 x5, .int .u8 x6] 34)) := (Below.refl _ _).alloc (Nat.le_refl _) _
 have HR1 := Lib.hid (HR.out.below hb1 HR.out.lt)
 have HC1 : Hid (Chg F w (w.alloc (.cells #[.int .i64 x0, .int .i64 x1, .int .i64 x2, .int .i64 x3, .bool x4, .int .i64 x5, .int .u8 x6] 34))) := Lib.hid (Chg.of_below hb1)
 clear hb1 HR
 generalize w.alloc (.cells #[.int .i64 x0, .int .i64 x1, .int .i64 x2, .int .i64 x3, .bool x4, .int .i64 x5, .int .u8 x6] 34) = W1 at *
 have k3 : W1.cell? ⟨k, 3, none⟩ = some (.int .i64 8) := by rw [HR1.out.cell]; rfl
 go_upto_region 2 with (fail)
 go_quiet (fail)
 go_wp2
 go_returns
 exact ⟨F, rfl, fun i hi => .inl hi, ⟨fun i hi => Nat.lt_of_lt_of_le (HF.out i hi) HC1.out.size, hfk, a, b, d, HR1.out⟩, HC1.out.trans (chg_draws F W1 nq) (fun i hi => .inl hi)⟩
end Go.Proofs.Ytiiimhamfibdbaa
