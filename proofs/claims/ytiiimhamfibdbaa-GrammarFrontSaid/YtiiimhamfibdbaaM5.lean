/- What a grammar of the landed code's is in memory, and what its small functions give: mayBe, behind, canHave. -/
import Derived.Test.YtiiimhamfibdbaaM3
import Derived.Test.YtiiimhamfibdbaaM4
import Derived.Test.YtiiimhamfibdbaaE1
import Derived.Deep.LoopGhost
import Derived.Deep.QuietTactic
import Derived.BigQuiet
import Derived.Deep.RegionHeld3
namespace Go.Proofs.Ytiiimhamfibdbaa
open Go.RowKit Go.PlainAid
set_option linter.unusedVariables false
def gmC (ov : Value) (leaf : Int) (told : Bool) (err : Int) : List Value := [ov, .int .i64 leaf, .bool told, .int .i64 err]
def OpP : List GO → List GPl → Prop
 |[], [] => True
 |o :: r, q :: m => q.1 = o.p ∧ (∃ i : Nat, q.2 = (i : Int) ∧ PlAt o i) ∧ OpP r m
 |_, _ => False
theorem OpP.length : ∀ {l : List GO} {m : List GPl}, OpP l m → m.length = l.length
 |[], [], _ => rfl
 |_ :: _, [], h => h.elim
 |[], _ :: _, h => h.elim
 |_ :: _, _ :: _, h => by rw [List.length_cons, List.length_cons, h.2.2.length]
def TopP : List GO → Prop
 |[] => True
 |[o] => o.p = 0
 |o :: r => o.p ≠ 0 ∧ TopP r
def VerP (l : List GO) (v : Bool) : Prop := ∀ o ∈ l, o.p = 21 → v = true
structure GmOn (w : World) (k : Nat) (F : Nat → Prop) (s : GS) (g c : Nat) (E : List GPl) : Prop where
 row : Row w k 47 (gmC (.slice (some ⟨g, 0, none⟩) E.length c) s.leaf s.ver 0)
 els : PlS 44 w 0 (.slice (some ⟨g, 0, none⟩) E.length c) E.reverse
 fk : F k
 fg : F g
 ne : g ≠ k
 op : OpP s.op E
 top : TopP s.op
 ver : VerP s.op s.ver
def GAt : GramPred := fun w k F os => (∀ i, F i → i < w.heap.size) ∧
 match os with
 |none => F k ∧ ∃ a b d, Row w k 47 [a, b, d, .int .i64 8]
 |some s => ∃ g c E, GmOn w k F s g c E
theorem GmOn.aside {w w' : World} {k : Nat} {F F' : Nat → Prop} {s : GS} {g c : Nat} {E : List GPl} (h : GmOn w k F s g c E) (hc : Chg F' w w') (hF : ∀ i, F i → ¬ F' i) : GmOn w' k F s g c E :=
 ⟨h.row.chg hc (hF _ h.fk), h.els.keep (fun x hx => by injection hx with hx; have hx : g = x := hx; subst hx; exact hc.block g (by have := h.els.ob (b := g) rfl; omega) (hF _ h.fg)), h.fk, h.fg, h.ne, h.op, h.top, h.ver⟩
theorem gat_aside {w w' : World} {k : Nat} {F F' : Nat → Prop} {os : Option GS} (h : GAt w k F os) (hc : Chg F' w w') (hF : ∀ i, F i → ¬ F' i) : GAt w' k F os := by
 obtain ⟨h1, h2⟩ := h
 refine ⟨fun i hi => Nat.lt_of_lt_of_le (h1 i hi) hc.size, ?_⟩
 cases os with
 |none => obtain ⟨fk, a, b, d, hr⟩ := h2; exact ⟨fk, a, b, d, hr.chg hc (hF _ fk)⟩
 |some s => obtain ⟨g, c, E, hm⟩ := h2; exact ⟨g, c, E, hm.aside hc hF⟩
set_option maxRecDepth 100000 in
set_option maxHeartbeats 8000000 in
theorem mayBe_any {w : World} {k : Nat} {a b e : Value} {v : Bool} (h : Row w k 47 [a, b, .bool v, e]) (p : Int) :
  Calls Try.prog 28 #[.pointer (some ⟨k, 0, none⟩), .int .i64 p] w fun r w' => r = .returned (.bool (mayP v p)) ∧ w' = w := by
 have k2 : w.cell? ⟨k, 2, none⟩ = some (.bool v) := by rw [h.cell]; rfl
 clear h
 cases v
 ·by_cases h1 : p = 17
  ·subst h1
   go_enter Try.func28, Try.ntmps28
   go_wp2
   go_returns
   exact ⟨rfl, rfl⟩
  ·have b1 : (p != 17) = true := by simpa using h1
   have HO : Hid ((p != 21) = mayP false p) := Lib.hid (by
    by_cases h2 : p = 21
    ·subst h2; rfl
    ·simp [mayP, h1, h2])
   go_enter Try.func28, Try.ntmps28
   go_wp2
   go_returns
   exact ⟨rets1 (congrArg Value.bool HO.out), rfl⟩
 ·go_enter Try.func28, Try.ntmps28
  go_wp2
  go_returns
  exact ⟨rfl, rfl⟩
def bhP (i : Nat) (y : Int) : Nat := if y = 2 then i else i + 1
set_option maxRecDepth 100000 in
set_option maxHeartbeats 8000000 in
theorem gBehind_any (i : Nat) (x y : Int) (w : World) (hi : i ≤ 1000) :
  Calls Try.prog 29 #[.int .i64 (i : Int), .agg #[.int .i64 x, .int .i64 y]] w fun r w' => r = .returned (.int .i64 (bhP i y : Int)) ∧ Below w.heap.size w w' := by
 have HB : Hid (Below w.heap.size w (w.alloc (.cells #[.int .i64 x, .int .i64 y] 73))) := Lib.hid ((Below.refl _ _).alloc (Nat.le_refl _) _)
 by_cases h : y = 2
 ·subst h
  go_enter Try.func29, Try.ntmps29
  go_wp2
  go_returns
  exact ⟨rfl, HB.out⟩
 ·have b1 : (y == 2) = false := by simpa using h
  have HO : Hid ((i : Int) + 1 = (bhP i y : Int)) := Lib.hid (by unfold bhP; rw [if_neg h]; rfl)
  go_enter Try.func29, Try.ntmps29
  go_wp2
  go_returns
  exact ⟨rets1 (congrArg (Value.int .i64) HO.out), HB.out⟩
def canB (p b : Int) : Bool := ! (decide (p = 3 ∧ b ≠ 1 ∨ p = 19 ∧ b ≠ 255))
set_option maxRecDepth 100000 in
set_option maxHeartbeats 8000000 in
theorem gCanHave_any (p b : Int) (w : World) :
  Calls Try.prog 19 #[.int .i64 p, .int .u8 b] w fun r w' => r = .returned (.bool (canB p b)) ∧ w' = w := by
 by_cases h3 : p = 3
 ·subst h3
  have HO : Hid ((b == 1) = canB 3 b) := Lib.hid (by simp [canB]; rfl)
  go_enter Try.func19, Try.ntmps19
  go_wp2
  go_returns
  exact ⟨rets1 (congrArg Value.bool HO.out), rfl⟩
 ·have b3 : (p == 3) = false := by simpa using h3
  by_cases h19 : p = 19
  ·subst h19
   have HO : Hid ((b == 255) = canB 19 b) := Lib.hid (by simp [canB]; rfl)
   go_enter Try.func19, Try.ntmps19
   go_wp2
   go_returns
   exact ⟨rets1 (congrArg Value.bool HO.out), rfl⟩
  ·have b19 : (p == 19) = false := by simpa using h19
   have HO : Hid (true = canB p b) := Lib.hid (by simp [canB, h3, h19])
   go_enter Try.func19, Try.ntmps19
   go_wp2
   go_returns
   exact ⟨rets1 (congrArg Value.bool HO.out), rfl⟩
end Go.Proofs.Ytiiimhamfibdbaa
/- What the landed code's begin gives: the part that an element's head is, and what it leaves in memory. Of every grammar in which nothing was wrong, and every head. -/
namespace Go.Proofs.Ytiiimhamfibdbaa
open Go.RowKit Go.PlainAid
set_option linter.unusedVariables false
theorem PlS.store {t : TypeId} {w : World} {base g m c : Nat} {l : List GPl} (h : PlS t w base (.slice (some ⟨g, 0, none⟩) m c) l) (hm : l.length = m) (i : Nat) (hi : i < l.length) {p : Int} (hp : l[i].1 = p) (y : Int) :
  PlS t (w.setCell ⟨g, i * 2 + 1, none⟩ (.int .i64 y)) base (.slice (some ⟨g, 0, none⟩) m c) (l.set i (p, y)) ∧ w.grownBy (w.setCell ⟨g, i * 2 + 1, none⟩ (.int .i64 y)) (some g) := by
 subst hm hp
 obtain ⟨h1, h2⟩ := World.ownsRow.stored h (i * 2 + 1) (.int .i64 y)
 rw [plsC_set l i hi] at h1
 refine ⟨?_, h2⟩
 unfold PlS
 rw [List.length_set]
 exact h1
theorem PlS.frozen {t : TypeId} {w : World} {base g m c : Nat} {l : List GPl} (h : PlS t w base (.slice (some ⟨g, 0, none⟩) m c) l) (hm : l.length = m) (i : Nat) : w.frozen? ⟨g, i, none⟩ = false := by
 subst hm
 exact World.ownsRow.frozenAt h i
def BgEnd (w : World) (k g : Nat) (ov : Value) (F : Nat → Prop) (p leaf : Int) (v : Bool) (m : List GPl) : Option (Nat × Int) → Ending → World → Prop
 |none, e, w' => e = .returned (.tuple #[.int .i64 0, .bool false]) ∧ Below w.heap.size w w'
 |some (i', x), e, w' => e = .returned (.tuple #[.int .i64 x, .bool true]) ∧ Row w' k 47 (gmC ov leaf (v || decide (x = 3)) 0) ∧ PlS 44 w' 0 ov ((p, (i' : Int)) :: m).reverse ∧ Chg F w w'
set_option maxRecDepth 100000 in
set_option maxHeartbeats 16000000 in
theorem gBegin_any {w : World} {k g c : Nat} {F : Nat → Prop} {p leaf : Int} {v : Bool} {i N : Nat} {m : List GPl} (hN : m.length = N) (hk : F k) (hg : F g) (hne : g ≠ k)
  (hr : Row w k 47 (gmC (.slice (some ⟨g, 0, none⟩) (N + 1) c) leaf v 0)) (hs : PlS 44 w 0 (.slice (some ⟨g, 0, none⟩) (N + 1) c) ((p, (i : Int)) :: m).reverse) (hm : N ≤ 100) (hi : i ≤ (rowP p).length)
  (hc t : Int) (f : Bool) (n : Int) {R : Option (Nat × Int)} (hR : scanP v hc t f n i ((rowP p).drop i) = R) :
  Calls Try.prog 18 #[.pointer (some ⟨k, 0, none⟩), .agg #[.int .i64 hc, .int .i64 t, .bool f, .int .i64 n]] w fun e w' => BgEnd w k g (.slice (some ⟨g, 0, none⟩) (N + 1) c) F p leaf v m R e w' := by
 have hlen : ((p, (i : Int)) :: m).reverse.length = N + 1 := by simp [hN]
 obtain ⟨j1, j2⟩ := hs.at2 N (by omega)
 have hlast : ((p, (i : Int)) :: m).reverse[N]'(by omega) = (p, (i : Int)) := by simp [← hN]
 rw [hlast] at j1 j2
 have hcap : N + 1 ≤ c := by
  rcases hs.shape with ⟨h, _⟩ | ⟨g', c', h, h1, _⟩
  ·cases h
  ·rw [hlen] at h h1; injection h with _ _ h; omega
 have HS := Lib.hid hs
 have HR := Lib.hid hr
 have HRS := Lib.hid hR
 have h17 := rowP_len p
 have h1 := rowP_one p
 clear hlast
 go_enter Try.func18, Try.ntmps18
 have hb0 : Below w.heap.size w (w.alloc (.cells #[.int .i64 hc, .int .i64 t, .bool f, .int .i64 n] 32)) := (Below.refl _ _).alloc (Nat.le_refl _) _
 have HH : Hid (Row (w.alloc (.cells #[.int .i64 hc, .int .i64 t, .bool f, .int .i64 n] 32)) w.heap.size 32 [.int .i64 hc, .int .i64 t, .bool f, .int .i64 n]) := Lib.hid (Row.new w _ [.int .i64 hc, .int .i64 t, .bool f, .int .i64 n])
 go_wp2
 have HR1 := Lib.hid (hr.below hb0 hr.lt)
 have HS1 := Lib.hid (hs.below hb0)
 have HB1 := Lib.hid hb0
 have hwx := HH.out.lt
 generalize hX : w.alloc (.cells #[.int .i64 hc, .int .i64 t, .bool f, .int .i64 n] 32) = W1 at *
 clear hr hs hb0 j1 j2 HR HS hR hX
 have k0 : W1.cell? ⟨k, 0, none⟩ = some (.slice (some ⟨g, 0, none⟩) (N + 1) c) := by rw [HR1.out.cell]; rfl
 have e1 : (((N + 1 : Nat) : Int) - 1) = (N : Int) := by omega
 go_quiet (fail)
 have hbd : Below W1.heap.size W1 (W1.drewN nq) := draws_below' _ _ (Nat.le_refl _)
 have HR2 := Lib.hid (HR1.out.below hbd HR1.out.lt)
 have HS2 := Lib.hid (HS1.out.below hbd)
 have HH2 := Lib.hid (HH.out.below hbd HH.out.lt)
 have HB2 := Lib.hid (HB1.out.trans (hbd.mono HB1.out.size))
 clear hbd HR1 HS1 HH HB1 k0
 generalize W1.drewN nq = W2 at *
 clear hwx e1
 obtain ⟨j1, j2⟩ := HS2.out.at2 N (by omega)
 have hlast : ((p, (i : Int)) :: m).reverse[N]'(by omega) = (p, (i : Int)) := by simp [← hN]
 rw [hlast] at j1 j2
 clear hlast j2
 go_wp2_with fail
 refine (rowOf_any p _).mono ?_
 rintro e w3 ⟨rv, rfl, hp3, hb3, hv3⟩
 clear hv3
 have HR3 := Lib.hid (HR2.out.below hb3 HR2.out.lt)
 have HS3 := Lib.hid (HS2.out.below hb3)
 have HH3 := Lib.hid (HH2.out.below hb3 HH2.out.lt)
 have HB3 := Lib.hid (HB2.out.trans (hb3.mono HB2.out.size))
 have HP3 := Lib.hid (hp3.mono (Nat.zero_le _))
 clear hb3 hp3 HR2 HS2 HH2 HB2 j1
 obtain ⟨j1, j2⟩ := HS3.out.at2 N (by omega)
 have hlast : ((p, (i : Int)) :: m).reverse[N]'(by omega) = (p, (i : Int)) := by simp [← hN]
 rw [hlast] at j1 j2
 clear hlast j1
 have hq3 := HP3.out.shape
 generalize hRw : rowP p = Rw at *
 obtain ⟨M, hM⟩ : ∃ M, Rw.length = M := ⟨_, rfl⟩
 have hrv : ∃ og cr, rv = .slice og M cr := by
  rcases hq3 with ⟨rfl, rfl⟩ | ⟨gr, cr, rfl, _⟩
  ·exact ⟨_, _, by rw [← hM]; rfl⟩
  ·exact ⟨_, _, by rw [hM]⟩
 obtain ⟨og, cr, rfl⟩ := hrv
 go_wp2_with fail
 go_loopg [8] 8 (fun gk iv wr => ∃ j : Nat, iv = .int .i64 (j : Int) ∧ j ≤ M ∧ M - j ≤ gk ∧ Hid (scanP v hc t f n j (Rw.drop j) = R) ∧ Hid (Row wr k 47 (gmC (.slice (some ⟨g, 0, none⟩) (N + 1) c) leaf v 0)) ∧ Hid (PlS 44 wr 0 (.slice (some ⟨g, 0, none⟩) (N + 1) c) ((p, (i : Int)) :: m).reverse) ∧ Hid (Row wr w.heap.size 32 [.int .i64 hc, .int .i64 t, .bool f, .int .i64 n]) ∧ Hid (Below w.heap.size w wr) ∧ Hid (PlS 73 wr 0 (.slice og M cr) Rw))
 case atStart => exact ⟨i, rfl, by omega, by omega, HRS, HR3, HS3, HH3, HB3, HP3⟩
 case round =>
  clear HRS HR3 HS3 HH3 HB3 HP3 j2 hq3
  obtain ⟨j, rfl, hj, hgk, HRS, HR, HS, HH, HB, HP⟩ := hrel
  by_cases hjl : j < M
  ·have hjl2 : (j : Int) < (M : Int) := by omega
   obtain ⟨gr, hgr, hcr, hgl⟩ : ∃ gr, og = some ⟨gr, 0, none⟩ ∧ M ≤ cr ∧ gr < wr.heap.size := by
    rcases HP.out.shape with ⟨_, h⟩ | ⟨gr, c', h, h2, _, _, h3⟩
    ·rw [h] at hM; simp at hM; omega
    ·injection h with q1 q2 q3
     exact ⟨gr, q1, by omega, h3⟩
   subst hgr
   have hjr : j < Rw.length := by omega
   obtain ⟨y1, y2⟩ := HP.out.at2 j hjr
   have hq := h1 Rw[j] (List.getElem_mem hjr)
   have hdr : Rw.drop j = Rw[j] :: Rw.drop (j + 1) := List.drop_eq_getElem_cons hjr
   have HSc := HRS.out
   rw [hdr, scanP] at HSc
   obtain ⟨⟨x, tm⟩, hxt⟩ : ∃ q, Rw[j] = q := ⟨_, rfl⟩
   rw [hxt] at y1 y2 hq HSc
   have HSC := Lib.hid HSc
   clear HSc hdr hxt HRS
   have hcj : j < cr := by omega
   go_upto_region 7 with (fail)
   have hbb : Below wr.heap.size wr (wr.alloc (.cells #[.int .i64 x, .int .i64 tm] 73)) := (Below.refl _ _).alloc (Nat.le_refl _) _
   have HX : Hid (Row (wr.alloc (.cells #[.int .i64 x, .int .i64 tm] 73)) wr.heap.size 73 [.int .i64 x, .int .i64 tm]) := Lib.hid (Row.new wr _ [.int .i64 x, .int .i64 tm])
   have HR4 := Lib.hid (HR.out.below hbb HR.out.lt)
   have HS4 := Lib.hid (HS.out.below hbb)
   have HH4 := Lib.hid (HH.out.below hbb HH.out.lt)
   have HB4 := Lib.hid (HB.out.trans (hbb.mono HB.out.size))
   have HP4 := Lib.hid (HP.out.below hbb)
   have hgx := (HS.out.ob (b := g) rfl).2
   have hkx := HR.out.lt
   clear hbb HR HS HH HB HP y1 y2
   generalize wr.alloc (.cells #[.int .i64 x, .int .i64 tm] 73) = W at *
   generalize wr.heap.size = bx at *
   have x0 : W.cell? ⟨bx, 0, none⟩ = some (.int .i64 x) := by rw [HX.out.cell]; rfl
   have z0 : W.cell? ⟨w.heap.size, 0, none⟩ = some (.int .i64 hc) := by rw [HH4.out.cell]; rfl
   have z1 : W.cell? ⟨w.heap.size, 1, none⟩ = some (.int .i64 t) := by rw [HH4.out.cell]; rfl
   have z2 : W.cell? ⟨w.heap.size, 2, none⟩ = some (.bool f) := by rw [HH4.out.cell]; rfl
   have z3 : W.cell? ⟨w.heap.size, 3, none⟩ = some (.int .i64 n) := by rw [HH4.out.cell]; rfl
   go_wp2_with fail
   refine (isOf_any x hc t f n W ⟨hq.1, hq.2.1⟩).mono ?_
   rintro e w5 ⟨rfl, hb5⟩
   have HX5 := Lib.hid (HX.out.below hb5 HX.out.lt)
   have HR5 := Lib.hid (HR4.out.below hb5 HR4.out.lt)
   have HS5 := Lib.hid (HS4.out.below hb5)
   have HH5 := Lib.hid (HH4.out.below hb5 HH4.out.lt)
   have HB5 := Lib.hid (HB4.out.trans (hb5.mono HB4.out.size))
   have HP5 := Lib.hid (HP4.out.below hb5)
   clear hb5 HX HR4 HS4 HH4 HB4 HP4 x0 z0 z1 z2 z3
   have x0 : w5.cell? ⟨bx, 0, none⟩ = some (.int .i64 x) := by rw [HX5.out.cell]; rfl
   have x1 : w5.cell? ⟨bx, 1, none⟩ = some (.int .i64 tm) := by rw [HX5.out.cell]; rfl
   have HMB := Lib.hid (mayBe_any (a := .slice (some ⟨g, 0, none⟩) (N + 1) c) HR5.out x)
   cases hfb : fitsG x hc t f n
   ·by_cases htm : tm = 0
    ·subst htm
     have HRN : Hid (none = R) := Lib.hid (by have h := HSC.out; rw [if_neg (by rintro ⟨a1, a2⟩; rw [hfb] at a1; cases a1), if_pos rfl] at h; exact h)
     clear HSC HMB
     go_wp2_with fail
     go_returns
     rw [← HRN.out]
     exact ⟨rfl, HB5.out⟩
    ·have hb0 : (tm == 0) = false := by simpa using htm
     have HRS : Hid (scanP v hc t f n (j + 1) (Rw.drop (j + 1)) = R) := Lib.hid (by have h := HSC.out; rw [if_neg (by rintro ⟨a1, a2⟩; rw [hfb] at a1; cases a1), if_neg htm] at h; exact h)
     clear HSC HMB htm
     go_wp2_with fail
     go_roundg (M - (j + 1))
     case measure => omega
     case rel => exact ⟨j + 1, by simp, by omega, by omega, HRS, HR5, HS5, HH5, HB5, HP5⟩
   ·cases hmb : mayP v x
    ·rw [hmb] at HMB
     go_wp2_with fail
     refine HMB.out.mono ?_
     rintro e w6 ⟨rfl, rfl⟩
     by_cases htm : tm = 0
     ·subst htm
      have HRN : Hid (none = R) := Lib.hid (by have h := HSC.out; rw [if_neg (by rintro ⟨a1, a2⟩; rw [hmb] at a2; cases a2), if_pos rfl] at h; exact h)
      clear HSC HMB
      go_wp2_with fail
      go_returns
      rw [← HRN.out]
      exact ⟨rfl, HB5.out⟩
     ·have hb0 : (tm == 0) = false := by simpa using htm
      have HRS : Hid (scanP v hc t f n (j + 1) (Rw.drop (j + 1)) = R) := Lib.hid (by have h := HSC.out; rw [if_neg (by rintro ⟨a1, a2⟩; rw [hmb] at a2; cases a2), if_neg htm] at h; exact h)
      clear HSC HMB htm
      go_wp2_with fail
      go_roundg (M - (j + 1))
      case measure => omega
      case rel => exact ⟨j + 1, by simp, by omega, by omega, HRS, HR5, HS5, HH5, HB5, HP5⟩
    ·rw [hmb] at HMB
     have HRN : Hid (some (bhP j tm, x) = R) := Lib.hid (by have h := HSC.out; rw [if_pos ⟨hfb, hmb⟩] at h; exact h)
     clear HSC hfb hmb
     go_wp2_with fail
     refine HMB.out.mono ?_
     rintro e w6 ⟨rfl, rfl⟩
     clear HMB
     go_wp2_with fail
     refine (gBehind_any j x tm _ (by omega)).mono ?_
     rintro e w7 ⟨rfl, hb7⟩
     have HX7 := Lib.hid (HX5.out.below hb7 HX5.out.lt)
     have HR7 := Lib.hid (HR5.out.below hb7 HR5.out.lt)
     have HS7 := Lib.hid (HS5.out.below hb7)
     have HB7 := Lib.hid (HB5.out.trans (hb7.mono HB5.out.size))
     clear hb7 HX5 HR5 HS5 HH5 HB5 HP5 x0 x1
     generalize bhP j tm = i' at *
     have hst := HS7.out.store hlen N (by omega) (p := p) (by simp [← hN]) (i' : Int)
     have hset : ((p, (i : Int)) :: m).reverse.set N (p, (i' : Int)) = ((p, (i' : Int)) :: m).reverse := by
      rw [List.reverse_cons, List.reverse_cons, List.set_append_right _ _ (by simp [hN])]
      simp [hN]
     rw [hset] at hst
     have HS8 := Lib.hid hst.1
     have HR8 := Lib.hid (HR7.out.grown hst.2 (by intro e; injection e with e; exact hne e.symm))
     have HC8 := Lib.hid ((Chg.of_below HB7.out : Chg F w w7).setAt hg (N * 2 + 1) (.int .i64 (i' : Int)))
     have HX8 := Lib.hid (HX7.out.grown hst.2 (by intro e; injection e with e; omega))
     clear hset hst
     have fz := HS7.out.frozen hlen (N * 2 + 1)
     obtain ⟨q1, q2⟩ := HS7.out.at2 N (by omega)
     clear q1
     go_upto_region 9 with (fail)
     clear HS7 HR7 HB7 HX7 q2 fz
     generalize w7.setCell ⟨g, N * 2 + 1, none⟩ (.int .i64 (i' : Int)) = W8 at *
     have k2 : W8.cell? ⟨k, 2, none⟩ = some (.bool v) := by rw [HR8.out.cell]; rfl
     have f2 := HR8.out.frozen 2
     have x0 : W8.cell? ⟨bx, 0, none⟩ = some (.int .i64 x) := by rw [HX8.out.cell]; rfl
     have HE := Lib.hid (fun (b : Bool) => ((HR8.out.set 2 (.bool b) : Row _ k 47 (gmC (.slice (some ⟨g, 0, none⟩) (N + 1) c) leaf b 0))))
     have HE2 := Lib.hid (fun (b : Bool) => HS8.out.keep (w' := W8.setCell ⟨k, 2, none⟩ (.bool b)) (fun z hz => by injection hz with hz; have hz : g = z := hz; subst hz; exact heap_setCell_other _ _ _ _ hne))
     have HE3 := Lib.hid (fun (b : Bool) => HC8.out.setAt hk 2 (.bool b))
     have HE4 := Lib.hid (fun (b : Bool) => HX8.out.far (p := ⟨k, 2, none⟩) (show bx ≠ k by omega) (.bool b))
     clear HC8 HX8
     cases v
     ·go_upto_region 10 with (fail)
      have y0 : (W8.setCell ⟨k, 2, none⟩ (.bool (decide (x = 3)))).cell? ⟨bx, 0, none⟩ = some (.int .i64 x) := by rw [(HE4.out _).cell]; rfl
      go_wp2
      go_returns
      rw [← HRN.out]
      exact ⟨rfl, HE.out _, HE2.out _, HE3.out _⟩
     ·go_upto_region 10 with (fail)
      have y0 : (W8.setCell ⟨k, 2, none⟩ (.bool true)).cell? ⟨bx, 0, none⟩ = some (.int .i64 x) := by rw [(HE4.out _).cell]; rfl
      go_wp2
      go_returns
      rw [← HRN.out]
      exact ⟨rfl, HE.out _, HE2.out _, HE3.out _⟩
  ·have hjl2 : ¬ (j : Int) < (M : Int) := by omega
   obtain rfl : j = M := by omega
   have HRN : Hid (none = R) := Lib.hid (by have h := HRS.out; rw [List.drop_eq_nil_of_le (by omega)] at h; exact h)
   go_wp2_with fail
   go_returns
   rw [← HRN.out]
   exact ⟨rfl, HB.out⟩
end Go.Proofs.Ytiiimhamfibdbaa
/- What the landed code's exit gives: the part that is over, and what it leaves in memory. Of every grammar in which nothing was wrong. -/
namespace Go.Proofs.Ytiiimhamfibdbaa
open Go.RowKit Go.PlainAid
set_option linter.unusedVariables false
set_option maxRecDepth 100000 in
set_option maxHeartbeats 8000000 in
theorem exit_last {w : World} {k : Nat} {a b d : Value} {og : Option Addr} {c : Nat} (hr : Row w k 47 [.slice og 1 c, a, b, d]) :
  Calls Try.prog 20 #[.pointer (some ⟨k, 0, none⟩)] w fun e w' => e = .returned (.tuple #[.int .i64 0, .bool false]) ∧ w' = w := by
 have k0 : w.cell? ⟨k, 0, none⟩ = some (.slice og 1 c) := by rw [hr.cell]; rfl
 clear hr
 go_enter Try.func20, Try.ntmps20
 go_wp2
 go_returns
 exact ⟨rfl, rfl⟩
set_option maxRecDepth 100000 in
set_option maxHeartbeats 16000000 in
theorem exit_any {w : World} {k g c : Nat} {F : Nat → Prop} {p leaf : Int} {v : Bool} {i N : Nat} {m : List GPl} (hN : m.length = N) (h0 : 0 < N) (hk : F k) (hne : g ≠ k)
    (hr : Row w k 47 (gmC (.slice (some ⟨g, 0, none⟩) (N + 1) c) leaf v 0)) (hs : PlS 44 w 0 (.slice (some ⟨g, 0, none⟩) (N + 1) c) ((p, (i : Int)) :: m).reverse) (hm : N ≤ 100) (hi : i ≤ (rowP p).length) {R : Bool} (hR : overP ((rowP p).drop i) = R) :
    Calls Try.prog 20 #[.pointer (some ⟨k, 0, none⟩)] w fun e w' => e = .returned (.tuple #[.int .i64 (if R = true then p else 0), .bool R]) ∧ Row w' k 47 (gmC (.slice (some ⟨g, 0, none⟩) N c) leaf v 0) ∧ PlS 44 w' 0 (.slice (some ⟨g, 0, none⟩) N c) m.reverse ∧ Chg F w w' := by
  have hlen : ((p, (i : Int)) :: m).reverse.length = N + 1 := by simp [hN]
  obtain ⟨j1, j2⟩ := hs.at2 N (by omega)
  have hlast : ((p, (i : Int)) :: m).reverse[N]'(by omega) = (p, (i : Int)) := by simp [← hN]
  rw [hlast] at j1 j2
  clear hlast
  have hcap : N + 1 ≤ c := by
    rcases hs.shape with ⟨h, _⟩ | ⟨g', c', h, h1, _⟩
    · cases h
    · rw [hlen] at h h1; injection h with _ _ h; omega
  have hrs : PlS 44 w 0 (.slice (some ⟨g, 0, none⟩) N c) m.reverse := by
    have h := hs
    rw [List.reverse_cons] at h
    have h2 : (m.reverse ++ [(p, (i : Int))]).length = N + 1 := by simp [hN]
    rw [← h2] at h
    have h3 := h.front
    rw [show m.reverse.length = N by simp [hN]] at h3
    exact h3
  have HS := Lib.hid hrs
  have HR := Lib.hid hr
  have HRS := Lib.hid hR
  have h17 := rowP_len p
  have k0 : w.cell? ⟨k, 0, none⟩ = some (.slice (some ⟨g, 0, none⟩) (N + 1) c) := by rw [hr.cell]; rfl
  have e1 : (((N + 1 : Nat) : Int) - 1) = (N : Int) := by omega
  have e2 : ((N : Int) == 0) = false := by simp; omega
  clear hs hR hrs
  go_enter Try.func20, Try.ntmps20
  go_upto_region 5 with (fail)
  have hbb : Below w.heap.size w (w.alloc (.cells #[.int .i64 p, .int .i64 (i : Int)] 44)) := (Below.refl _ _).alloc (Nat.le_refl _) _
  have HX1 : Hid (Row (w.alloc (.cells #[.int .i64 p, .int .i64 (i : Int)] 44)) w.heap.size 44 [.int .i64 p, .int .i64 (i : Int)]) := Lib.hid (Row.new w _ _)
  have HR1 := Lib.hid (HR.out.below hbb HR.out.lt)
  have HS1 := Lib.hid (HS.out.below hbb)
  have HB1 := Lib.hid hbb
  have hkx : k < w.heap.size := HR.out.lt
  clear hbb HR HS j1 j2 k0
  generalize w.alloc (.cells #[.int .i64 p, .int .i64 (i : Int)] 44) = W1 at *
  have k0 : W1.cell? ⟨k, 0, none⟩ = some (.slice (some ⟨g, 0, none⟩) (N + 1) c) := by rw [HR1.out.cell]; rfl
  have f0 := HR1.out.frozen 0
  have s1 : N ≤ c := by omega
  go_upto_region 6 with (fail)
  have HR2 : Hid (Row (W1.setCell ⟨k, 0, none⟩ (.slice (some ⟨g, 0, none⟩) N c)) k 47 (gmC (.slice (some ⟨g, 0, none⟩) N c) leaf v 0)) := Lib.hid (HR1.out.set 0 _)
  have HS2 := Lib.hid (HS1.out.keep (w' := W1.setCell ⟨k, 0, none⟩ (.slice (some ⟨g, 0, none⟩) N c)) (fun z hz => by injection hz with hz; have hz : g = z := hz; subst hz; exact heap_setCell_other _ _ _ _ hne))
  have HX2 := Lib.hid (HX1.out.far (p := ⟨k, 0, none⟩) (show w.heap.size ≠ k by omega) (.slice (some ⟨g, 0, none⟩) N c))
  have HC2 := Lib.hid ((Chg.of_below HB1.out : Chg F w W1).setAt hk 0 (.slice (some ⟨g, 0, none⟩) N c))
  clear HR1 HS1 HX1 HB1 k0 f0
  generalize W1.setCell ⟨k, 0, none⟩ (.slice (some ⟨g, 0, none⟩) N c) = W2 at *
  have x0 : W2.cell? ⟨w.heap.size, 0, none⟩ = some (.int .i64 p) := by rw [HX2.out.cell]; rfl
  have x1 : W2.cell? ⟨w.heap.size, 1, none⟩ = some (.int .i64 (i : Int)) := by rw [HX2.out.cell]; rfl
  have HX3 : Hid (Row W2.drew w.heap.size 44 [.int .i64 p, .int .i64 (i : Int)]) := HX2
  have HR3 : Hid (Row W2.drew k 47 (gmC (.slice (some ⟨g, 0, none⟩) N c) leaf v 0)) := HR2
  have HS3 : Hid (PlS 44 W2.drew 0 (.slice (some ⟨g, 0, none⟩) N c) m.reverse) := HS2
  have HC3 : Hid (Chg F w W2.drew) := Lib.hid (HC2.out.trans (chg_draws F W2 1) (fun i hi => .inl hi))
  have hz3 : w.heap.size < W2.drew.heap.size := HX3.out.lt
  clear HX2 HR2 HS2 HC2
  obtain ⟨Rw, hRw⟩ : ∃ Rw, rowP p = Rw := ⟨_, rfl⟩
  have HQ := rowOf_any p W2.drew
  rw [hRw] at HQ hi h17 HRS
  cases Rw with
  | nil =>
    obtain rfl : i = 0 := by simpa using hi
    have HRT : Hid (true = R) := Lib.hid (by have h := HRS.out; simpa [overP] using h)
    have HQ2 : Hid (Calls Try.prog 26 #[.int .i64 p] W2.drew fun e w' => e = .returned (.slice none 0 0) ∧ Below W2.drew.heap.size W2.drew w') := Lib.hid (HQ.mono (by rintro e w' ⟨v, rfl, _, h, rfl⟩; exact ⟨rfl, h⟩))
    clear HQ HRS hRw
    go_region_held3 (fun w' => w'.cell? ⟨w.heap.size, 0, none⟩ = some (.int .i64 p) ∧ w'.cell? ⟨w.heap.size, 1, none⟩ = some (.int .i64 ((0 : Nat) : Int))) (first | exact ⟨x0, x1⟩ | exact ⟨y0, y1⟩) (first
      | (go_at_call 26; with_reducible refine (HQ2.out).mono ?_; rintro e w5 ⟨rfl, hb5⟩
         have HX5 := Lib.hid (HX3.out.below hb5 HX3.out.lt)
         have HR5 := Lib.hid (HR3.out.below hb5 HR3.out.lt)
         have HS5 := Lib.hid (HS3.out.below hb5)
         have HC5 : Hid (Chg F w w5) := Lib.hid (HC3.out.trans (Chg.of_below (F := F) hb5) (fun i hi => .inl hi))
         have y0 : w5.cell? ⟨w.heap.size, 0, none⟩ = some (.int .i64 p) := HX5.out.cell 0
         have y1 : w5.cell? ⟨w.heap.size, 1, none⟩ = some (.int .i64 ((0 : Nat) : Int)) := HX5.out.cell 1
         clear hb5 HQ2))
    clear x0 x1 HX3 HR3 HS3 HC3
    go_wp2_with fail
    go_loopg [39] 1 (fun gk iv wr => iv = .int .i64 0 ∧ wr = w5 ∧ 1 ≤ gk)
    case atStart => exact ⟨rfl, rfl, by omega⟩
    case round =>
      obtain ⟨rfl, rfl, _⟩ := hrel
      obtain rfl := HRT.out
      go_wp2_with fail
      go_returns
      exact ⟨rfl, HR5.out, HS5.out, HC5.out⟩
  | cons q r =>
    obtain ⟨M, hM⟩ : ∃ M, (q :: r).length = M := ⟨_, rfl⟩
    have hM1 : r.length + 1 = M := by rw [← hM]; rfl
    have HQ2 : Hid (Calls Try.prog 26 #[.int .i64 p] W2.drew fun e w' => e = .returned (.slice (some ⟨W2.drew.heap.size, 0, none⟩) M M) ∧ PlS 73 w' 0 (.slice (some ⟨W2.drew.heap.size, 0, none⟩) M M) (q :: r) ∧ Below W2.drew.heap.size W2.drew w') := Lib.hid (HQ.mono (by
      rintro e w' ⟨v, rfl, h1, h, rfl⟩
      have e1 : rowV W2.drew.heap.size (q :: r) = .slice (some ⟨W2.drew.heap.size, 0, none⟩) M M := by rw [← hM1]; rfl
      rw [e1] at h1 ⊢
      exact ⟨rfl, h1.mono (Nat.zero_le _), h⟩))
    clear HQ hRw
    have hiM : i ≤ M := by omega
    have hM9 : M ≤ 7 := by omega
    clear hM1
    go_region_held3 (fun w' => w'.cell? ⟨w.heap.size, 0, none⟩ = some (.int .i64 p) ∧ w'.cell? ⟨w.heap.size, 1, none⟩ = some (.int .i64 (i : Int))) (first | exact ⟨x0, x1⟩ | exact ⟨y0, y1⟩) (first
      | (go_at_call 26; with_reducible refine (HQ2.out).mono ?_; rintro e w5 ⟨rfl, hp5, hb5⟩
         have HX5 := Lib.hid (HX3.out.below hb5 HX3.out.lt)
         have HR5 := Lib.hid (HR3.out.below hb5 HR3.out.lt)
         have HS5 := Lib.hid (HS3.out.below hb5)
         have HC5 : Hid (Chg F w w5) := Lib.hid (HC3.out.trans (Chg.of_below (F := F) hb5) (fun i hi => .inl hi))
         have HP5 := Lib.hid hp5
         have y0 : w5.cell? ⟨w.heap.size, 0, none⟩ = some (.int .i64 p) := HX5.out.cell 0
         have y1 : w5.cell? ⟨w.heap.size, 1, none⟩ = some (.int .i64 (i : Int)) := HX5.out.cell 1
         clear hb5 hp5 HQ2))
    clear x0 x1 HX3 HR3 HS3 HC3
    obtain ⟨b9, hb9⟩ : ∃ b9, W2.heap.size = b9 := ⟨_, rfl⟩
    rw [hb9]
    replace HP5 : Hid (PlS 73 w5 0 (.slice (some ⟨b9, 0, none⟩) M M) (q :: r)) := by rw [← hb9]; exact HP5
    obtain ⟨og, hog⟩ : ∃ og : Option Addr, (if M = i then some (⟨b9, 0, none⟩ : Addr) else some ⟨b9, i * 2, none⟩) = og := ⟨_, rfl⟩
    have hog2 : i < M → og = some ⟨b9, i * 2, none⟩ := fun h => by rw [← hog, if_neg (by omega)]
    rw [hog]
    clear hb9 hog
    go_wp2_with fail
    go_loopg [39] (M - i) (fun gk iv wr => ∃ j : Nat, iv = .int .i64 (j : Int) ∧ i + j ≤ M ∧ M - i - j ≤ gk ∧ Hid (overP (((q :: r).drop (i + j))) = R) ∧ Hid (Row wr w.heap.size 44 [.int .i64 p, .int .i64 (i : Int)]) ∧ Hid (Row wr k 47 (gmC (.slice (some ⟨g, 0, none⟩) N c) leaf v 0)) ∧ Hid (PlS 44 wr 0 (.slice (some ⟨g, 0, none⟩) N c) m.reverse) ∧ Hid (Chg F w wr) ∧ Hid (PlS 73 wr 0 (.slice (some ⟨b9, 0, none⟩) M M) (q :: r)))
    case atStart => exact ⟨0, rfl, by omega, by omega, HRS, HX5, HR5, HS5, HC5, HP5⟩
    case round =>
      clear HRS HX5 HR5 HS5 HC5 HP5 y0 y1
      obtain ⟨j, rfl, hj, hgk, HRS, HX, HR, HS, HC, HP⟩ := hrel
      by_cases hjl : i + j < M
      · have hjl2 : (j : Int) < ((M - i : Nat) : Int) := by omega
        obtain rfl := hog2 (by omega)
        have hjr : i + j < (q :: r).length := by omega
        obtain ⟨y1, y2⟩ := HP.out.at2 (i + j) hjr
        have hdr : (q :: r).drop (i + j) = (q :: r)[i + j] :: (q :: r).drop (i + j + 1) := List.drop_eq_getElem_cons hjr
        have HSc := HRS.out
        rw [hdr, overP] at HSc
        obtain ⟨⟨x, tm⟩, hxt⟩ : ∃ z, (q :: r)[i + j] = z := ⟨_, rfl⟩
        rw [hxt] at y1 y2 HSc
        have e8 : (i + j) * 2 = i * 2 + j * 2 := Nat.add_mul ..
        rw [e8] at y1 y2
        have HSC := Lib.hid HSc
        have hjm : j < M - i := by omega
        clear HSc hdr hxt HRS e8
        go_upto_region 9 with (fail)
        have hbb : Below wr.heap.size wr (wr.alloc (.cells #[.int .i64 x, .int .i64 tm] 73)) := (Below.refl _ _).alloc (Nat.le_refl _) _
        have HY : Hid (Row (wr.alloc (.cells #[.int .i64 x, .int .i64 tm] 73)) wr.heap.size 73 [.int .i64 x, .int .i64 tm]) := Lib.hid (Row.new wr _ [.int .i64 x, .int .i64 tm])
        have HX4 := Lib.hid (HX.out.below hbb HX.out.lt)
        have HR4 := Lib.hid (HR.out.below hbb HR.out.lt)
        have HS4 := Lib.hid (HS.out.below hbb)
        have HC4 : Hid (Chg F w (wr.alloc (.cells #[.int .i64 x, .int .i64 tm] 73))) := Lib.hid (HC.out.trans (Chg.of_below (F := F) hbb) (fun i hi => .inl hi))
        have HP4 := Lib.hid (HP.out.below hbb)
        clear hbb HX HR HS HC HP y1 y2
        generalize wr.alloc (.cells #[.int .i64 x, .int .i64 tm] 73) = W at *
        generalize wr.heap.size = bx at *
        have x1 : W.cell? ⟨bx, 1, none⟩ = some (.int .i64 tm) := by rw [HY.out.cell]; rfl
        clear HY
        by_cases htm : tm = 0
        · subst htm
          have HRT : Hid (false = R) := Lib.hid (by have h := HSC.out; simpa using h)
          obtain rfl := HRT.out
          go_wp2_with fail
          go_returns
          exact ⟨rfl, HR4.out, HS4.out, HC4.out⟩
        · have hb0 : (tm == 0) = false := by simpa using htm
          have HRS : Hid (overP ((q :: r).drop (i + (j + 1))) = R) := Lib.hid (by have h := HSC.out; rw [show decide ((x, tm).2 ≠ 0) = true from decide_eq_true htm, Bool.true_and] at h; exact h)
          clear HSC htm
          go_wp2_with fail
          go_roundg (M - i - (j + 1))
          case measure => omega
          case rel => exact ⟨j + 1, by simp, by omega, by omega, HRS, HX4, HR4, HS4, HC4, HP4⟩
      · have hjl2 : ¬ (j : Int) < ((M - i : Nat) : Int) := by omega
        have hjM : i + j = M := by omega
        have HRT : Hid (true = R) := Lib.hid (by have h := HRS.out; rw [List.drop_eq_nil_of_le (by omega)] at h; exact h)
        obtain rfl := HRT.out
        have z0 : wr.cell? ⟨w.heap.size, 0, none⟩ = some (.int .i64 p) := HX.out.cell 0
        go_wp2_with fail
        go_returns
        exact ⟨rfl, HR.out, HS.out, HC.out⟩
end Go.Proofs.Ytiiimhamfibdbaa
/- append of one open element: the slice stands where it stood, or at the heap's end. Of every slice of open elements. -/
namespace Go.Proofs.Ytiiimhamfibdbaa
open Go.RowKit Go.PlainAid
set_option linter.unusedVariables false
theorem infoElem : (Try.prog.info? 44).map (fun i => (i.zero, i.size, i.bytes)) = some (some (.agg #[.int .i64 0, .int .i64 0]), 2, 16) := by kernel_rfl
theorem pls_row {t : TypeId} {w : World} {base g n c : Nat} {l : List GPl} (h : PlS t w base (.slice (some ⟨g, 0, none⟩) n c) l) : l.length = n ∧ base ≤ g ∧ ∃ cur, w.heap[g]? = some (.cells cur t (0, 0)) ∧ n ≤ c ∧ c ≤ maxLen ∧ cur.size = c * 2 ∧ cur.toList.take (n * 2) = plsC l := by
 obtain ⟨hl, ⟨h1, _⟩ | ⟨g', cap, cur, hv, hg, hh, hn, hc, hs, ht⟩⟩ := h
 ·cases h1
 ·simp only [Value.slice.injEq, Option.some.injEq, Addr.mk.injEq, and_true] at hv
  obtain ⟨rfl, rfl, rfl⟩ := hv
  exact ⟨rfl, hg, cur, hh, hn, hc, hs, ht⟩
set_option maxHeartbeats 4000000 in
theorem run_append_el {w : World} (ty : TypeId) {g n c gx : Nat} {l : List GPl} (q : GPl) (h : PlS 44 w 0 (.slice (some ⟨g, 0, none⟩) n c) l) (hx : Row w gx 44 (plC q)) (hn : n ≤ 1000) :
  ∃ g' c' w', (Builtin.append_ #[45, 45] ty #[.slice (some ⟨g, 0, none⟩) n c, .slice (some ⟨gx, 0, none⟩) 1 1]).run Try.prog w = .ok (.slice (some ⟨g', 0, none⟩) (n + 1) c') w' ∧ PlS 44 w' 0 (.slice (some ⟨g', 0, none⟩) (n + 1) c') (l ++ [q]) ∧ (g' = g ∨ g' = w.heap.size) ∧ w.grownBy w' (some g) := by
 obtain ⟨i0, hi, hz0, hz1, hz2⟩ := info_parts infoElem
 obtain ⟨hln, _, cur, hcur, hnc, hcm, hcs, htk⟩ := pls_row h
 have hnews : ∀ j u, (plC q)[j]? = some u → w.cell? ((⟨gx, 0, none⟩ : Addr).add j) = some u := fun j u hj => by
  have hA : (⟨gx, 0, none⟩ : Addr).add j = ⟨gx, j, none⟩ := by unfold Addr.add; split <;> simp_all
  rw [hA, hx.cell]; exact hj
 have hown : w.ownsRow 0 44 2 (.slice (some ⟨g, 0, none⟩) n c) n (plsC l) := by have h' := h; unfold PlS at h'; rw [hln] at h'; exact h'
 obtain ⟨v', w', hr, h2, h3, h4⟩ := run_append_own (P := Try.prog) (w := w) 0 45 ty 44 i0 _ 2 16 Try.underlying45 hi hz0 hz1 hz2 rfl (by decide) (.slice (some ⟨g, 0, none⟩) n c) n (plsC l) hown ⟨gx, 0, none⟩ 1 1 (plC q) rfl hnews (by simp [plC, Value.oneCell']) (by unfold maxLen; omega) (by omega) (Nat.zero_le _)
 have hfin : ∀ gz cz, v' = .slice (some ⟨gz, 0, none⟩) (n + 1) cz → PlS 44 w' 0 (.slice (some ⟨gz, 0, none⟩) (n + 1) cz) (l ++ [q]) := fun gz cz e => by
  rw [e] at h2
  unfold PlS
  rw [List.length_append, hln, plsC_append]
  exact h2
 by_cases hroom : n + 1 ≤ c
 ·have hrr := run_append_room (P := Try.prog) w 45 ty 44 i0 Try.underlying45 hi g n c cur hcur ⟨gx, 0, none⟩ 1 1 (plC q) (by rw [hz1]; rfl) hnews (by simp [plC, Value.oneCell']) hroom (by rw [hz1, hcs]; show n * 2 + 2 ≤ c * 2; omega)
  rw [hr] at hrr
  injection hrr with e1 e2
  refine ⟨g, c, w', by rw [hr, e1], hfin _ _ e1, .inl rfl, h3⟩
 ·have hrr := run_append_grow (P := Try.prog) w 45 ty 44 i0 _ Try.underlying45 hi hz0 ⟨g, 0, none⟩ n c (plsC l) (by rw [hz1]; exact hown.1) (hown.cells (g := g) rfl) ⟨gx, 0, none⟩ 1 1 (plC q) (by rw [hz1]; rfl) hnews (by omega) (by omega) (growslice_fits (by omega) (by rw [hz2]; omega))
  rw [hr] at hrr
  injection hrr with e1 e2
  refine ⟨w.heap.size, _, w', by rw [hr, e1], hfin _ _ e1, .inr rfl, h3⟩
theorem wpList_append_el {w : World} {ops : Array Oper} {rest : List Oper} {o : Oper} {a : Act} {Q : Exit → Act → World → Prop} (hgd : o.guard = none) (s x : Operand)
  (ho : o.op = .call { callee := .builtin .append, args := #[s, x], argTypes := #[45, 45] })
  {g n c gx : Nat} {l : List GPl} (q : GPl) (hs : a.eval s = .slice (some ⟨g, 0, none⟩) n c) (hx : a.eval x = .slice (some ⟨gx, 0, none⟩) 1 1) (h : PlS 44 w 0 (.slice (some ⟨g, 0, none⟩) n c) l) (hr : Row w gx 44 (plC q)) (hn : n ≤ 1000)
  (hK : ∀ g' c' w', PlS 44 w' 0 (.slice (some ⟨g', 0, none⟩) (n + 1) c') (l ++ [q]) → (g' = g ∨ g' = w.heap.size) → w.grownBy w' (some g) → wpList Try.prog ops Q rest (a.put o.dst (.slice (some ⟨g', 0, none⟩) (n + 1) c')) w') : wpList Try.prog ops Q (o :: rest) a w := by
 obtain ⟨g', c', w', hrun, h2, h3, h4⟩ := run_append_el o.type q h hr hn
 refine wpList_plain hgd fun K hK2 => ?_
 unfold Oper.wp execOp
 simp only [ho, resolve, invoke, builtin, Sem.run_bind, Sem.run_pure, Result.andThen_ok, List.map_toArray, List.map_cons, List.map_nil, hs, hx, hrun]
 exact hK2 _ _ (hK g' c' w' h2 h3 h4)
end Go.Proofs.Ytiiimhamfibdbaa
