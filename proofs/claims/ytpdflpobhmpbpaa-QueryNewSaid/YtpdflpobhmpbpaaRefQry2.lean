/- Layer 18's reference's queries in memory: New and Date. -/
import Derived.Test.YtpdflpobhmpbpaaRefQry
import Derived.Deep.CutRange
namespace Go.Proofs.Ytpdflpobhmpbpaa
open Go.RowKit Go.PlainAid
set_option linter.unusedVariables false
/-- Block g holds the reference's queries for the texts l (a slice that came in), with these answers. -/
def RQ (w : World) (g base : Nat) (ox : Option Addr) (c : Nat) (l : List ByteArray) (q : QS) (v : Value) : Prop :=
  Row w g 39 [.slice ox l.length c, v, .string (strOfNums q.came), .bool q.begun] ∧ Ans w base v (q.found l)
set_option maxRecDepth 100000 in
set_option maxHeartbeats 4000000 in
theorem refQNew_any (ox : Option Addr) (c : Nat) (l : List ByteArray) (w : World) (hl : l.length ≤ 100000000) :
    Calls Try.prog 14 #[.slice ox l.length c] w fun e w' => ∃ v, e = .returned (.pointer (some ⟨w.heap.size, 0, none⟩)) ∧ RQ w' w.heap.size (w.heap.size + 1) ox c l QS.zero v ∧ Below w.heap.size w w' := by
  have HZ : Hid (∀ n, avs (List.replicate n (false, ⟨#[]⟩)) ++ avs [(false, ⟨#[]⟩)] = avs (List.replicate (n + 1) (false, ⟨#[]⟩))) := Lib.hid (fun n => by rw [← avs_append, List.replicate_succ'])
  have HR0 : Hid (Row (w.alloc (.cells #[.slice ox l.length c, .slice none 0 0, .string ⟨#[]⟩, .bool false] 39)) w.heap.size 39 [.slice ox l.length c, .slice none 0 0, .string ⟨#[]⟩, .bool false]) := Lib.hid (Row.new w _ [.slice ox l.length c, .slice none 0 0, .string ⟨#[]⟩, .bool false])
  have HB0 : Hid (Below w.heap.size w (w.alloc (.cells #[.slice ox l.length c, .slice none 0 0, .string ⟨#[]⟩, .bool false] 39))) := Lib.hid ((Below.refl _ _).alloc (Nat.le_refl _) _)
  have hsz : (w.alloc (.cells #[.slice ox l.length c, .slice none 0 0, .string ⟨#[]⟩, .bool false] 39)).heap.size = w.heap.size + 1 := by simp
  go_enter Try.func14, Try.ntmps14
  go_wp2_with fail
  generalize w.alloc (.cells #[.slice ox l.length c, .slice none 0 0, .string ⟨#[]⟩, .bool false] 39) = w1 at *
  go_loopg [4] l.length (fun gk iv wr => ∃ (i : Nat) (v : Value), iv = .int .i64 (i : Int) ∧ i ≤ l.length ∧ l.length - i ≤ gk ∧ Hid (Row wr w.heap.size 39 [.slice ox l.length c, v, .string ⟨#[]⟩, .bool false] ∧ Ans wr (w.heap.size + 1) v (List.replicate i (false, ⟨#[]⟩)) ∧ Below w.heap.size w wr ∧ w.heap.size + 1 ≤ wr.heap.size))
  case atStart => exact ⟨0, .slice none 0 0, rfl, by omega, by omega, Lib.hid ⟨HR0.out, Ans.nil _ _, HB0.out, by omega⟩⟩
  case round =>
    clear HR0 HB0
    obtain ⟨i, v, rfl, hi, hgk, HO⟩ := hrel
    obtain ⟨hR, hA, hB, hsz2⟩ := HO.out
    by_cases hlt : i < l.length
    · have hlt2 : (i : Int) < (l.length : Int) := by omega
      have q1 : wr.cell? ⟨w.heap.size, 1, none⟩ = some v := hR.cell 1
      have HR := Lib.hid hR
      have HA1 := Lib.hid (hA.below ((Below.refl _ wr).alloc (Nat.le_refl _) (.cells #[.bool false, .string ⟨#[]⟩] 43)))
      have HR1 := Lib.hid (hR.alloc (.cells #[.bool false, .string ⟨#[]⟩] 43))
      have HB1 := Lib.hid (hB.alloc hB.size (.cells #[.bool false, .string ⟨#[]⟩] 43))
      have hw1 : w.heap.size + 1 ≤ (wr.alloc (.cells #[.bool false, .string ⟨#[]⟩] 43)).heap.size := by simp; omega
      have HCl : Hid (∀ j u, (avs [((false, ⟨#[]⟩) : Bool × ByteArray)])[j]? = some u → (wr.alloc (.cells #[.bool false, .string ⟨#[]⟩] 43)).cell? ((⟨wr.heap.size, 0, none⟩ : Addr).add j) = some u) := Lib.hid (fun j u hj => row_cells18 (Row.new wr 43 (avs [(false, ⟨#[]⟩)])) j u hj)
      have HBw : Hid (Below (w.heap.size + 1) wr (wr.alloc (.cells #[.bool false, .string ⟨#[]⟩] 43))) := Lib.hid ((Below.refl (w.heap.size + 1) wr).alloc hsz2 _)
      have h63 : (List.replicate i ((false, ⟨#[]⟩) : Bool × ByteArray)).length + ([((false, ⟨#[]⟩) : Bool × ByteArray)]).length ≤ 1000000000 := by rw [List.length_replicate, List.length_singleton]; omega
      clear hR hA hB HO
      go_wp2_with (at_builtin; refine wpList_append_ans rfl (.tmp 18) (.tmp 20) rfl (w.heap.size + 1) rfl HA1.out hw1 ⟨wr.heap.size, 0, none⟩ 1 1 [(false, ⟨#[]⟩)] rfl rfl HCl.out h63 ?_)
      intro v' X1 hA2 hg2 _
      have hB2 : Below (w.heap.size + 1) wr X1 := HA1.out.grown HBw.out hw1 hg2
      have hR2 : Row X1 w.heap.size 39 [.slice ox l.length c, v, .string ⟨#[]⟩, .bool false] := HR1.out.grown hg2 (fun e => by have := (HA1.out.ob e.symm).1; omega)
      have f1 := hR2.frozen 1
      have c1 : X1.cell? ⟨w.heap.size, 1, none⟩ = some v := hR2.cell 1
      have hA3 : Ans X1 (w.heap.size + 1) v' (List.replicate (i + 1) (false, ⟨#[]⟩)) := by rw [List.replicate_succ']; exact hA2
      obtain ⟨o', c', hv'⟩ := hA3.isSl
      rw [List.length_replicate] at hv'
      have HO : Hid (Row (X1.setCell ⟨w.heap.size, 1, none⟩ v') w.heap.size 39 [.slice ox l.length c, v', .string ⟨#[]⟩, .bool false] ∧ Ans (X1.setCell ⟨w.heap.size, 1, none⟩ v') (w.heap.size + 1) v' (List.replicate (i + 1) (false, ⟨#[]⟩)) ∧ Below w.heap.size w (X1.setCell ⟨w.heap.size, 1, none⟩ v') ∧ w.heap.size + 1 ≤ (X1.setCell ⟨w.heap.size, 1, none⟩ v').heap.size) :=
        Lib.hid ⟨hR2.set 1 v', hA3.far (p := ⟨w.heap.size, 1, none⟩) (by show w.heap.size < w.heap.size + 1; omega) v', (HB1.out.trans (HA1.out.grown (Below.refl (w.heap.size + 1) _) hw1 hg2 |>.mono (Nat.le_succ _))).setCell (Nat.le_refl _) v', by simp; have := hB2.size; omega⟩
      clear hA2 hg2 hB2 hR2 hA3 HCl HBw HB1 HR1 HA1
      subst hv'
      go_wp2
      go_roundg (l.length - (i + 1))
      case measure => omega
      case rel => exact ⟨i + 1, _, by simp, by omega, by omega, HO⟩
    · have hlt2 : ¬ (i : Int) < (l.length : Int) := by omega
      obtain rfl : i = l.length := by omega
      have HF : Hid (RQ wr w.heap.size (w.heap.size + 1) ox c l QS.zero v ∧ Below w.heap.size w wr) := Lib.hid ⟨⟨hR, by rw [QS.zero_found]; exact hA⟩, hB⟩
      clear hR hA hB HO
      go_wp2
      go_returns
      exact ⟨rfl, ⟨v, HF.out.1⟩, HF.out.2⟩
theorem below_drew18 {B : Nat} {a w : World} (h : Below B a w) (n : Nat) : Below B a (w.drewN n) := ⟨h.os, h.tape, h.output, h.size, h.block⟩
theorem Ans.far18 {w : World} {base : Nat} {v : Value} {l : List (Bool × ByteArray)} (h : Ans w base v l) {k o : Nat} (hp : ∀ b, v.ownBlock = some b → b ≠ k) (u : Value) : Ans (w.setCell ⟨k, o, none⟩ u) base v l :=
  h.chg (F := fun i => i = k) ⟨rfl, rfl, rfl, by simp, fun i _ hi => Below.heap_setCell w _ u i hi⟩ hp
theorem cmp_str (x : ByteArray) (l : List Int) (hl : IsB l) : (x.toList == (strOfNums l).toList) = decide (bl x = l) := by
  by_cases h : bl x = l
  · subst h; rw [str_bl]; simp
  · rw [decide_eq_false h]
    have hn : ¬ x.toList = (strOfNums l).toList := by
      intro e
      apply h
      have hx : x = strOfNums l := by
        rw [ByteArray.toList_eq, ByteArray.toList_eq] at e
        have := congrArg List.toArray e
        simp only [Array.toArray_toList] at this
        exact ByteArray.ext this
      rw [hx, bl_str hl]
    simpa using hn
set_option maxRecDepth 100000 in
set_option maxHeartbeats 8000000 in
theorem refQDate_any {w : World} {g base : Nat} {ox : Option Addr} {c : Nat} {l : List ByteArray} {q : QS} {v : Value} (d : ByteArray) (h : RQ w g base ox c l q v) (hC : Came w ox (svs l)) (hl : l.length ≤ c) (hc : c ≤ maxLen) (hn : l.length ≤ 100000000) (hok : q.Ok) (hbg : base ≤ w.heap.size) (hvg : ∀ b, v.ownBlock = some b → b ≠ g) :
    Calls Try.prog 18 #[.pointer (some ⟨g, 0, none⟩), .string d] w fun r w' => ∃ v', r = .returned (.tuple #[]) ∧ RQ w' g w.heap.size ox c l (q.date d) v' ∧ Chg (fun i => i = g) w w' := by
  obtain ⟨hR, hA⟩ := h
  have hl9 : (l.length : Int) ≤ 9223372036854775807 := by unfold maxLen at hc; omega
  have hgw := hR.lt
  have HR := Lib.hid hR
  have HA := Lib.hid hA
  have HC := Lib.hid hC
  have HX : Hid (∀ x : ByteArray, (x.toList == (strOfNums q.came).toList) = decide (bl x = q.came)) := Lib.hid (fun x => cmp_str x _ hok.isB)
  have HD : Hid (∀ x, (q.date d).ans x = if (q.begun && !(q.ans x).1 && decide (bl x = q.came)) = true then (true, d) else q.ans x) := Lib.hid (fun x => rfl)
  have HT : Hid (∀ i (h : i < l.length), (q.date d).found (l.take (i + 1)) = (q.date d).found (l.take i) ++ [(q.date d).ans l[i]]) := Lib.hid (fun i h => by rw [List.take_succ_eq_append_getElem h, QS.found_append]; rfl)
  have HG : Hid (∀ i (h : i < l.length), (q.found l)[i]'(by rw [QS.found_len]; exact h) = q.ans l[i]) := Lib.hid (fun i h => QS.found_at q h)
  have hfl := QS.found_len q l
  have HV : Hid (∀ i (h : i < l.length), ∃ gv cv, v = .slice (some ⟨gv, 0, none⟩) l.length cv ∧ l.length ≤ cv ∧ gv < w.heap.size) := Lib.hid (fun i h => by
    rcases hA.shape with ⟨_, h0⟩ | ⟨gv, cv, h1, h2, _, _, h3⟩
    · have := QS.found_len q l; rw [h0] at this; simp at this; omega
    · rw [QS.found_len] at h1 h2; exact ⟨gv, cv, h1, h2, h3⟩)
  clear hR hA hC hok
  go_enter Try.func18, Try.ntmps18
  go_wp2_with fail
  have HB0 : Hid (Below w.heap.size w (w.alloc (.cells #[] 43))) := Lib.hid ((Below.refl _ _).alloc (Nat.le_refl _) _)
  have HA0 : Hid (Ans (w.alloc (.cells #[] 43)) w.heap.size (.slice (some ⟨w.heap.size, 0, none⟩) 0 0) []) := Lib.hid (Ans.made (Row.new w _ []) (Nat.le_refl _))
  generalize w.alloc (.cells #[] 43) = w1 at *
  go_loopg [4, 5] l.length (fun gk ov iv wr => ∃ (i : Nat), iv = .int .i64 (i : Int) ∧ i ≤ l.length ∧ l.length - i ≤ gk ∧ Hid (Ans wr w.heap.size ov ((q.date d).found (l.take i)) ∧ Below w.heap.size w wr))
  case atStart => exact ⟨0, rfl, by omega, by omega, Lib.hid ⟨HA0.out, HB0.out⟩⟩
  case round =>
    clear HA0 HB0
    obtain ⟨i, rfl, hi, hgk, HO⟩ := hrel
    have HR1 := Lib.hid (HR.out.below HO.out.2 hgw)
    have q0 : wr.cell? ⟨g, 0, none⟩ = some (.slice ox l.length c) := HR1.out.cell 0
    by_cases hlt : i < l.length
    · have hlt2 : (i : Int) < (l.length : Int) := by omega
      obtain ⟨gv, cv, rfl, hcv, hgv⟩ := HV.out i hlt
      have q1 : wr.cell? ⟨g, 1, none⟩ = some (.slice (some ⟨gv, 0, none⟩) l.length cv) := HR1.out.cell 1
      obtain ⟨⟨rv, dt⟩, he⟩ : ∃ e, q.ans l[i] = e := ⟨_, rfl⟩
      have hcv' : i < cv := by omega
      have hA1 : Ans wr base (.slice (some ⟨gv, 0, none⟩) l.length cv) (q.found l) := HA.out.chg (F := fun j => w.heap.size ≤ j) ⟨HO.out.2.os, HO.out.2.tape, HO.out.2.output, HO.out.2.size, fun j hj hn => HO.out.2.block j hj⟩ (fun b hb e => by cases hb; exact absurd e (by show ¬ w.heap.size ≤ gv; omega))
      obtain ⟨x0, x1⟩ : wr.cell? ⟨gv, i * 2, none⟩ = some (.bool rv) ∧ wr.cell? ⟨gv, i * 2 + 1, none⟩ = some (.string dt) := hA1.ansAt i (by omega) (by rw [HG.out i hlt]; exact he)
      have hsz := HO.out.2.size
      have HNb : Hid (∀ b, u4.ownBlock = some b → b ≠ wr.heap.size) := Lib.hid (fun b hb e => by have := (HO.out.1.ob hb).2; omega)
      have HRb := Lib.hid (HR1.out.alloc (.cells #[.bool rv, .string dt] 43))
      obtain ⟨ad, rfl, _, hcell⟩ := came_str (HC.out.below HO.out.2) hlt
      have hcW : (wr.alloc (.cells #[.bool rv, .string dt] 43)).cell? (ad.add i) = some (.string l[i]) := by
        obtain ⟨ad', h1, _, h2⟩ := came_str ((HC.out.below HO.out.2).alloc (.cells #[.bool rv, .string dt] 43)) hlt
        cases h1; exact h2
      have HTi := Lib.hid (HT.out i hlt)
      have HDi := Lib.hid (HD.out l[i])
      have HXi := HX.out l[i]
      have r0 : (wr.alloc (.cells #[.bool rv, .string dt] 43)).cell? ⟨g, 0, none⟩ = some (.slice (some ad) l.length c) := HRb.out.cell 0
      have r2 : (wr.alloc (.cells #[.bool rv, .string dt] 43)).cell? ⟨g, 2, none⟩ = some (.string (strOfNums q.came)) := HRb.out.cell 2
      have r3 : (wr.alloc (.cells #[.bool rv, .string dt] 43)).cell? ⟨g, 3, none⟩ = some (.bool q.begun) := HRb.out.cell 3
      have z0 : (wr.alloc (.cells #[.bool rv, .string dt] 43)).cell? ⟨wr.heap.size, 0, none⟩ = some (.bool rv) := (Row.new wr _ [.bool rv, .string dt]).cell 0
      generalize l[i] = x at *
      rw [he] at HDi
      clear hA1 HT HD HX HG HV HA HR HR1 HC
      cases hb : q.begun with
      | false =>
        rw [hb] at HDi r3
        have hE : (q.date d).ans x = (rv, dt) := by rw [HDi.out]; rfl
        rw [hE] at HTi
        clear HDi hE HXi hb he hcv hgv
        go_wp2_with fail
        go_quiet (fail)
        have HZA : Hid (Ans ((wr.alloc (.cells #[.bool (rv), .string dt] 43)).drewN nq) w.heap.size u4 ((q.date d).found (l.take i))) := Lib.hid ((HO.out.1.below ((Below.refl _ wr).alloc (Nat.le_refl _) (.cells #[.bool (rv), .string dt] 43))).drewN nq)
        have HZB : Hid (Below w.heap.size w ((wr.alloc (.cells #[.bool (rv), .string dt] 43)).drewN nq)) := Lib.hid (below_drew18 (HO.out.2.trans (((Below.refl _ wr).alloc (Nat.le_refl _) _).mono HO.out.2.size)) nq)
        have HZX : Hid (Row ((wr.alloc (.cells #[.bool (rv), .string dt] 43)).drewN nq) wr.heap.size 43 [.bool (rv), .string dt]) := Lib.hid (Row.new wr _ [.bool (rv), .string dt])
        have HZR : Hid True := Lib.hid trivial
        clear q0 q1 x0 x1 r0 r2 r3 z0 hcell hcW HRb HO
        generalize (wr.alloc (.cells #[.bool (rv), .string dt] 43)).drewN nq = Z at *
        go_upto_region 7 with (fail)
        have HA2 : Hid (Ans (Z.alloc (.cells #[.bool (rv), .string (dt)] 43)) w.heap.size u4 ((q.date d).found (l.take i))) := Lib.hid (HZA.out.below ((Below.refl _ _).alloc (Nat.le_refl _) _))
        have HCl : Hid (∀ j u, (avs [((rv, dt) : Bool × ByteArray)])[j]? = some u → (Z.alloc (.cells #[.bool (rv), .string (dt)] 43)).cell? ((⟨Z.heap.size, 0, none⟩ : Addr).add j) = some u) := Lib.hid (fun j u hj => row_cells18 (Row.new Z 43 (avs [(rv, dt)])) j u hj)
        have hw1 : w.heap.size ≤ (Z.alloc (.cells #[.bool (rv), .string (dt)] 43)).heap.size := by have := HZB.out.size; simp; omega
        have HB1 : Hid (Below w.heap.size w (Z.alloc (.cells #[.bool (rv), .string (dt)] 43))) := Lib.hid (HZB.out.alloc HZB.out.size _)
        have h63 : ((q.date d).found (l.take i)).length + ([((rv, dt) : Bool × ByteArray)]).length ≤ 1000000000 := by rw [QS.found_len, List.length_take, List.length_singleton]; omega
        have hb0 := HZX.out.cell 0
        have hb1 := HZX.out.cell 1
        simp at hb0 hb1
        go_wp2_with (at_builtin; refine wpList_append_ans rfl (.tmp 49) (.tmp 51) rfl w.heap.size rfl HA2.out hw1 ⟨Z.heap.size, 0, none⟩ 1 1 [(rv, dt)] rfl rfl HCl.out h63 ?_)
        intro v' X1 hA3 hg2 _
        have HO2 : Hid (Ans X1 w.heap.size v' ((q.date d).found (l.take (i + 1))) ∧ Below w.heap.size w X1) := Lib.hid ⟨by rw [HTi.out]; exact hA3, HA2.out.grown HB1.out hw1 hg2⟩
        clear hA3 hg2 HA2 HB1 HCl HZA HZB HZX HZR
        go_wp2
        go_roundg (l.length - (i + 1))
        case measure => omega
        case rel => exact ⟨i + 1, by simp, by omega, by omega, HO2⟩
      | true =>
        rw [hb] at HDi r3
        cases rv with
        | true =>
          have hE : (q.date d).ans x = (true, dt) := by rw [HDi.out]; rfl
          rw [hE] at HTi
          clear HDi hE HXi hb he hcv hgv
          go_wp2_with fail
          go_quiet (fail)
          have HZA : Hid (Ans ((wr.alloc (.cells #[.bool (true), .string dt] 43)).drewN nq) w.heap.size u4 ((q.date d).found (l.take i))) := Lib.hid ((HO.out.1.below ((Below.refl _ wr).alloc (Nat.le_refl _) (.cells #[.bool (true), .string dt] 43))).drewN nq)
          have HZB : Hid (Below w.heap.size w ((wr.alloc (.cells #[.bool (true), .string dt] 43)).drewN nq)) := Lib.hid (below_drew18 (HO.out.2.trans (((Below.refl _ wr).alloc (Nat.le_refl _) _).mono HO.out.2.size)) nq)
          have HZX : Hid (Row ((wr.alloc (.cells #[.bool (true), .string dt] 43)).drewN nq) wr.heap.size 43 [.bool (true), .string dt]) := Lib.hid (Row.new wr _ [.bool (true), .string dt])
          have HZR : Hid True := Lib.hid trivial
          clear q0 q1 x0 x1 r0 r2 r3 z0 hcell hcW HRb HO
          generalize (wr.alloc (.cells #[.bool (true), .string dt] 43)).drewN nq = Z at *
          go_upto_region 7 with (fail)
          have HA2 : Hid (Ans (Z.alloc (.cells #[.bool (true), .string (dt)] 43)) w.heap.size u4 ((q.date d).found (l.take i))) := Lib.hid (HZA.out.below ((Below.refl _ _).alloc (Nat.le_refl _) _))
          have HCl : Hid (∀ j u, (avs [((true, dt) : Bool × ByteArray)])[j]? = some u → (Z.alloc (.cells #[.bool (true), .string (dt)] 43)).cell? ((⟨Z.heap.size, 0, none⟩ : Addr).add j) = some u) := Lib.hid (fun j u hj => row_cells18 (Row.new Z 43 (avs [(true, dt)])) j u hj)
          have hw1 : w.heap.size ≤ (Z.alloc (.cells #[.bool (true), .string (dt)] 43)).heap.size := by have := HZB.out.size; simp; omega
          have HB1 : Hid (Below w.heap.size w (Z.alloc (.cells #[.bool (true), .string (dt)] 43))) := Lib.hid (HZB.out.alloc HZB.out.size _)
          have h63 : ((q.date d).found (l.take i)).length + ([((true, dt) : Bool × ByteArray)]).length ≤ 1000000000 := by rw [QS.found_len, List.length_take, List.length_singleton]; omega
          have hb0 := HZX.out.cell 0
          have hb1 := HZX.out.cell 1
          simp at hb0 hb1
          go_wp2_with (at_builtin; refine wpList_append_ans rfl (.tmp 49) (.tmp 51) rfl w.heap.size rfl HA2.out hw1 ⟨Z.heap.size, 0, none⟩ 1 1 [(true, dt)] rfl rfl HCl.out h63 ?_)
          intro v' X1 hA3 hg2 _
          have HO2 : Hid (Ans X1 w.heap.size v' ((q.date d).found (l.take (i + 1))) ∧ Below w.heap.size w X1) := Lib.hid ⟨by rw [HTi.out]; exact hA3, HA2.out.grown HB1.out hw1 hg2⟩
          clear hA3 hg2 HA2 HB1 HCl HZA HZB HZX HZR
          go_wp2
          go_roundg (l.length - (i + 1))
          case measure => omega
          case rel => exact ⟨i + 1, by simp, by omega, by omega, HO2⟩
        | false =>
          by_cases hx : bl x = q.came
          · have hE : (q.date d).ans x = (true, d) := by rw [HDi.out]; simp [hx]
            rw [decide_eq_true hx] at HXi
            rw [hE] at HTi
            clear HDi hE hb he hcv hgv hx
            go_wp2_with fail
            go_quiet (fail)
            have HZA : Hid (Ans ((wr.alloc (.cells #[.bool (false), .string dt] 43)).drewN nq) w.heap.size u4 ((q.date d).found (l.take i))) := Lib.hid ((HO.out.1.below ((Below.refl _ wr).alloc (Nat.le_refl _) (.cells #[.bool (false), .string dt] 43))).drewN nq)
            have HZB : Hid (Below w.heap.size w ((wr.alloc (.cells #[.bool (false), .string dt] 43)).drewN nq)) := Lib.hid (below_drew18 (HO.out.2.trans (((Below.refl _ wr).alloc (Nat.le_refl _) _).mono HO.out.2.size)) nq)
            have HZX : Hid (Row ((wr.alloc (.cells #[.bool (false), .string dt] 43)).drewN nq) wr.heap.size 43 [.bool (false), .string dt]) := Lib.hid (Row.new wr _ [.bool (false), .string dt])
            have HZR : Hid True := Lib.hid trivial
            clear q0 q1 x0 x1 r0 r2 r3 z0 hcell hcW HRb HO
            generalize (wr.alloc (.cells #[.bool (false), .string dt] 43)).drewN nq = Z at *
            have f0 := HZX.out.frozen 0
            have hxs := HZX.out.set 0 (.bool true)
            have c0 : Z.cell? ⟨wr.heap.size, 0, none⟩ = some (.bool false) := HZX.out.cell 0
            have c1 : (Z.setCell ⟨wr.heap.size, 0, none⟩ (.bool true)).cell? ⟨wr.heap.size, 1, none⟩ = some (.string dt) := hxs.cell 1
            have f1 := hxs.frozen 1
            have hxt := hxs.set 1 (.string d)
            have hxl := HZX.out.lt
            go_upto_region 7 with (fail)
            replace HZA : Hid (Ans ((Z.setCell ⟨wr.heap.size, 0, none⟩ (.bool true)).setCell ⟨wr.heap.size, 1, none⟩ (.string d)) w.heap.size u4 ((q.date d).found (l.take i))) := Lib.hid ((HZA.out.far18 HNb.out _).far18 HNb.out _)
            replace HZB : Hid (Below w.heap.size w ((Z.setCell ⟨wr.heap.size, 0, none⟩ (.bool true)).setCell ⟨wr.heap.size, 1, none⟩ (.string d))) := Lib.hid ((HZB.out.setCell hsz _).setCell hsz _)
            replace HZX : Hid (Row ((Z.setCell ⟨wr.heap.size, 0, none⟩ (.bool true)).setCell ⟨wr.heap.size, 1, none⟩ (.string d)) wr.heap.size 43 [.bool true, .string d]) := Lib.hid hxt
            clear f0 f1 hxs hxt hxl c0 c1
            generalize (Z.setCell ⟨wr.heap.size, 0, none⟩ (.bool true)).setCell ⟨wr.heap.size, 1, none⟩ (.string d) = Z2 at *
            obtain ⟨Z, hZ⟩ : ∃ Z, Z = Z2 := ⟨_, rfl⟩
            subst hZ
            have HA2 : Hid (Ans (Z.alloc (.cells #[.bool (true), .string (d)] 43)) w.heap.size u4 ((q.date d).found (l.take i))) := Lib.hid (HZA.out.below ((Below.refl _ _).alloc (Nat.le_refl _) _))
            have HCl : Hid (∀ j u, (avs [((true, d) : Bool × ByteArray)])[j]? = some u → (Z.alloc (.cells #[.bool (true), .string (d)] 43)).cell? ((⟨Z.heap.size, 0, none⟩ : Addr).add j) = some u) := Lib.hid (fun j u hj => row_cells18 (Row.new Z 43 (avs [(true, d)])) j u hj)
            have hw1 : w.heap.size ≤ (Z.alloc (.cells #[.bool (true), .string (d)] 43)).heap.size := by have := HZB.out.size; simp; omega
            have HB1 : Hid (Below w.heap.size w (Z.alloc (.cells #[.bool (true), .string (d)] 43))) := Lib.hid (HZB.out.alloc HZB.out.size _)
            have h63 : ((q.date d).found (l.take i)).length + ([((true, d) : Bool × ByteArray)]).length ≤ 1000000000 := by rw [QS.found_len, List.length_take, List.length_singleton]; omega
            have hb0 := HZX.out.cell 0
            have hb1 := HZX.out.cell 1
            simp at hb0 hb1
            go_wp2_with (at_builtin; refine wpList_append_ans rfl (.tmp 49) (.tmp 51) rfl w.heap.size rfl HA2.out hw1 ⟨Z.heap.size, 0, none⟩ 1 1 [(true, d)] rfl rfl HCl.out h63 ?_)
            intro v' X1 hA3 hg2 _
            have HO2 : Hid (Ans X1 w.heap.size v' ((q.date d).found (l.take (i + 1))) ∧ Below w.heap.size w X1) := Lib.hid ⟨by rw [HTi.out]; exact hA3, HA2.out.grown HB1.out hw1 hg2⟩
            clear hA3 hg2 HA2 HB1 HCl HZA HZB HZX HZR
            go_wp2
            go_roundg (l.length - (i + 1))
            case measure => omega
            case rel => exact ⟨i + 1, by simp, by omega, by omega, HO2⟩
          · have hE : (q.date d).ans x = (false, dt) := by rw [HDi.out]; simp [hx]
            rw [decide_eq_false hx] at HXi
            rw [hE] at HTi
            clear HDi hE hb he hcv hgv hx
            go_wp2_with fail
            go_quiet (fail)
            have HZA : Hid (Ans ((wr.alloc (.cells #[.bool (false), .string dt] 43)).drewN nq) w.heap.size u4 ((q.date d).found (l.take i))) := Lib.hid ((HO.out.1.below ((Below.refl _ wr).alloc (Nat.le_refl _) (.cells #[.bool (false), .string dt] 43))).drewN nq)
            have HZB : Hid (Below w.heap.size w ((wr.alloc (.cells #[.bool (false), .string dt] 43)).drewN nq)) := Lib.hid (below_drew18 (HO.out.2.trans (((Below.refl _ wr).alloc (Nat.le_refl _) _).mono HO.out.2.size)) nq)
            have HZX : Hid (Row ((wr.alloc (.cells #[.bool (false), .string dt] 43)).drewN nq) wr.heap.size 43 [.bool (false), .string dt]) := Lib.hid (Row.new wr _ [.bool (false), .string dt])
            have HZR : Hid True := Lib.hid trivial
            clear q0 q1 x0 x1 r0 r2 r3 z0 hcell hcW HRb HO
            generalize (wr.alloc (.cells #[.bool (false), .string dt] 43)).drewN nq = Z at *
            go_upto_region 7 with (fail)
            have HA2 : Hid (Ans (Z.alloc (.cells #[.bool (false), .string (dt)] 43)) w.heap.size u4 ((q.date d).found (l.take i))) := Lib.hid (HZA.out.below ((Below.refl _ _).alloc (Nat.le_refl _) _))
            have HCl : Hid (∀ j u, (avs [((false, dt) : Bool × ByteArray)])[j]? = some u → (Z.alloc (.cells #[.bool (false), .string (dt)] 43)).cell? ((⟨Z.heap.size, 0, none⟩ : Addr).add j) = some u) := Lib.hid (fun j u hj => row_cells18 (Row.new Z 43 (avs [(false, dt)])) j u hj)
            have hw1 : w.heap.size ≤ (Z.alloc (.cells #[.bool (false), .string (dt)] 43)).heap.size := by have := HZB.out.size; simp; omega
            have HB1 : Hid (Below w.heap.size w (Z.alloc (.cells #[.bool (false), .string (dt)] 43))) := Lib.hid (HZB.out.alloc HZB.out.size _)
            have h63 : ((q.date d).found (l.take i)).length + ([((false, dt) : Bool × ByteArray)]).length ≤ 1000000000 := by rw [QS.found_len, List.length_take, List.length_singleton]; omega
            have hb0 := HZX.out.cell 0
            have hb1 := HZX.out.cell 1
            simp at hb0 hb1
            go_wp2_with (at_builtin; refine wpList_append_ans rfl (.tmp 49) (.tmp 51) rfl w.heap.size rfl HA2.out hw1 ⟨Z.heap.size, 0, none⟩ 1 1 [(false, dt)] rfl rfl HCl.out h63 ?_)
            intro v' X1 hA3 hg2 _
            have HO2 : Hid (Ans X1 w.heap.size v' ((q.date d).found (l.take (i + 1))) ∧ Below w.heap.size w X1) := Lib.hid ⟨by rw [HTi.out]; exact hA3, HA2.out.grown HB1.out hw1 hg2⟩
            clear hA3 hg2 HA2 HB1 HCl HZA HZB HZX HZR
            go_wp2
            go_roundg (l.length - (i + 1))
            case measure => omega
            case rel => exact ⟨i + 1, by simp, by omega, by omega, HO2⟩
    · have hlt2 : ¬ (i : Int) < (l.length : Int) := by omega
      obtain rfl : i = l.length := by omega
      obtain ⟨oo, co, hu⟩ := HO.out.1.isSl
      rw [QS.found_len, List.length_take, Nat.min_self] at hu
      have f1 := HR1.out.frozen 1
      have q1 : wr.cell? ⟨g, 1, none⟩ = some v := HR1.out.cell 1
      have HF : Hid (RQ (wr.setCell ⟨g, 1, none⟩ u4) g w.heap.size ox c l (q.date d) u4 ∧ Chg (fun i => i = g) w (wr.setCell ⟨g, 1, none⟩ u4)) := Lib.hid ⟨⟨HR1.out.set 1 u4, by
        have h1 := HO.out.1
        rw [List.take_length] at h1
        exact h1.far hgw u4⟩, ⟨HO.out.2.os, HO.out.2.tape, HO.out.2.output, by simpa using HO.out.2.size, fun j hj hn => (Below.heap_setCell wr _ u4 j hn).trans (HO.out.2.block j hj)⟩⟩
      subst hu
      clear HO HT HD HX HG HV HA HR HR1 HC
      go_wp2
      first
        | (go_end0; exact ⟨_, rfl, HF.out.1, HF.out.2⟩)
        | (go_returns; exact ⟨_, rfl, HF.out.1, HF.out.2⟩)
        | (go_end0; exact ⟨rfl, ⟨_, HF.out.1⟩, HF.out.2⟩)
        | (go_returns; exact ⟨rfl, ⟨_, HF.out.1⟩, HF.out.2⟩)
end Go.Proofs.Ytpdflpobhmpbpaa
