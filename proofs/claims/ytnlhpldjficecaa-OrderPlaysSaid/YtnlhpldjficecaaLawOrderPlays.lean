/- Of every number and list of calls (of more than 300 the law asks only for the fixed answers): each Push and each End tells what the reference tells. No condition but the form of the row. -/
import Derived.Test.YtnlhpldjficecaaOrdPair
import Derived.Test.YtnlhpldjficecaaCameKb
import Derived.Test.YtnlhpldjficecaaRows
import Derived.WalkKit
import Derived.ProofKit
import Derived.OpenShut
import Derived.ShutString
import Derived.ChangeOld
import Derived.Below
import Derived.Carry
namespace Go.Proofs.Ytnlhpldjficecaa
open Go.ChangeShapes Go.WideShapes Go.ChangeAt Go.RowKit
open Go.ChangeMaps (open_string shut_string)
set_option linter.unusedVariables false
open Go.PlainAid in
set_option maxRecDepth 100000 in
set_option maxHeartbeats 8000000 in
theorem walkOrderPlays (a0 : Int) (o1 : Option Addr) (c1 : Nat) (a1 : List (Int × Int)) (b0 : -9223372036854775808 ≤ a0 ∧ a0 ≤ 9223372036854775807) (lc1 : a1.length ≤ c1) (cm1 : c1 ≤ maxLen) (el1 : ∀ x ∈ a1, InI x.1 ∧ (0 ≤ x.2 ∧ x.2 ≤ 255)) (w : World) (ca1 : Came w o1 (kbs a1)) :
    Calls Try.prog 4 #[.int .i64 a0, .slice o1 a1.length c1] w fun e w' => e = .returned (.bool true) ∧ Below w.heap.size w w' := by
  by_cases hin : a1.length ≤ 300
  · have g4 : (a1.length : Int) ≤ 300 := by omega
    have HC := Lib.hid ca1
    have HEL := Lib.hid el1
    clear ca1 el1 lc1 cm1
    go_enter Try.func4, Try.ntmps4
    go_wp2_with fail
    refine (awake16_any _).mono ?_
    rintro e w1 ⟨rfl, hB1⟩
    go_wp2_with fail
    refine (soSpec.new_on a0 b0 hB1).mono ?_
    rintro e w2 ⟨k, F, rfl, h2, _, _⟩
    have H2 := Lib.hid h2
    clear h2 hB1
    go_wp2_with fail
    refine (Pair.newR H2.out a0 b0).mono ?_
    rintro e w3 ⟨g, G, rfl, h3⟩
    have HP0 := Lib.hid h3
    clear h3 H2
    have HM0 : Hid ((OM.new a0).n = 0 ∧ (OM.new a0).most = (OM.new a0).most) := Lib.hid ⟨rfl, rfl⟩
    go_wp2_with fail
    go_loopg [6, 26] a1.length (fun gk sv jv wr => ∃ (j g : Nat) (F G : Nat → Prop) (m : OM), sv = .pointer (some ⟨g, 0, none⟩) ∧ jv = .int .i64 (j : Int) ∧ j ≤ a1.length ∧ a1.length - j ≤ gk ∧ m.n ≤ j ∧ Hid (m.most = (OM.new a0).most) ∧ Hid (Pair w wr k F m g G m))
    case atStart => exact ⟨0, g, F, G, OM.new a0, rfl, rfl, by omega, by omega, Nat.le_refl _, Lib.hid rfl, HP0⟩
    case round =>
      clear HP0 HM0
      obtain ⟨j, g, F, G, m, rfl, rfl, hj, hgk, hmn, HM, HP⟩ := hrel
      by_cases hlt : j < a1.length
      · have hlt2 : (j : Int) < (a1.length : Int) := by omega
        obtain ⟨ad, ho, _, hcell⟩ := (HC.out.below HP.out.c.bel).first (by rw [kbs_length]; omega)
        subst ho
        have hp := HEL.out a1[j] (List.getElem_mem hlt)
        have hg2 := kbs_get hlt
        have hc0 := hcell (2 * j) (.int .i64 a1[j].1) hg2.1
        have hc1 := hcell (2 * j + 1) (.int .u8 a1[j].2) hg2.2
        generalize a1[j] = act at *
        obtain ⟨kd, b⟩ := act
        have hp : InI kd ∧ (0 ≤ b ∧ b ≤ 255) := hp
        have hc0 : wr.cell? (ad.add (j * 2)) = some (.int .i64 kd) := by rw [Nat.mul_comm]; exact hc0
        have hc1 : wr.cell? ⟨(ad.add (j * 2)).block, (ad.add (j * 2)).off + 1, none⟩ = some (.int .u8 b) := by rw [← add_field16]; exact hc1
        obtain ⟨hp0, hp1⟩ := hp
        have hmn6 : m.n ≤ 1000000 := by omega
        clear hcell hg2
        by_cases c1 : kd = 1
        · subst c1
          go_wp2_with fail
          have HKN := Lib.hid (HP.out.aside (Nat.le_refl _))
          have HPW := Lib.hid (HP.out.below ((Below.refl wr.heap.size wr).alloc (Nat.le_refl _) (.cells #[.int .i64 1, .int .u8 b] 31)))
          have HKW := Lib.hid (Row.new wr 31 [.int .i64 1, .int .u8 b])
          have hW : wr.alloc (.cells [.int .i64 1, .int .u8 b].toArray 31) = wr.alloc (.cells #[.int .i64 1, .int .u8 b] 31) := rfl
          rw [hW] at HKW
          clear hW HP hc0 hc1
          generalize wr.alloc (.cells #[.int .i64 1, .int .u8 b] 31) = W at *
          generalize wr.heap.size = kb at *
          have qn : W.cell? ⟨kb, 1, none⟩ = some (.int .u8 b) := HKW.out.cell 1
          have HKD := Lib.hid (show Row W.drew kb 31 [.int .i64 1, .int .u8 b] from HKW.out)
          have HPD := Lib.hid (HPW.out.below (Below.refl _ _).drew)
          have HC1 := Lib.hid (HPD.out.pushC b hp1 hmn6)
          have HR1 := Lib.hid (HPD.out.pushR b hp1 hmn6)
          clear HKW HPW HPD
          go_region_held3 (fun w' => w'.cell? ⟨kb, 1, none⟩ = some (.int .u8 b)) (first | exact y1 | exact x1 | exact qn) (first
            | (go_at_call 13; with_reducible refine (HC1.out).mono ?_; rintro e w5 ⟨F5, rfl, hp5, hf5, hch5⟩
               have HK5 := Lib.hid (HKD.out.chg hch5 HKN.out.1)
               have x1 : w5.cell? ⟨kb, 1, none⟩ = some (.int .u8 b) := HK5.out.cell 1
               have HR2 := Lib.hid (hp5.pushR b hp1 hmn6)
               clear hp5 hch5 HC1 HR1 hf5)
            | (go_at_call 14; with_reducible refine (HR1.out).mono ?_; rintro e w5 ⟨G5, rfl, hp5, hf5, hch5⟩
               have HK5 := Lib.hid (HKD.out.chg hch5 HKN.out.2)
               have x1 : w5.cell? ⟨kb, 1, none⟩ = some (.int .u8 b) := HK5.out.cell 1
               have HC2 := Lib.hid (hp5.pushC b hp1 hmn6)
               clear hp5 hch5 HC1 HR1 hf5)
            | (go_at_call 14; with_reducible refine (HR2.out).mono ?_; rintro e w6 ⟨G6, rfl, hp6, hf6, hch6⟩
               have y1 : w6.cell? ⟨kb, 1, none⟩ = some (.int .u8 b) := (HK5.out.chg hch6 HKN.out.2).cell 1
               have HP6 : Hid (∃ F G, Pair w w6 k F (m.push b) g G (m.push b)) := Lib.hid ⟨_, _, hp6⟩
               clear hp6 hch6 HR2 hf6)
            | (go_at_call 13; with_reducible refine (HC2.out).mono ?_; rintro e w6 ⟨F6, rfl, hp6, hf6, hch6⟩
               have y1 : w6.cell? ⟨kb, 1, none⟩ = some (.int .u8 b) := (HK5.out.chg hch6 HKN.out.1).cell 1
               have HP6 : Hid (∃ F G, Pair w w6 k F (m.push b) g G (m.push b)) := Lib.hid ⟨_, _, hp6⟩
               clear hp6 hch6 HC2 hf6))
          all_goals
            clear qn x1 y1 HK5 HKD HKN
            obtain ⟨FF, GG, hpp⟩ := HP6.out
            have HP7 := Lib.hid hpp
            have HM7 : Hid ((m.push b).most = (OM.new a0).most) := Lib.hid ((OM.push_most m b).trans HM.out)
            have hn7 : (m.push b).n ≤ j := by rw [OM.push_n]; exact hmn
            clear hpp HP6
            generalize m.push b = m7 at *
            have hee : (m7.e == m7.e) = true := by simp
            go_wp2_with fail
            go_roundg (a1.length - (j + 1))
            case measure => omega
            case rel => exact ⟨j + 1, g, FF, GG, m7, rfl, by simp, by omega, by omega, by omega, HM7, HP7⟩
        · by_cases c2 : kd = 2
          · subst c2
            clear c1
            go_wp2_with fail
            have HKN := Lib.hid (HP.out.aside (Nat.le_refl _))
            have HPW := Lib.hid (HP.out.below ((Below.refl wr.heap.size wr).alloc (Nat.le_refl _) (.cells #[.int .i64 2, .int .u8 b] 31)))
            have HKW := Lib.hid (Row.new wr 31 [.int .i64 2, .int .u8 b])
            have hW : wr.alloc (.cells [.int .i64 2, .int .u8 b].toArray 31) = wr.alloc (.cells #[.int .i64 2, .int .u8 b] 31) := rfl
            rw [hW] at HKW
            clear hW HP hc0 hc1
            generalize wr.alloc (.cells #[.int .i64 2, .int .u8 b] 31) = W at *
            generalize wr.heap.size = kb at *
            clear HKW HKN
            go_wp2_with fail
            refine (HPW.out.finC hmn6).mono ?_
            rintro e w5 ⟨F5, rfl, hp5⟩
            have HP5 := Lib.hid hp5
            clear hp5 HPW
            go_wp2_with fail
            refine (HP5.out.finR hmn6).mono ?_
            rintro e w6 ⟨G6, rfl, hp6⟩
            have HP7 := Lib.hid hp6
            have HM7 : Hid (m.fin.most = (OM.new a0).most) := Lib.hid ((OM.fin_most m).trans HM.out)
            have hn7 : m.fin.n ≤ j + 1 := by have := OM.fin_n m; omega
            clear hp6 HP5
            generalize m.fin = m7 at *
            have hee : (m7.e == m7.e) = true := by simp
            go_wp2_with fail
            go_roundg (a1.length - (j + 1))
            case measure => omega
            case rel => exact ⟨j + 1, g, F5, G6, m7, rfl, by simp, by omega, by omega, hn7, HM7, HP7⟩
          · by_cases c3 : kd = 3
            · subst c3
              clear c1 c2
              go_wp2_with fail
              have HKN := Lib.hid (HP.out.aside (Nat.le_refl _))
              have HPW := Lib.hid (HP.out.below ((Below.refl wr.heap.size wr).alloc (Nat.le_refl _) (.cells #[.int .i64 3, .int .u8 b] 31)))
              have HKW := Lib.hid (Row.new wr 31 [.int .i64 3, .int .u8 b])
              have hW : wr.alloc (.cells [.int .i64 3, .int .u8 b].toArray 31) = wr.alloc (.cells #[.int .i64 3, .int .u8 b] 31) := rfl
              rw [hW] at HKW
              clear hW HP hc0 hc1
              generalize wr.alloc (.cells #[.int .i64 3, .int .u8 b] 31) = W at *
              generalize wr.heap.size = kb at *
              clear HKW HKN
              go_wp2_with fail
              refine (HPW.out.resetC).mono ?_
              rintro e w5 ⟨F5, rfl, hp5⟩
              rw [OM.reset_new HM.out] at hp5
              have HP5 := Lib.hid hp5
              clear hp5 HPW
              go_wp2_with fail
              refine (Pair.newR HP5.out a0 b0).mono ?_
              rintro e w6 ⟨g6, G6, rfl, hp6⟩
              have HP7 := Lib.hid hp6
              have hn7 : (OM.new a0).n ≤ j + 1 := Nat.zero_le _
              clear hp6 HP5
              go_wp2_with fail
              go_roundg (a1.length - (j + 1))
              case measure => omega
              case rel => exact ⟨j + 1, g6, F5, G6, OM.new a0, rfl, by simp, by omega, by omega, hn7, Lib.hid rfl, HP7⟩
            · have e1 : (kd == 1) = false := by simpa using c1
              have e2 : (kd == 2) = false := by simpa using c2
              have e3 : (kd == 3) = false := by simpa using c3
              clear c1 c2 c3
              go_wp2_with fail
              have HKN := Lib.hid (HP.out.aside (Nat.le_refl _))
              have HPW := Lib.hid (HP.out.below ((Below.refl wr.heap.size wr).alloc (Nat.le_refl _) (.cells #[.int .i64 kd, .int .u8 b] 31)))
              have HKW := Lib.hid (Row.new wr 31 [.int .i64 kd, .int .u8 b])
              have hW : wr.alloc (.cells [.int .i64 kd, .int .u8 b].toArray 31) = wr.alloc (.cells #[.int .i64 kd, .int .u8 b] 31) := rfl
              rw [hW] at HKW
              clear hW HP hc0 hc1
              generalize wr.alloc (.cells #[.int .i64 kd, .int .u8 b] 31) = W at *
              generalize wr.heap.size = kb at *
              have qk : W.cell? ⟨kb, 0, none⟩ = some (.int .i64 kd) := HKW.out.cell 0
              clear HKW HKN
              go_wp2_with fail
              go_roundg (a1.length - (j + 1))
              case measure => omega
              case rel => exact ⟨j + 1, g, F, G, m, rfl, by simp, by omega, by omega, by omega, HM, HPW⟩
      · have hlt2 : ¬ (j : Int) < (a1.length : Int) := by omega
        have hB := HP.out.c.bel
        clear HP HM
        go_wp2
        go_returns
        exact ⟨rfl, hB⟩
  · have hw : (300 : Int) < a1.length := by omega
    clear hin el1 ca1
    go_enter Try.func4, Try.ntmps4
    go_wp2_with fail
    refine (awake16_any _).mono ?_
    rintro e w1 ⟨rfl, hB1⟩
    go_wp2_with fail
    refine (awake16_any _).mono ?_
    rintro e w2 ⟨rfl, hb⟩
    have hB2 := hB1.trans (hb.mono hB1.size)
    go_wp2
    go_returns
    exact ⟨rfl, hB2⟩


/-! ### OrderPlays: the step from the walk to the statement -/
namespace orderPlays
theorem own : ownKnob Try.prog.godebug = none := by kernel_rfl
theorem laidOut : laidOutB Try.prog = true := by kernel_rfl
set_option maxRecDepth 100000 in
theorem lifted (os : Os) (started : os.Started) (H : Type) (enc : TypeId × Value → H) :
    ReturnsInHanded {} Try.checked os 4 .any (Rows.orderPlaysSpec.pre6 enc Try.prog Try.f4 Rows.orderPlaysRow.domain false) (Rows.orderPlaysSpec.post enc Try.prog Try.f4 false true false false) := by
  refine returnsInHanded_of_change (C := Try.checked) own started (by kernel_rfl) Try.func4
    (ChangeSpec.witness6 (enc := enc) (C := Try.checked) false ⟨#[], #[.int .i64 0, .slice none 0 0], []⟩ 8 (by kernel_rfl) (by kernel_rfl) (by kernel_rfl) (by kernel_rfl)) ?_
  intro W base args ds gs before hval0 hW hcnd _
  have hval : ∀ (j : Nat) t v, Try.f4.params[j]? = some t → args[j]? = some v → Value.okWide Try.prog W .any base t v := hval0
  have hW' := hW
  obtain ⟨p, q, hA0, hV, rfl, hfz, hnd⟩ := hW
  have hA : DataW.TrodAll enc Try.prog W 0 (fun _ => true) true Try.f4.params.toList args.toList ds p := hA0
  rw [Try.params4] at hA hval
  obtain ⟨v0, vs0, d0, ds0, p0, q0, hargs, rfl, rfl, h0, r0⟩ := trodAll_cons hA
  obtain ⟨v1, vs1, d1, ds1, p1, q1, rfl, rfl, rfl, h1, r1⟩ := trodAll_cons r0
  obtain ⟨rfl, rfl, rfl⟩ := trodAll_nil r1
  obtain rfl : args = #[v0, v1] := by cases args; simp_all
  obtain ⟨rfl, rfl⟩ := trodVars_none hV
  obtain ⟨a0, rfl, rfl, rfl, w0⟩ := open_int Try.underlying3 (hval 0 3 v0 rfl rfl) h0
  obtain ⟨o1, len1, c1, rfl⟩ := okWide_slice Try.underlying25 (hval 1 25 v1 rfl rfl)
  have k1 := h1
  have lt1 : ∀ x ∈ p1, x.block < W.heap.size := by obtain ⟨m, hm⟩ := k1; exact DataW.trod_lt m _ _ _ hm
  obtain ⟨a1, rfl, lc1, cm1, ca1, el1⟩ := (came_kb Try.underlying25 Try.underlying31 (by kernel_rfl) rfl rfl (by kernel_rfl) (by kernel_rfl) Try.underlying3 Try.underlying5 h1)
  clear hA0 hval0
  refine (walkOrderPlays a0 o1 c1 a1 (bounds_i64 w0) lc1 cm1 el1 W ca1).mono fun e W' ⟨he, bel⟩ => ?_
  subst he
  exact ⟨_, rfl, _, _, _, [], _, [], hW', trodAll_mk1 (shut_bool Try.underlying4 _), (trodAll_cons_mk (shut_int Try.underlying3 w0) (trodAll_cons_mk (Below.trod laidOut (by kernel_rfl) (of_decide_eq_true (by kernel_rfl)) k1 bel lt1) trodAll_mk0)), rfl, bel.frame _, fun h => by cases h⟩
theorem over : Rows.orderPlaysRow.holds Try.pinned (OpenSpec.ofChange Rows.orderPlaysSpec) :=
  OpenClaim.holds_of_wide 4 Try.f4 rfl rfl rfl rfl rfl rfl rfl ⟨rfl, rfl, rfl, rfl, rfl⟩ rfl rfl rfl rfl rfl (by kernel_rfl) Try.func4 (by kernel_rfl)
    (of_decide_eq_true (by kernel_rfl)) (by unfold Func.isWrapper; first | (rw [if_pos (by decide +kernel)]; kernel_rfl) | (rw [if_neg (by decide +kernel)]; exact ⟨rfl, rfl⟩))
    (fun os started H enc _ => lifted os started H enc)
/-- THE STATEMENT. -/
theorem proved : Rows.OrderPlaysSaid := over
end orderPlays
end Go.Proofs.Ytnlhpldjficecaa
