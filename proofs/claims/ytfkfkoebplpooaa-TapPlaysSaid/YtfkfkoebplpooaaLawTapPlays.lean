/- Of every row of calls (of more than 40, or one whose text has more than 100 bytes, the law asks no more): the bytes since the last head, and the digest, are those of the reference. No condition but the form of the row. -/
import Derived.Test.YtfkfkoebplpooaaTapCode
import Derived.Test.YtfkfkoebplpooaaTapRef
import Derived.Test.YtfkfkoebplpooaaCameKs
import Derived.Test.YtfkfkoebplpooaaRows
import Derived.WalkKit
import Derived.ProofKit
import Derived.OpenShut
import Derived.ShutString
import Derived.ChangeOld
import Derived.Below
import Derived.Carry
namespace Go.Proofs.Ytfkfkoebplpooaa
open Go.ChangeShapes Go.WideShapes Go.ChangeAt Go.RowKit
open Go.ChangeMaps (open_string shut_string)
set_option linter.unusedVariables false
open Go.PlainAid in
set_option maxRecDepth 100000 in
set_option maxHeartbeats 16000000 in
theorem walkTapPlays (o0 : Option Addr) (c0 : Nat) (a0 : List (Int × ByteArray)) (lc0 : a0.length ≤ c0) (cm0 : c0 ≤ maxLen) (el0 : ∀ x ∈ a0, InI x.1 ∧ x.2.size ≤ maxLen) (w : World) (ca0 : Came w o0 (kts a0)) :
    Calls Try.prog 3 #[.slice o0 a0.length c0] w fun e w' => e = .returned (.bool true) ∧ Below w.heap.size w w' := by
  by_cases hin : a0.length ≤ 40
  · have l3 : ¬ 40 < (a0.length : Int) := by omega
    have HC := Lib.hid ca0
    have HEL := Lib.hid el0
    clear ca0 el0
    go_enter Try.func3, Try.ntmps3
    go_wp2_with fail
    refine (tapSpec.new_on (Below.refl _ _)).mono ?_
    rintro r w1 ⟨k, F1, rfl, h9, _, _⟩
    have H1 := Lib.hid (TRef.newR tapSpec h9)
    clear h9
    go_wp2_with fail
    refine (awake21_any tapSpec _).mono ?_
    rintro r w2 ⟨rfl, hb⟩
    have HT := Lib.hid (H1.out.below tapSpec hb)
    clear hb H1
    generalize w1.heap.size = g at *
    go_wp2_with fail
    go_loopg [27] a0.length (fun gk jv wr => ∃ (j : Nat) (F : Nat → Prop) (s : TpS), jv = .int .i64 (j : Int) ∧ j ≤ a0.length ∧ a0.length - j ≤ gk ∧ s.head.size ≤ 100 * j ∧ s.part.size ≤ 100 * j ∧ Hid (TRef TpAt w wr k F s g))
    case atStart => exact ⟨0, F1, TpS.new, rfl, by omega, by omega, by decide, by decide, HT⟩
    case round =>
      clear HT
      obtain ⟨j, F, s, rfl, hj, hgk, hsz1, hsz2, HT⟩ := hrel
      by_cases hlt : j < a0.length
      · have hlt2 : (j : Int) < (a0.length : Int) := by omega
        obtain ⟨ad, ho, _, hcell⟩ := (HC.out.below HT.out.x.bel).first (by rw [kts_length]; omega)
        subst ho
        have hp := HEL.out a0[j] (List.getElem_mem hlt)
        have hg2 := kts_get hlt
        have hc0 := hcell (2 * j) (.int .i64 a0[j].1) hg2.1
        have hc1 := hcell (2 * j + 1) (.string a0[j].2) hg2.2
        generalize a0[j] = act at *
        obtain ⟨kd, t⟩ := act
        replace hp : InI kd ∧ t.size ≤ maxLen := hp
        replace hc0 : wr.cell? (ad.add (j * 2)) = some (.int .i64 kd) := by rw [Nat.mul_comm]; exact hc0
        replace hc1 : wr.cell? ⟨(ad.add (j * 2)).block, (ad.add (j * 2)).off + 1, none⟩ = some (.string t) := by rw [← add_field18 ad j]; exact hc1
        have hts9 : (t.size : Int) ≤ 9223372036854775807 := by have := hp.2; unfold maxLen at this; omega
        clear hcell hg2 hp
        by_cases hts : t.size ≤ 100
        · have hts2 : ¬ 100 < (t.size : Int) := by omega
          by_cases k1 : kd = 1
          · subst k1
            go_wp2_with fail
            have hbb : Below wr.heap.size wr (wr.alloc (.cells #[.int .i64 1, .string t] 30)) := (Below.refl _ _).alloc (Nat.le_refl _) _
            have HK : Hid (Row (wr.alloc (.cells #[.int .i64 1, .string t] 30)) wr.heap.size 30 [.int .i64 1, .string t]) := Lib.hid (Row.new wr _ _)
            have HB := Lib.hid (HT.out.below tapSpec hbb)
            have hkb : ¬ F wr.heap.size := fun f => by have := tapSpec.lt HT.out.x.at_ _ f; omega
            have hkg : wr.heap.size ≠ g := fun e => by have : g < wr.heap.size := Row.lt HT.out.r; omega
            have hks : wr.heap.size < (wr.alloc (.cells #[.int .i64 1, .string t] 30)).heap.size := by simp
            clear hbb HT
            generalize wr.alloc (.cells #[.int .i64 1, .string t] 30) = W at *
            generalize wr.heap.size = kb at *
            have n0 : W.cell? ⟨kb, 0, none⟩ = some (.int .i64 1) := HK.out.cell 0
            have n1 : W.cell? ⟨kb, 1, none⟩ = some (.string t) := HK.out.cell 1
            have HT0 : Hid (TRef TpAt w W k F (s.pushes (t.extract 0 0)) g) := Lib.hid (by rw [ext_zero, TpS.pushes_nil]; exact HB.out)
            clear HB n0 n1
            have HZ : Hid (s.head.size ≤ 100000 ∧ s.part.size ≤ 100000) := Lib.hid (by omega)
            go_loopg [42] t.size (fun gi iv wq => ∃ (i : Nat) (F : Nat → Prop), iv = .int .i64 (i : Int) ∧ i ≤ t.size ∧ t.size - i ≤ gi ∧ Hid (TRef TpAt w wq k F (s.pushes (t.extract 0 i)) g) ∧ Hid (Row wq kb 30 [.int .i64 1, .string t]) ∧ Hid (¬ F kb))
            case atStart => exact ⟨0, F, rfl, by omega, by omega, HT0, HK, Lib.hid hkb⟩
            case round =>
              clear HT0 HK hkb hks
              obtain ⟨i, F, rfl, hi, hgi, HT, HK, HN⟩ := hrel
              by_cases hli : i < t.size
              · have hli2 : (i : Int) < (t.size : Int) := by omega
                have gj := get_bt t i hli
                have q0 := bt_nonneg t i
                have q1 := bt_le t i
                have HX := Lib.hid (TpS.pushes_next s t i hli)
                have HM := Lib.hid (TpS.pushes_room s t i HZ.out.1 HZ.out.2 (by omega))
                generalize bt t i = b at *
                have n1 : wr.cell? ⟨kb, 1, none⟩ = some (.string t) := HK.out.cell 1
                go_wp2_with fail
                refine (tapSpec.push_on HT.out.x b ⟨q0, q1⟩ HM.out HX.out).mono ?_
                rintro r w5 ⟨F5, rfl, h5, hn5, hc5⟩
                have HK5 := Lib.hid (Row.chg HK.out hc5 HN.out)
                have HN5 : Hid (¬ F5 kb) := Lib.hid (fun f => by
                  rcases hn5 kb f with q | q
                  · exact HN.out q
                  · have : kb < wr.heap.size := Row.lt HK.out
                    omega)
                have HR5 := Lib.hid (refTap_push (HT.out.mid hc5) b ⟨q0, q1⟩ HM.out)
                rw [HX.out] at HR5
                have HQ := Lib.hid (fun (w6 : World) (h2 : RT w6 g (s.pushes (t.extract 0 (i + 1)))) (hc2 : Chg (fun x => x = g) w5 w6) => HT.out.both tapSpec h5 hn5 hc5 h2 hc2)
                clear h5 hn5 hc5 HT HK HN HM HX n1
                have n1 : w5.cell? ⟨kb, 1, none⟩ = some (.string t) := HK5.out.cell 1
                go_wp2_with fail
                refine HR5.out.mono ?_
                rintro r w6 ⟨rfl, h6, hc6⟩
                have HT := Lib.hid (HQ.out w6 h6 hc6)
                have HK := Lib.hid (Row.chg HK5.out hc6 hkg)
                clear h6 hc6 HQ HR5 HK5 n1
                go_wp2_with fail
                go_roundg (t.size - (i + 1))
                case measure => omega
                case rel => exact ⟨i + 1, F5, by simp, by omega, by omega, HT, HK, HN5⟩
              · have hli2 : ¬ (i : Int) < (t.size : Int) := by omega
                obtain rfl : i = t.size := by omega
                obtain ⟨z1, z2⟩ := TpS.pushes_size s t
                replace HT : Hid (TRef TpAt w wr k F (s.pushes t) g) := Lib.hid (by have := HT.out; rw [ext_all] at this; exact this)
                have hz1 : (s.pushes t).head.size ≤ 100 * (j + 1) := by omega
                have hz2 : (s.pushes t).part.size ≤ 100 * (j + 1) := by omega
                clear HK HN HZ hi hgi z1 z2 hsz1 hsz2
                generalize s.pushes t = s6 at *
                go_wp2_with fail
                go_roundg (a0.length - (j + 1))
                case measure => omega
                case rel => exact ⟨j + 1, _, _, by simp, by omega, by omega, hz1, hz2, HT⟩
          · have e1 : (kd == 1) = false := by simpa using k1
            by_cases k2 : kd = 2
            · subst k2
              go_wp2_with fail
              have hbb : Below wr.heap.size wr (wr.alloc (.cells #[.int .i64 2, .string t] 30)) := (Below.refl _ _).alloc (Nat.le_refl _) _
              have HK : Hid (Row (wr.alloc (.cells #[.int .i64 2, .string t] 30)) wr.heap.size 30 [.int .i64 2, .string t]) := Lib.hid (Row.new wr _ _)
              have HB := Lib.hid (HT.out.below tapSpec hbb)
              have hkb : ¬ F wr.heap.size := fun f => by have := tapSpec.lt HT.out.x.at_ _ f; omega
              have hkg : wr.heap.size ≠ g := fun e => by have : g < wr.heap.size := Row.lt HT.out.r; omega
              have hks : wr.heap.size < (wr.alloc (.cells #[.int .i64 2, .string t] 30)).heap.size := by simp
              clear hbb HT
              generalize wr.alloc (.cells #[.int .i64 2, .string t] 30) = W at *
              generalize wr.heap.size = kb at *
              have n0 : W.cell? ⟨kb, 0, none⟩ = some (.int .i64 2) := HK.out.cell 0
              have n1 : W.cell? ⟨kb, 1, none⟩ = some (.string t) := HK.out.cell 1
              have hk2 : ¬ (2 : Int) = 1 := by decide
              clear n0 n1 HK hks
              have HHz : s.head.size ≤ 500000 := by omega
              obtain ⟨hd, hhd⟩ : ∃ hd, s.head = hd := ⟨_, rfl⟩
              have HH := Lib.hid (tapSpec.head_on HB.out.x HHz rfl hhd)
              have m0 : W.cell? ⟨g, 0, none⟩ = some (.string hd) := by rw [← hhd]; exact HB.out.r.cell 0
              have eH : (hd.toList == hd.toList) = true := by simp
              have HBd : Hid (TRef TpAt w W.drew k F s g) := Lib.hid (HB.out.below tapSpec ((Below.refl _ _).drew))
              have HHd := Lib.hid (tapSpec.head_on HBd.out.x HHz rfl hhd)
              have md : W.drew.cell? ⟨g, 0, none⟩ = some (.string hd) := m0
              go_region_held3 (fun w' => w'.cell? ⟨g, 0, none⟩ = some (.string hd)) (first | exact m0 | exact md | exact m5) (first
                | (go_at_call 11; with_reducible refine HHd.out.mono ?_; rintro r w5 ⟨F5, rfl, h5, hn5, hc5⟩
                   have m5 : w5.cell? ⟨g, 0, none⟩ = some (.string hd) := by rw [← hhd]; exact (HBd.out.mid hc5).cell 0
                   have HQ := Lib.hid (fun (w6 : World) (h2 : RT w6 g s.bare) (hc2 : Chg (fun x => x = g) w5 w6) => HBd.out.both tapSpec h5 hn5 hc5 h2 hc2)
                   have HR5 := Lib.hid (HBd.out.mid hc5)
                   clear h5 hn5 hc5 HHd HH))
              have f0 := HR5.out.frozen 0
              have HR6 : Hid (RT (w5.setCell ⟨g, 0, none⟩ (.string ⟨#[]⟩)) g s.bare) := Lib.hid (Row.set HR5.out 0 (.string ⟨#[]⟩))
              have HT := Lib.hid (HQ.out _ HR6.out (tset (Chg.of_below (Below.refl w5.heap.size w5)) 0 (.string ⟨#[]⟩)))
              have hz1 : s.bare.head.size ≤ 100 * (j + 1) := by show 0 ≤ _; omega
              have hz2 : s.bare.part.size ≤ 100 * (j + 1) := by show s.part.size ≤ _; omega
              clear HHz m0 md HBd HB HQ HR5 HR6 hhd hkb hkg hsz1 hsz2
              generalize s.bare = s6 at *
              go_wp2_with fail
              go_roundg (a0.length - (j + 1))
              case measure => omega
              case rel => exact ⟨j + 1, _, _, by simp, by omega, by omega, hz1, hz2, HT⟩
            · have e2 : (kd == 2) = false := by simpa using k2
              by_cases k3 : kd = 3
              · subst k3
                go_wp2_with fail
                have hbb : Below wr.heap.size wr (wr.alloc (.cells #[.int .i64 3, .string t] 30)) := (Below.refl _ _).alloc (Nat.le_refl _) _
                have HK : Hid (Row (wr.alloc (.cells #[.int .i64 3, .string t] 30)) wr.heap.size 30 [.int .i64 3, .string t]) := Lib.hid (Row.new wr _ _)
                have HB := Lib.hid (HT.out.below tapSpec hbb)
                have hkb : ¬ F wr.heap.size := fun f => by have := tapSpec.lt HT.out.x.at_ _ f; omega
                have hkg : wr.heap.size ≠ g := fun e => by have : g < wr.heap.size := Row.lt HT.out.r; omega
                have hks : wr.heap.size < (wr.alloc (.cells #[.int .i64 3, .string t] 30)).heap.size := by simp
                clear hbb HT
                generalize wr.alloc (.cells #[.int .i64 3, .string t] 30) = W at *
                generalize wr.heap.size = kb at *
                have n0 : W.cell? ⟨kb, 0, none⟩ = some (.int .i64 3) := HK.out.cell 0
                have n1 : W.cell? ⟨kb, 1, none⟩ = some (.string t) := HK.out.cell 1
                have hk1 : ¬ (3 : Int) = 1 := by decide
                have hk2 : ¬ (3 : Int) = 2 := by decide
                go_wp2_with fail
                refine (tapSpec.start_on HB.out.x t (by omega) rfl).mono ?_
                rintro r w5 ⟨F5, rfl, h5, hn5, hc5⟩
                have HK5 := Lib.hid (Row.chg HK.out hc5 hkb)
                have HR5 := Lib.hid (refTap_begin (HB.out.mid hc5) t)
                have HQ := Lib.hid (fun (w6 : World) (h2 : RT w6 g (s.start t)) (hc2 : Chg (fun x => x = g) w5 w6) => HB.out.both tapSpec h5 hn5 hc5 h2 hc2)
                clear h5 hn5 hc5 HB HK n0 n1
                have n1 : w5.cell? ⟨kb, 1, none⟩ = some (.string t) := HK5.out.cell 1
                go_wp2_with fail
                refine HR5.out.mono ?_
                rintro r w6 ⟨rfl, h6, hc6⟩
                have HT := Lib.hid (HQ.out w6 h6 hc6)
                have hz1 : (s.start t).head.size ≤ 100 * (j + 1) := by show s.head.size ≤ _; omega
                have hz2 : (s.start t).part.size ≤ 100 * (j + 1) := by show t.size ≤ _; omega
                clear h6 hc6 HQ HR5 HK5 n1 hsz1 hsz2
                generalize s.start t = s6 at *
                go_wp2_with fail
                go_roundg (a0.length - (j + 1))
                case measure => omega
                case rel => exact ⟨j + 1, _, _, by simp, by omega, by omega, hz1, hz2, HT⟩
              · have e3 : (kd == 3) = false := by simpa using k3
                by_cases k4 : kd = 4
                · subst k4
                  go_wp2_with fail
                  have hbb : Below wr.heap.size wr (wr.alloc (.cells #[.int .i64 4, .string t] 30)) := (Below.refl _ _).alloc (Nat.le_refl _) _
                  have HK : Hid (Row (wr.alloc (.cells #[.int .i64 4, .string t] 30)) wr.heap.size 30 [.int .i64 4, .string t]) := Lib.hid (Row.new wr _ _)
                  have HB := Lib.hid (HT.out.below tapSpec hbb)
                  have hkb : ¬ F wr.heap.size := fun f => by have := tapSpec.lt HT.out.x.at_ _ f; omega
                  have hkg : wr.heap.size ≠ g := fun e => by have : g < wr.heap.size := Row.lt HT.out.r; omega
                  have hks : wr.heap.size < (wr.alloc (.cells #[.int .i64 4, .string t] 30)).heap.size := by simp
                  clear hbb HT
                  generalize wr.alloc (.cells #[.int .i64 4, .string t] 30) = W at *
                  generalize wr.heap.size = kb at *
                  have n0 : W.cell? ⟨kb, 0, none⟩ = some (.int .i64 4) := HK.out.cell 0
                  have n1 : W.cell? ⟨kb, 1, none⟩ = some (.string t) := HK.out.cell 1
                  have hk1 : ¬ (4 : Int) = 1 := by decide
                  have hk2 : ¬ (4 : Int) = 2 := by decide
                  have hk3 : ¬ (4 : Int) = 3 := by decide
                  go_wp2_with fail
                  refine (tapSpec.over_on HB.out.x rfl).mono ?_
                  rintro r w5 ⟨F5, rfl, h5, hn5, hc5⟩
                  have HR5 : Hid (RT w5 g s) := Lib.hid (HB.out.mid hc5)
                  have HQ := Lib.hid (fun (w6 : World) (h2 : RT w6 g s.over) (hc2 : Chg (fun x => x = g) w5 w6) => HB.out.both tapSpec h5 hn5 hc5 h2 hc2)
                  clear h5 hn5 hc5 HB HK n0 n1
                  have f3 := HR5.out.frozen 3
                  have m3 : w5.cell? ⟨g, 3, none⟩ = some (.bool s.on) := HR5.out.cell 3
                  have HR6 : Hid (RT (w5.setCell ⟨g, 3, none⟩ (.bool false)) g s.over) := Lib.hid (Row.set HR5.out 3 (.bool false))
                  have HT := Lib.hid (HQ.out _ HR6.out (tset (Chg.of_below (Below.refl w5.heap.size w5)) 3 (.bool false)))
                  have hz1 : s.over.head.size ≤ 100 * (j + 1) := by show s.head.size ≤ _; omega
                  have hz2 : s.over.part.size ≤ 100 * (j + 1) := by show s.part.size ≤ _; omega
                  clear HQ HR5 HR6 hsz1 hsz2
                  generalize s.on = so at *
                  generalize s.over = s6 at *
                  go_wp2_with fail
                  go_roundg (a0.length - (j + 1))
                  case measure => omega
                  case rel => exact ⟨j + 1, _, _, by simp, by omega, by omega, hz1, hz2, HT⟩
                · have e4 : (kd == 4) = false := by simpa using k4
                  go_wp2_with fail
                  have hbb : Below wr.heap.size wr (wr.alloc (.cells #[.int .i64 kd, .string t] 30)) := (Below.refl _ _).alloc (Nat.le_refl _) _
                  have HK : Hid (Row (wr.alloc (.cells #[.int .i64 kd, .string t] 30)) wr.heap.size 30 [.int .i64 kd, .string t]) := Lib.hid (Row.new wr _ _)
                  have HB := Lib.hid (HT.out.below tapSpec hbb)
                  have hkb : ¬ F wr.heap.size := fun f => by have := tapSpec.lt HT.out.x.at_ _ f; omega
                  have hkg : wr.heap.size ≠ g := fun e => by have : g < wr.heap.size := Row.lt HT.out.r; omega
                  have hks : wr.heap.size < (wr.alloc (.cells #[.int .i64 kd, .string t] 30)).heap.size := by simp
                  clear hbb HT
                  generalize wr.alloc (.cells #[.int .i64 kd, .string t] 30) = W at *
                  generalize wr.heap.size = kb at *
                  have n0 : W.cell? ⟨kb, 0, none⟩ = some (.int .i64 kd) := HK.out.cell 0
                  have n1 : W.cell? ⟨kb, 1, none⟩ = some (.string t) := HK.out.cell 1
                  have HT := Lib.hid HB.out
                  have hz1 : s.head.size ≤ 100 * (j + 1) := by omega
                  have hz2 : s.part.size ≤ 100 * (j + 1) := by omega
                  clear HB HK hsz1 hsz2
                  go_wp2_with fail
                  go_roundg (a0.length - (j + 1))
                  case measure => omega
                  case rel => exact ⟨j + 1, _, _, by simp, by omega, by omega, hz1, hz2, HT⟩
        · have hts2 : 100 < (t.size : Int) := by omega
          have hBB := HT.out.x.bel
          clear HT
          go_wp2
          go_returns
          exact ⟨rfl, ((hBB.alloc hBB.size _))⟩
      · have hlt2 : ¬ (j : Int) < (a0.length : Int) := by omega
        go_wp2_with fail
        have hps : s.part.size ≤ 4000 := by omega
        obtain ⟨hd, pt, bg, on⟩ := s
        replace hps : pt.size ≤ 4000 := hps
        obtain ⟨S, hS⟩ : ∃ S, (TpS.mk hd pt bg on).sum = S := ⟨_, rfl⟩
        refine (tapSpec.sum_on HT.out.x (by show pt.size ≤ _; omega) hS (b := bg) rfl).mono ?_
        rintro r w5 ⟨F5, rfl, h5, hn5, hc5⟩
        have HR5 := HT.out.mid hc5
        have hBB := h5.bel
        have m1 : w5.cell? ⟨g, 1, none⟩ = some (.string pt) := HR5.cell 1
        have m2 : w5.cell? ⟨g, 2, none⟩ = some (.bool bg) := HR5.cell 2
        clear h5 hn5 hc5 HT HR5 hsz1 hsz2
        cases bg with
        | false =>
          obtain rfl : ByteArray.empty = S := hS
          go_wp2
          go_returns
          exact ⟨rfl, hBB⟩
        | true =>
          have hS : shaB pt = S := hS
          have eS : (S.toList == S.toList) = true := by simp
          have HR := Lib.hid (fun W => refSum_any pt (by omega) W)
          rw [hS] at HR
          clear hS hps
          go_wp2_with fail
          refine (HR.out _).mono ?_
          rintro r w8 ⟨rfl, hb⟩
          have hB8 := hBB.trans (hb.mono hBB.size)
          clear hb HR hBB m1 m2
          go_wp2
          go_returns
          exact ⟨rfl, hB8⟩
  · have l3 : 40 < (a0.length : Int) := by omega
    go_enter Try.func3, Try.ntmps3
    go_wp2_with fail
    refine (tapSpec.new_on (Below.refl _ _)).mono ?_
    rintro r w1 ⟨k, F1, rfl, _, hB1, _⟩
    have hB0 := hB1.alloc hB1.size (.cells (tapC TpS.new).toArray 27)
    go_wp2_with fail
    refine (awake21_any tapSpec _).mono ?_
    rintro r w2 ⟨rfl, hb⟩
    have hB2 := hB0.trans (hb.mono hB0.size)
    clear hb hB0 hB1
    go_wp2_with fail
    refine (awake21_any tapSpec _).mono ?_
    rintro r w3 ⟨rfl, hb⟩
    have hB3 := hB2.trans (hb.mono hB2.size)
    clear hb hB2
    go_wp2
    go_returns
    exact ⟨rfl, hB3⟩


/-! ### TapPlays: the step from the walk to the statement -/
namespace tapPlays
theorem own : ownKnob Try.prog.godebug = none := by kernel_rfl
theorem laidOut : laidOutB Try.prog = true := by kernel_rfl
set_option maxRecDepth 100000 in
theorem lifted (os : Os) (started : os.Started) (H : Type) (enc : TypeId × Value → H) :
    ReturnsInHanded {} Try.checked os 3 .any (Rows.tapPlaysSpec.pre6 enc Try.prog Try.f3 Rows.tapPlaysRow.domain false) (Rows.tapPlaysSpec.post enc Try.prog Try.f3 false true false false) := by
  refine returnsInHanded_of_change (C := Try.checked) own started (by kernel_rfl) Try.func3
    (ChangeSpec.witness6 (enc := enc) (C := Try.checked) false ⟨#[], #[.slice none 0 0], []⟩ 8 (by kernel_rfl) (by kernel_rfl) (by kernel_rfl) (by kernel_rfl)) ?_
  intro W base args ds gs before hval0 hW hcnd _
  have hval : ∀ (j : Nat) t v, Try.f3.params[j]? = some t → args[j]? = some v → Value.okWide Try.prog W .any base t v := hval0
  have hW' := hW
  obtain ⟨p, q, hA0, hV, rfl, hfz, hnd⟩ := hW
  have hA : DataW.TrodAll enc Try.prog W 0 (fun _ => true) true Try.f3.params.toList args.toList ds p := hA0
  rw [Try.params3] at hA hval
  obtain ⟨v0, vs0, d0, ds0, p0, q0, hargs, rfl, rfl, h0, r0⟩ := trodAll_cons hA
  obtain ⟨rfl, rfl, rfl⟩ := trodAll_nil r0
  obtain rfl : args = #[v0] := by cases args; simp_all
  obtain ⟨rfl, rfl⟩ := trodVars_none hV
  obtain ⟨o0, len0, c0, rfl⟩ := okWide_slice Try.underlying22 (hval 0 22 v0 rfl rfl)
  have k0 := h0
  have lt0 : ∀ x ∈ p0, x.block < W.heap.size := by obtain ⟨m, hm⟩ := k0; exact DataW.trod_lt m _ _ _ hm
  obtain ⟨a0, rfl, lc0, cm0, ca0, el0⟩ := (came_kt Try.underlying22 Try.underlying30 (by kernel_rfl) rfl rfl (by kernel_rfl) (by kernel_rfl) Try.underlying3 Try.underlying9 h0)
  clear hA0 hval0
  refine (walkTapPlays o0 c0 a0 lc0 cm0 el0 W ca0).mono fun e W' ⟨he, bel⟩ => ?_
  subst he
  exact ⟨_, rfl, _, _, _, [], _, [], hW', trodAll_mk1 (shut_bool Try.underlying4 _), (trodAll_cons_mk (Below.trod laidOut (by kernel_rfl) (of_decide_eq_true (by kernel_rfl)) k0 bel lt0) trodAll_mk0), rfl, bel.frame _, fun h => by cases h⟩
theorem over : Rows.tapPlaysRow.holds Try.pinned (OpenSpec.ofChange Rows.tapPlaysSpec) :=
  OpenClaim.holds_of_wide 3 Try.f3 rfl rfl rfl rfl rfl rfl rfl ⟨rfl, rfl, rfl, rfl, rfl⟩ rfl rfl rfl rfl rfl (by kernel_rfl) Try.func3 (by kernel_rfl)
    (of_decide_eq_true (by kernel_rfl)) (by unfold Func.isWrapper; first | (rw [if_pos (by decide +kernel)]; kernel_rfl) | (rw [if_neg (by decide +kernel)]; exact ⟨rfl, rfl⟩))
    (fun os started H enc _ => lifted os started H enc)
/-- THE STATEMENT. -/
theorem proved : Rows.TapPlaysSaid := over
end tapPlays
end Go.Proofs.Ytfkfkoebplpooaa
