/- Of every row of texts (of more than 30, or one of more than 100 bytes, the law asks no more): the bytes since the last head are all that came. No condition but the form of the row. -/
import Derived.Test.YtfkfkoebplpooaaTapCode
import Derived.Test.YtfkfkoebplpooaaTapLoop
import Derived.Test.YtfkfkoebplpooaaCame
import Derived.Test.YtfkfkoebplpooaaMem2
import Derived.Test.YtfkfkoebplpooaaRows
import Derived.WalkKit
import Derived.ProofKit
import Derived.OpenShut
import Derived.ShutString
import Derived.ChangeOld
import Derived.Below
import Derived.Carry
namespace Go.Proofs.Ytfkfkoebplpooaa
open Go.ChangeShapes Go.WideShapes Go.ChangeAt Go.RowKit
open Go.ChangeMaps (open_string shut_string)
set_option linter.unusedVariables false
open Go.PlainAid in
set_option maxRecDepth 100000 in
set_option maxHeartbeats 16000000 in
theorem walkTapPieces (o0 : Option Addr) (c0 : Nat) (a0 : List ByteArray) (lc0 : a0.length ≤ c0) (cm0 : c0 ≤ maxLen) (el0 : ∀ x ∈ a0, x.size ≤ maxLen) (w : World) (ca0 : Came w o0 (svs a0)) :
    Calls Try.prog 6 #[.slice o0 a0.length c0] w fun e w' => e = .returned (.bool true) ∧ Below w.heap.size w w' := by
  by_cases hl : a0.length ≤ 30
  · have l3 : ¬ 30 < (a0.length : Int) := by omega
    have HC := Lib.hid ca0
    clear ca0
    go_enter Try.func6, Try.ntmps6
    go_wp2_with fail
    refine (tapSpec.new_on (Below.refl _ _)).mono ?_
    rintro r w1 ⟨k, F1, rfl, h9, _, _⟩
    have HT := Lib.hid h9
    clear h9
    go_wp2_with fail
    refine (awake21_any tapSpec _).mono ?_
    rintro r w2 ⟨rfl, hb⟩
    replace HT := Lib.hid (HT.out.below tapSpec hb)
    clear hb
    go_wp2_with fail
    go_loopg [24] a0.length (fun gk iv wr => ∃ (i : Nat) (F : Nat → Prop) (s : TpS), iv = .int .i64 (i : Int) ∧ i ≤ a0.length ∧ a0.length - i ≤ gk ∧ s.head = .empty ∧ s.part.size ≤ 100 * i ∧ s.begun = decide (1 < i) ∧ Hid (TOn TpAt w wr k F s))
    case atStart => exact ⟨0, _, TpS.new, rfl, by omega, by omega, rfl, by decide, rfl, HT⟩
    case round =>
      clear HT
      obtain ⟨i, F, s, rfl, hi, hgk, hs1, hs2, hs3, HT⟩ := hrel
      by_cases hlt : i < a0.length
      · have hlt2 : (i : Int) < (a0.length : Int) := by omega
        obtain ⟨ad, ho, _, hcell⟩ := (HC.out.below HT.out.bel).first (by simp only [svs, List.length_map]; omega)
        have hc0 := hcell i (.string a0[i]) (by simp [svs, hlt])
        have hxm : a0[i].size ≤ maxLen := el0 _ (List.getElem_mem hlt)
        subst ho
        obtain ⟨x, hx⟩ : ∃ x, a0[i] = x := ⟨_, rfl⟩
        rw [hx] at hc0 hxm
        have hx9 : (x.size : Int) ≤ 9223372036854775807 := by unfold maxLen at hxm; omega
        clear hcell hx hxm
        by_cases hxs : 100 < (x.size : Int)
        · have hBB := HT.out.bel
          clear HT hs1 hs2 hs3
          go_wp2
          go_returns
          exact ⟨rfl, hBB⟩
        · have hxs2 : x.size ≤ 100 := by omega
          have HZ : Hid (s.head.size ≤ 100000 ∧ s.part.size ≤ 100000) := Lib.hid (by rw [hs1]; exact ⟨by decide, by omega⟩)
          go_wp2_with fail
          go_loopg [34] x.size (fun gj jv wq => ∃ (j : Nat) (F : Nat → Prop), jv = .int .i64 (j : Int) ∧ j ≤ x.size ∧ x.size - j ≤ gj ∧ Hid (TOn TpAt w wq k F (s.pushes (x.extract 0 j))))
          case atStart => exact ⟨0, _, rfl, by omega, by omega, Lib.hid (by rw [ext_zero, TpS.pushes_nil]; exact HT.out)⟩
          case round =>
            clear HT
            obtain ⟨j, F, rfl, hj, hgj, HT⟩ := hrel
            by_cases hlj : j < x.size
            · have hlj2 : (j : Int) < (x.size : Int) := by omega
              have gj := get_bt x j hlj
              have q0 := bt_nonneg x j
              have q1 := bt_le x j
              have HN := Lib.hid (TpS.pushes_next s x j hlj)
              have HM := Lib.hid (TpS.pushes_room s x j HZ.out.1 HZ.out.2 (by omega))
              generalize bt x j = b at *
              go_wp2_with fail
              refine (tapSpec.push_on HT.out b ⟨q0, q1⟩ HM.out HN.out).mono ?_
              rintro r wu ⟨Fu, rfl, h9, _, _⟩
              replace HT := Lib.hid h9
              clear h9
              clear HN HM HZ
              go_wp2_with fail
              go_roundg (x.size - (j + 1))
              case measure => omega
              case rel => exact ⟨j + 1, _, by simp, by omega, by omega, HT⟩
            · have hlj2 : ¬ (j : Int) < (x.size : Int) := by omega
              obtain rfl : j = x.size := by omega
              obtain ⟨hd, pt, bg, on⟩ := s
              have hs1 : hd = .empty := hs1
              subst hs1
              have hs2 : pt.size ≤ 100 * i := hs2
              have hs3 : bg = decide (1 < i) := hs3
              obtain ⟨P, hP⟩ : ∃ P, (if on = true then pt ++ x else pt) = P := ⟨_, rfl⟩
              have hPz : P.size ≤ 100 * i + 100 := by
                rw [← hP]; split
                · rw [ByteArray.size_append]; omega
                · omega
              replace HT : Hid (TOn TpAt w wr k F ⟨x, P, bg, on⟩) := Lib.hid (by have := HT.out; rw [ext_all] at this; unfold TpS.pushes at this; rw [ByteArray.empty_append, hP] at this; exact this)
              clear hP HZ hj hgj hs2
              generalize wr = W at *
              have eX : (x.toList == x.toList) = true := by simp
              go_wp2_with fail
              refine (tapSpec.head_on HT.out (by show x.size ≤ _; omega) (s' := ⟨.empty, P, bg, on⟩) rfl (t := x) rfl).mono ?_
              rintro r w4 ⟨F4, rfl, h9, _, _⟩
              replace HT := Lib.hid h9
              clear h9
              by_cases h1 : i = 1
              · have h2 : (i : Int) = 1 := by omega
                go_wp2_with fail
                refine (tapSpec.start_on HT.out x (by omega) (s' := ⟨.empty, x, true, true⟩) rfl).mono ?_
                rintro r w5 ⟨F5, rfl, h9, _, _⟩
                replace HT := Lib.hid h9
                clear h9
                go_wp2_with fail
                go_roundg (a0.length - (i + 1))
                case measure => omega
                case rel => exact ⟨i + 1, _, _, by subst h1; rfl, by omega, by omega, rfl, (by show x.size ≤ _; omega), (by show true = _; subst h1; rfl), HT⟩
              · have h2 : ¬ (i : Int) = 1 := by omega
                go_wp2_with fail
                go_roundg (a0.length - (i + 1))
                case measure => omega
                case rel => exact ⟨i + 1, _, _, by simp, by omega, by omega, rfl, (by show P.size ≤ _; omega), (by show bg = _; rw [hs3]; exact decide_eq_decide.2 ⟨fun h => by omega, fun h => by omega⟩), HT⟩
      · have hlt2 : ¬ (i : Int) < (a0.length : Int) := by omega
        obtain rfl : i = a0.length := by omega
        obtain ⟨hd, pt, bg, on⟩ := s
        have hs1 : hd = .empty := hs1
        subst hs1
        have hs2 : pt.size ≤ 100 * a0.length := hs2
        have HS3 : Hid (bg = decide (1 < a0.length)) := Lib.hid hs3
        clear hi hgk hlt hs3
        obtain ⟨S, hS⟩ : ∃ S, (TpS.mk .empty pt bg on).sum = S := ⟨_, rfl⟩
        go_wp2_with fail
        refine (tapSpec.sum_on HT.out (by show pt.size ≤ _; omega) hS (b := bg) rfl).mono ?_
        rintro r w7 ⟨F7, rfl, h9, _, _⟩
        replace HT := Lib.hid h9
        clear h9
        go_wp2_with fail
        refine (tapSpec.head_on HT.out (by show ByteArray.empty.size ≤ _; decide) rfl (t := ⟨#[]⟩) rfl).mono ?_
        rintro r w8 ⟨F8, rfl, h9, _, _⟩
        have hBB := h9.bel
        clear h9 HT hS
        by_cases hn : 1 < a0.length
        · have hn2 : 1 < (a0.length : Int) := by omega
          have hbt : bg = true := by rw [HS3.out]; exact decide_eq_true hn
          subst hbt
          clear hs2 hn HC el0 HS3
          go_wp2
          go_returns
          exact ⟨rfl, hBB⟩
        · have hn2 : ¬ 1 < (a0.length : Int) := by omega
          have hd2 : decide (1 < (a0.length : Int)) = false := decide_eq_false hn2
          have hbt : bg = false := by rw [HS3.out]; exact decide_eq_false hn
          subst hbt
          clear hs2 hn HC el0 HS3
          go_wp2
          go_returns
          exact ⟨rfl, hBB⟩
  · have l3 : 30 < (a0.length : Int) := by omega
    go_enter Try.func6, Try.ntmps6
    go_wp2_with fail
    refine (tapSpec.new_on (Below.refl _ _)).mono ?_
    rintro r w1 ⟨k, F1, rfl, _, hB1, _⟩
    go_wp2_with fail
    refine (awake21_any tapSpec _).mono ?_
    rintro r w2 ⟨rfl, hb⟩
    have hB2 := hB1.trans (hb.mono hB1.size)
    clear hb hB1
    go_wp2_with fail
    refine (awake21_any tapSpec _).mono ?_
    rintro r w3 ⟨rfl, hb⟩
    have hB3 := hB2.trans (hb.mono hB2.size)
    clear hb hB2
    go_wp2
    go_returns
    exact ⟨rfl, hB3⟩


/-! ### TapPieces: the step from the walk to the statement -/
namespace tapPieces
theorem own : ownKnob Try.prog.godebug = none := by kernel_rfl
theorem laidOut : laidOutB Try.prog = true := by kernel_rfl
set_option maxRecDepth 100000 in
theorem lifted (os : Os) (started : os.Started) (H : Type) (enc : TypeId × Value → H) :
    ReturnsInHanded {} Try.checked os 6 .any (Rows.tapPiecesSpec.pre6 enc Try.prog Try.f6 Rows.tapPiecesRow.domain false) (Rows.tapPiecesSpec.post enc Try.prog Try.f6 false true false false) := by
  refine returnsInHanded_of_change (C := Try.checked) own started (by kernel_rfl) Try.func6
    (ChangeSpec.witness6 (enc := enc) (C := Try.checked) false ⟨#[], #[.slice none 0 0], []⟩ 8 (by kernel_rfl) (by kernel_rfl) (by kernel_rfl) (by kernel_rfl)) ?_
  intro W base args ds gs before hval0 hW hcnd _
  have hval : ∀ (j : Nat) t v, Try.f6.params[j]? = some t → args[j]? = some v → Value.okWide Try.prog W .any base t v := hval0
  have hW' := hW
  obtain ⟨p, q, hA0, hV, rfl, hfz, hnd⟩ := hW
  have hA : DataW.TrodAll enc Try.prog W 0 (fun _ => true) true Try.f6.params.toList args.toList ds p := hA0
  rw [Try.params6] at hA hval
  obtain ⟨v0, vs0, d0, ds0, p0, q0, hargs, rfl, rfl, h0, r0⟩ := trodAll_cons hA
  obtain ⟨rfl, rfl, rfl⟩ := trodAll_nil r0
  obtain rfl : args = #[v0] := by cases args; simp_all
  obtain ⟨rfl, rfl⟩ := trodVars_none hV
  obtain ⟨o0, len0, c0, rfl⟩ := okWide_slice Try.underlying39 (hval 0 39 v0 rfl rfl)
  have k0 := h0
  have lt0 : ∀ x ∈ p0, x.block < W.heap.size := by obtain ⟨m, hm⟩ := k0; exact DataW.trod_lt m _ _ _ hm
  obtain ⟨a0, rfl, lc0, cm0, ca0, el0⟩ := (came_strs Try.underlying39 Try.underlying9 (by kernel_rfl) h0)
  clear hA0 hval0
  refine (walkTapPieces o0 c0 a0 lc0 cm0 el0 W ca0).mono fun e W' ⟨he, bel⟩ => ?_
  subst he
  exact ⟨_, rfl, _, _, _, [], _, [], hW', trodAll_mk1 (shut_bool Try.underlying4 _), (trodAll_cons_mk (Below.trod laidOut (by kernel_rfl) (of_decide_eq_true (by kernel_rfl)) k0 bel lt0) trodAll_mk0), rfl, bel.frame _, fun h => by cases h⟩
theorem over : Rows.tapPiecesRow.holds Try.pinned (OpenSpec.ofChange Rows.tapPiecesSpec) :=
  OpenClaim.holds_of_wide 6 Try.f6 rfl rfl rfl rfl rfl rfl rfl ⟨rfl, rfl, rfl, rfl, rfl⟩ rfl rfl rfl rfl rfl (by kernel_rfl) Try.func6 (by kernel_rfl)
    (of_decide_eq_true (by kernel_rfl)) (by unfold Func.isWrapper; first | (rw [if_pos (by decide +kernel)]; kernel_rfl) | (rw [if_neg (by decide +kernel)]; exact ⟨rfl, rfl⟩))
    (fun os started H enc _ => lifted os started H enc)
/-- THE STATEMENT. -/
theorem proved : Rows.TapPiecesSaid := over
end tapPieces
end Go.Proofs.Ytfkfkoebplpooaa
