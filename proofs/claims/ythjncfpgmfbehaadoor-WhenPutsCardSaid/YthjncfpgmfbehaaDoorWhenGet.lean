/- What when's Get and Put give: the landed code's contracts. Of every tag and text of at most a million bytes, where the library's table of powers of ten reads as its initialiser lays it. -/
import Derived.Test.YthjncfpgmfbehaaDoorWhenRead
import Derived.Test.YthjncfpgmfbehaaDoorWhenTab
namespace Go.Proofs.YthjncfpgmfbehaaDoor
open Go.RowKit Go.PlainAid
set_option linter.unusedVariables false
theorem Tab.same {a W : World} (h : Tab a) (hd : W.heap = a.heap) : Tab W := by
  unfold Tab Lib.TabIs World.var? at *
  rw [hd]; exact h
theorem wR_year {tag : Int} {s : ByteArray} (h : rightP tag (bl s)) : (wR tag s).1.y = yr (fullP tag (bl s)) ∧ (wR tag s).2 = true := by
  unfold wR
  rw [if_pos h]
  refine ⟨?_, rfl⟩
  have hL := fullP_length tag (bl s)
  have ho := typ_off h.1
  show (wF tag (fullP tag (bl s))).y = _
  unfold wF
  rw [if_pos (by rw [bl_length] at *; omega)]
set_option maxHeartbeats 4000000 in
theorem whenGet_any (tag : Int) (s : ByteArray) (hs : s.size ≤ 1000000) (w : World) (hT : Tab w) :
    Calls Tryd.prog 14 #[.int .i64 tag, .string s] w fun e w' => e = .returned (.tuple #[.string (wGetS tag s), .bool (wGetB tag s)]) ∧ Below w.heap.size w w' := by
  have hb9 : (s.size : Int) ≤ 9223372036854775807 := by omega
  have HR := Lib.hid (wRead_any tag s hs)
  by_cases hr : rightP tag (bl s)
  · have HB : Hid (true = wGetB tag s) := Lib.hid (decide_eq_true hr).symm
    obtain ⟨f1, f2, f3, f4⟩ := year_full hr
    have HS : Hid (yearS (yr (fullP tag (bl s))) ++ s.extract (s.size - 11) (s.size - 1) = wGetS tag s) := Lib.hid (by unfold wGetS wGetB; rw [decide_eq_true hr]; exact f1)
    obtain ⟨y1, y2⟩ := wR_year hr
    generalize wR tag s = R at *
    obtain ⟨⟨p, l, v, y, m⟩, ok⟩ := R
    simp only at y1 y2
    subst y2
    rw [← y1] at HS f3 f4
    have HI := Lib.hid (fun (W : World) (h : Tab W) => itoa_any y (by omega) (by omega) W h)
    have HY : Hid ((⟨(Lib.itoa y).toArray⟩ : ByteArray) = yearS y) := Lib.hid rfl
    have hys : (yearS y).size = 4 := by rw [← bl_length, yearS_bl y f3 f4]; rfl
    have hes : (s.extract (s.size - 11) (s.size - 1)).size = 10 := by rw [ByteArray.size_extract]; omega
    have hmx : ¬ 9223372036854775807 < (yearS y).size + (s.extract (s.size - 11) (s.size - 1)).size := by omega
    obtain ⟨E, hE⟩ : ∃ E : Nat, s.size = E + 11 := ⟨s.size - 11, by omega⟩
    rw [show s.size - 11 = E by omega, show s.size - 1 = E + 10 by omega] at HS hmx
    rw [HY.out] at HI
    clear hr f1 f2 y1 HY hys hes
    generalize wGetS tag s = G at *
    generalize wGetB tag s = B at *
    generalize yearS y = Y at *
    go_enter Tryd.func14, Tryd.ntmps14
    go_wp2_with fail
    refine (HR.out _).mono ?_
    rintro e w1 ⟨rfl, hB1⟩
    have hT1 := Lib.hid (hT.on hB1)
    have c3 : (w1.alloc (.cells #[.int .u8 p, .int .i64 l, .int .i64 v, .int .i64 y, .int .i64 m] 26)).cell? ⟨w1.heap.size, 3, none⟩ = some (.int .i64 y) := (Row.new w1 26 (wC5 p l v y m)).cell 3
    have e1 : ((E : Int) + 11 - 1) = (E : Int) + 10 := by omega
    have e2 : ((E : Int) + 10 - 10) = (E : Int) := by omega
    obtain ⟨X, hX⟩ : ∃ X, s.extract E (E + 10) = X := ⟨_, rfl⟩
    rw [hX] at HS hmx
    have n0 : (0 : Int) ≤ (E : Int) := by omega
    have n1 : (E : Int) ≤ (E : Int) + 10 := by omega
    have n2 : (E : Int) + 10 ≤ (E : Int) + 11 := by omega
    have n3 : ((E : Int) + 10).toNat = E + 10 := by omega
    have hwr : IntKind.i64.wrap (E : Int) = (E : Int) := by rw [IntKind.wrap_i64]; omega
    have hBW := Lib.hid (hB1.alloc hB1.size (.cells #[.int .u8 p, .int .i64 l, .int .i64 v, .int .i64 y, .int .i64 m] 26))
    have hTW := Lib.hid (hT1.out.on ((Below.refl w1.heap.size w1).alloc (Nat.le_refl _) (.cells #[.int .u8 p, .int .i64 l, .int .i64 v, .int .i64 y, .int .i64 m] 26)))
    clear HR hT1
    go_wp2
    generalize w1.alloc (.cells #[.int .u8 p, .int .i64 l, .int .i64 v, .int .i64 y, .int .i64 m] 26) = W1 at *
    have HJ := Lib.hid (fun (W : World) (h : W.heap = W1.heap) => HI.out W (Tab.same hTW.out h))
    clear HI hTW
    go_region_with (go_at_call 24; refine (HJ.out _ (by rfl)).mono ?_; rintro e w5 ⟨rfl, hb5⟩)
    all_goals
      have hB5 := Lib.hid (below_kept hb5 hBW.out rfl rfl rfl rfl)
      clear hb5
      go_wp2
      go_returns
      exact ⟨rets2 (congrArg Value.string HS.out) (congrArg Value.bool HB.out), hB5.out⟩
  · have HB : Hid (false = wGetB tag s) := Lib.hid (decide_eq_false hr).symm
    have HS : Hid ((⟨#[]⟩ : ByteArray) = wGetS tag s) := Lib.hid (by unfold wGetS wGetB; rw [decide_eq_false hr]; rfl)
    have hR : wR tag s = (WS.no, false) := if_neg hr
    rw [hR] at HR
    generalize wGetS tag s = G at *
    generalize wGetB tag s = B at *
    clear hr hR
    go_enter Tryd.func14, Tryd.ntmps14
    go_wp2_with fail
    refine (HR.out _).mono ?_
    rintro e w1 ⟨rfl, hB1⟩
    clear HR
    go_wp2
    go_returns
    exact ⟨rets2 (congrArg Value.string HS.out) (congrArg Value.bool HB.out), hB1.alloc hB1.size _⟩
theorem put_first {d c : ByteArray} (hr : rightP 23 (bl c)) (hf : fullS 23 c = d) : wOk d = true ∧ wTag d = 23 ∧ wC d = c := by
  obtain ⟨q1, q2, q3, _⟩ := w_got hr
  rw [hf] at q1 q2 q3
  exact ⟨q1, q2, q3⟩
theorem put_second {d : ByteArray} (h : d.size = 14) (hr : rightP 24 (bl (d ++ ⟨#[90]⟩))) : wOk d = true ∧ wTag d = 24 ∧ wC d = d ++ ⟨#[90]⟩ := by
  have hf : fullS 24 (d ++ ⟨#[90]⟩) = d := by
    have hsz : (d ++ (⟨#[90]⟩ : ByteArray)).size = 15 := by rw [ByteArray.size_append, h]; rfl
    refine bl_inj ?_
    rw [fullS_bl _ _ (by omega) (fun _ => by omega)]
    unfold fullC
    rw [if_pos rfl, bl_append, List.take_append_of_le_length (by rw [bl_length]; omega), List.take_of_length_le (by rw [bl_length]; omega)]
  obtain ⟨q1, q2, q3, _⟩ := w_got hr
  rw [hf] at q1 q2 q3
  exact ⟨q1, q2, q3⟩
theorem put_none {d : ByteArray} (h1 : ¬ (rightP 23 (bl (d.extract 2 14 ++ ⟨#[90]⟩)) ∧ fullS 23 (d.extract 2 14 ++ ⟨#[90]⟩) = d)) (h2 : ¬ rightP 24 (bl (d ++ ⟨#[90]⟩))) : wOk d = false := by
  cases hok : wOk d
  · rfl
  · obtain ⟨q1, q2, _⟩ := w_put hok
    unfold wTag wC at q1 q2
    by_cases hy : yr (bl d) < 2050
    · rw [if_pos hy, if_pos hy] at q1 q2
      exact absurd ⟨q1, q2⟩ h1
    · rw [if_neg hy, if_neg hy] at q1
      exact absurd q1 h2
theorem eq_toList (a b : ByteArray) : (a.toList == b.toList) = decide (a = b) := by
  rw [Lib.toList_data, Lib.toList_data]
  by_cases h : a = b
  · rw [h]; simp
  · rw [decide_eq_false h]
    have : a.data.toList ≠ b.data.toList := fun e => h (by
      cases a; cases b
      simp only at e
      rw [Array.toList_inj.1 e])
    simpa using this
set_option maxHeartbeats 4000000 in
theorem whenPut_any (d : ByteArray) (hd : d.size ≤ 1000000) (w : World) (hT : Tab w) :
    Calls Tryd.prog 13 #[.string d] w fun e w' => e = .returned (.tuple #[.int .i64 (wPutT d), .string (wPutC d), .bool (wOk d)]) ∧ Below w.heap.size w w' := by
  by_cases h14 : d.size = 14
  · have h14i : (d.size : Int) = 14 := by omega
    have HG := Lib.hid (fun (W : World) (h : Tab W) => whenGet_any 23 (d.extract 2 14 ++ ⟨#[90]⟩) (by rw [ByteArray.size_append, ByteArray.size_extract]; show _ + 1 ≤ _; omega) W h)
    have hmx : ¬ 9223372036854775807 < (d.extract 2 14).size + (⟨#[90]⟩ : ByteArray).size := by rw [ByteArray.size_extract]; show ¬ _ < _ + 1; omega
    have hm2 : ¬ 9223372036854775807 < d.size + (⟨#[90]⟩ : ByteArray).size := by show ¬ _ < _ + 1; omega
    have h2i : (2 : Int) ≤ (d.size : Int) := by omega
    have HR := Lib.hid (wRead_any 24 (d ++ ⟨#[90]⟩) (by rw [ByteArray.size_append]; show _ + 1 ≤ _; omega))
    by_cases hfirst : rightP 23 (bl (d.extract 2 14 ++ ⟨#[90]⟩)) ∧ fullS 23 (d.extract 2 14 ++ ⟨#[90]⟩) = d
    · obtain ⟨hr, hf⟩ := hfirst
      obtain ⟨q1, q2, q3⟩ := put_first hr hf
      have HP : Hid ((23 : Int) = wPutT d) := Lib.hid (by unfold wPutT; rw [q1, if_pos rfl]; exact q2.symm)
      have HC : Hid (d.extract 2 14 ++ (⟨#[90]⟩ : ByteArray) = wPutC d) := Lib.hid (by unfold wPutC; rw [q1, if_pos rfl]; exact q3.symm)
      have HB : Hid (true = wOk d) := Lib.hid q1.symm
      have g1 : wGetB 23 (d.extract 2 14 ++ ⟨#[90]⟩) = true := decide_eq_true hr
      have g2 : wGetS 23 (d.extract 2 14 ++ ⟨#[90]⟩) = d := by unfold wGetS; rw [g1, if_pos rfl]; exact hf
      rw [g1, g2] at HG
      clear hr hf q1 q2 q3 g1 g2 HR
      go_enter Tryd.func13, Tryd.ntmps13
      go_wp2_with fail
      refine (HG.out w hT).mono ?_
      rintro e w1 ⟨rfl, hB1⟩
      go_wp2
      go_returns
      exact ⟨rets3 (congrArg (Value.int .i64) HP.out) (congrArg Value.string HC.out) (congrArg Value.bool HB.out), hB1⟩
    · have hgs : wGetB 23 (d.extract 2 14 ++ ⟨#[90]⟩) = true → ((wGetS 23 (d.extract 2 14 ++ ⟨#[90]⟩)).toList == d.toList) = false := fun h => by
        rw [eq_toList]
        refine decide_eq_false (fun e => hfirst ?_)
        unfold wGetS at e
        rw [h, if_pos rfl] at e
        exact ⟨of_decide_eq_true h, e⟩
      generalize wGetB 23 (d.extract 2 14 ++ ⟨#[90]⟩) = gb at *
      generalize wGetS 23 (d.extract 2 14 ++ ⟨#[90]⟩) = gs at *
      cases gb
      · clear hgs
        by_cases hr : rightP 24 (bl (d ++ ⟨#[90]⟩))
        · obtain ⟨q1, q2, q3⟩ := put_second h14 hr
          have HP : Hid ((24 : Int) = wPutT d) := Lib.hid (by unfold wPutT; rw [q1, if_pos rfl]; exact q2.symm)
          have HC : Hid (d ++ (⟨#[90]⟩ : ByteArray) = wPutC d) := Lib.hid (by unfold wPutC; rw [q1, if_pos rfl]; exact q3.symm)
          have HB : Hid (true = wOk d) := Lib.hid q1.symm
          have hR : wR 24 (d ++ ⟨#[90]⟩) = (wSt 24 (bl (d ++ ⟨#[90]⟩)), true) := if_pos hr
          rw [hR] at HR
          generalize wSt 24 (bl (d ++ ⟨#[90]⟩)) = S at *
          clear hr q1 q2 q3 hR hfirst
          go_enter Tryd.func13, Tryd.ntmps13
          go_wp2_with fail
          refine (HG.out w hT).mono ?_
          rintro e w1 ⟨rfl, hB1⟩
          go_wp2_with fail
          refine (HR.out _).mono ?_
          rintro e w2 ⟨rfl, hb2⟩
          have hB2 := hB1.trans (hb2.mono hB1.size)
          clear hb2 hB1
          go_wp2
          go_returns
          exact ⟨rets3 (congrArg (Value.int .i64) HP.out) (congrArg Value.string HC.out) (congrArg Value.bool HB.out), hB2.alloc hB2.size _⟩
        · have q1 := put_none hfirst hr
          have HP : Hid ((0 : Int) = wPutT d) := Lib.hid (by unfold wPutT; rw [q1]; rfl)
          have HC : Hid ((⟨#[]⟩ : ByteArray) = wPutC d) := Lib.hid (by unfold wPutC; rw [q1]; rfl)
          have HB : Hid (false = wOk d) := Lib.hid q1.symm
          have hR : wR 24 (d ++ ⟨#[90]⟩) = (WS.no, false) := if_neg hr
          rw [hR] at HR
          clear hr q1 hR hfirst
          go_enter Tryd.func13, Tryd.ntmps13
          go_wp2_with fail
          refine (HG.out w hT).mono ?_
          rintro e w1 ⟨rfl, hB1⟩
          go_wp2_with fail
          refine (HR.out _).mono ?_
          rintro e w2 ⟨rfl, hb2⟩
          have hB2 := hB1.trans (hb2.mono hB1.size)
          clear hb2 hB1
          go_wp2
          go_returns
          exact ⟨rets3 (congrArg (Value.int .i64) HP.out) (congrArg Value.string HC.out) (congrArg Value.bool HB.out), hB2.alloc hB2.size _⟩
      · have hgs := hgs rfl
        by_cases hr : rightP 24 (bl (d ++ ⟨#[90]⟩))
        · obtain ⟨q1, q2, q3⟩ := put_second h14 hr
          have HP : Hid ((24 : Int) = wPutT d) := Lib.hid (by unfold wPutT; rw [q1, if_pos rfl]; exact q2.symm)
          have HC : Hid (d ++ (⟨#[90]⟩ : ByteArray) = wPutC d) := Lib.hid (by unfold wPutC; rw [q1, if_pos rfl]; exact q3.symm)
          have HB : Hid (true = wOk d) := Lib.hid q1.symm
          have hR : wR 24 (d ++ ⟨#[90]⟩) = (wSt 24 (bl (d ++ ⟨#[90]⟩)), true) := if_pos hr
          rw [hR] at HR
          generalize wSt 24 (bl (d ++ ⟨#[90]⟩)) = S at *
          clear hr q1 q2 q3 hR hfirst
          go_enter Tryd.func13, Tryd.ntmps13
          go_wp2_with fail
          refine (HG.out w hT).mono ?_
          rintro e w1 ⟨rfl, hB1⟩
          go_wp2_with fail
          refine (HR.out _).mono ?_
          rintro e w2 ⟨rfl, hb2⟩
          have hB2 := hB1.trans (hb2.mono hB1.size)
          clear hb2 hB1
          go_wp2
          go_returns
          exact ⟨rets3 (congrArg (Value.int .i64) HP.out) (congrArg Value.string HC.out) (congrArg Value.bool HB.out), hB2.alloc hB2.size _⟩
        · have q1 := put_none hfirst hr
          have HP : Hid ((0 : Int) = wPutT d) := Lib.hid (by unfold wPutT; rw [q1]; rfl)
          have HC : Hid ((⟨#[]⟩ : ByteArray) = wPutC d) := Lib.hid (by unfold wPutC; rw [q1]; rfl)
          have HB : Hid (false = wOk d) := Lib.hid q1.symm
          have hR : wR 24 (d ++ ⟨#[90]⟩) = (WS.no, false) := if_neg hr
          rw [hR] at HR
          clear hr q1 hR hfirst
          go_enter Tryd.func13, Tryd.ntmps13
          go_wp2_with fail
          refine (HG.out w hT).mono ?_
          rintro e w1 ⟨rfl, hB1⟩
          go_wp2_with fail
          refine (HR.out _).mono ?_
          rintro e w2 ⟨rfl, hb2⟩
          have hB2 := hB1.trans (hb2.mono hB1.size)
          clear hb2 hB1
          go_wp2
          go_returns
          exact ⟨rets3 (congrArg (Value.int .i64) HP.out) (congrArg Value.string HC.out) (congrArg Value.bool HB.out), hB2.alloc hB2.size _⟩
  · have HB : Hid (wOk d = false) := Lib.hid (by cases h : wOk d; rfl; exact absurd (wOk_size h) h14)
    have HP : Hid ((0 : Int) = wPutT d) := Lib.hid (by unfold wPutT; rw [HB.out]; rfl)
    have HC : Hid ((⟨#[]⟩ : ByteArray) = wPutC d) := Lib.hid (by unfold wPutC; rw [HB.out]; rfl)
    have hne : ((d.size : Int) != 14) = true := by simpa using (by omega : (d.size : Int) ≠ 14)
    have hb9 : (d.size : Int) ≤ 9223372036854775807 := by omega
    clear h14
    go_enter Tryd.func13, Tryd.ntmps13
    go_wp2
    go_returns
    exact ⟨rets3 (congrArg (Value.int .i64) HP.out) (congrArg Value.string HC.out) (congrArg Value.bool HB.out.symm), Below.refl _ _⟩
end Go.Proofs.YthjncfpgmfbehaaDoor
