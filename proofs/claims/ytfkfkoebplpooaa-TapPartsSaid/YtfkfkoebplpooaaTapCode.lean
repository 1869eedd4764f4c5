/- What package tap's calls give. -/
import Derived.Test.YtfkfkoebplpooaaTapMem
import Derived.Deep.QuietTactic
import Derived.Deep.RegionWith
import Derived.BigQuiet
namespace Go.Proofs.Ytfkfkoebplpooaa
open Go.RowKit Go.PlainAid
set_option linter.unusedVariables false
set_option maxHeartbeats 4000000 in
theorem tap_new (w : World) : Calls Try.prog 7 #[] w fun e w' => ∃ k F, e = .returned (.pointer (some ⟨k, 0, none⟩)) ∧ (∀ i, F i → w.heap.size ≤ i) ∧ TpAt w' k F TpS.new ∧ Below w.heap.size w w' := by
  have HF : Hid (TpAt (w.alloc (.cells #[.slice none 0 0, .pointer none, .bool false] 44)) w.heap.size (fun i => i = w.heap.size) TpS.new) := Lib.hid
    ⟨fun _ => False, fun _ => False, _, _, [], Row.new w _ [.slice none 0 0, .pointer none, .bool false], .inl ⟨rfl, rfl, fun _ h => h⟩, .inl ⟨rfl, rfl, fun _ h => h⟩, rfl, (fun h => by cases h), fun h => h, fun h => h, fun _ h => h.elim, (fun i => by simp)⟩
  go_enter Try.func7, Try.ntmps7
  go_wp2
  go_returns
  first
    | exact ⟨w.heap.size, rfl, _, fun i hi => Nat.le_of_eq hi.symm, HF.out, (Below.refl _ _).alloc (Nat.le_refl _) _⟩
    | exact ⟨w.heap.size, _, rfl, fun i hi => Nat.le_of_eq hi.symm, HF.out, (Below.refl _ _).alloc (Nat.le_refl _) _⟩
theorem tap_over {w : World} {k : Nat} {F : Nat → Prop} {s : TpS} (h : TpAt w k F s) :
    Calls Try.prog 14 #[.pointer (some ⟨k, 0, none⟩)] w fun r w' => ∃ F', r = .returned (.tuple #[]) ∧ (∀ i, F' i → F i ∨ w.heap.size ≤ i) ∧ TpAt w' k F' s.over ∧ Chg F w w' := by
  obtain ⟨F1, F2, v, hv, l, h⟩ := h
  obtain ⟨hd, pt, bg, on⟩ := s
  have hk : Chg (fun i => i = k) w (w.setCell ⟨k, 2, none⟩ (.bool false)) := chg_cell (F := fun i => i = k) rfl 2 _
  have HX : Hid (TpAt (w.setCell ⟨k, 2, none⟩ (.bool false)) k F (TpS.mk hd pt bg on).over ∧ Chg F w (w.setCell ⟨k, 2, none⟩ (.bool false))) := Lib.hid
    ⟨⟨F1, F2, v, hv, l, h.row.set 2 (.bool false), h.hd.chg hk (fun i hi e => h.n1 (e ▸ hi)), h.dg.chg hk (fun i hi e => h.n2 (e ▸ hi)), h.eq, (fun q => by cases q), h.n1, h.n2, h.dj, h.all⟩, chg_wide hk (fun i e => (h.all i).2 (.inl e))⟩
  have c2 : w.cell? ⟨k, 2, none⟩ = some (.bool on) := h.row.cell 2
  have f2 := h.row.frozen 2
  clear h hk
  go_enter Try.func14, Try.ntmps14
  go_wp2
  first
    | (go_end0; exact ⟨F, rfl, fun i hi => .inl hi, HX.out.1, HX.out.2⟩)
    | (go_returns; exact ⟨F, rfl, fun i hi => .inl hi, HX.out.1, HX.out.2⟩)
set_option maxHeartbeats 4000000 in
theorem tap_head {w : World} {k : Nat} {F : Nat → Prop} {s : TpS} (h : TpAt w k F s) (hz : s.head.size ≤ 500000) :
    Calls Try.prog 11 #[.pointer (some ⟨k, 0, none⟩)] w fun r w' => ∃ F', r = .returned (.string s.head) ∧ (∀ i, F' i → F i ∨ w.heap.size ≤ i) ∧ TpAt w' k F' s.bare ∧ Chg F w w' := by
  obtain ⟨F1, F2, v, hv, l, h⟩ := h
  obtain ⟨hd, pt, bg, on⟩ := s
  have hcv := conv_th h.hd
  rw [h.eq] at hcv
  replace hcv : (convert 41 9 v).run Try.prog w = .ok (.string hd) w := hcv
  have HX := Lib.hid (h.head (G := fun _ => False) (v1 := .slice none 0 0) (l1 := []) (t := .empty) (X := w) (.inl ⟨rfl, rfl, fun _ h => h⟩) (fun i hi => hi.elim) ⟨rfl, rfl, rfl, Nat.le_refl _, fun _ _ _ => rfl⟩ rfl)
  have c0 : w.cell? ⟨k, 0, none⟩ = some v := h.row.cell 0
  have f0 := h.row.frozen 0
  clear h
  show Calls _ _ _ _ fun r w' => ∃ F', r = .returned (.string hd) ∧ (∀ i, F' i → F i ∨ w.heap.size ≤ i) ∧ TpAt w' k F' ⟨.empty, pt, bg, on⟩ ∧ Chg F w w'
  clear hz
  go_enter Try.func11, Try.ntmps11
  go_wp2
  go_returns
  first
    | exact ⟨_, rfl, HX.out.2.1, ⟨_, _, _, _, _, HX.out.1⟩, HX.out.2.2.1⟩
    | exact ⟨rfl, _, HX.out.2.1, ⟨_, _, _, _, _, HX.out.1⟩, HX.out.2.2.1⟩
set_option maxHeartbeats 4000000 in
theorem tap_sum {w : World} {k : Nat} {F : Nat → Prop} {s : TpS} (h : TpAt w k F s) (hz : s.part.size ≤ 500000) :
    Calls Try.prog 15 #[.pointer (some ⟨k, 0, none⟩)] w fun r w' => ∃ F', r = .returned (.tuple #[.string s.sum, .bool s.begun]) ∧ (∀ i, F' i → F i ∨ w.heap.size ≤ i) ∧ TpAt w' k F' s ∧ Chg F w w' := by
  have HA := Lib.hid h
  obtain ⟨F1, F2, v, hv, l, h⟩ := h
  obtain ⟨hd, pt, bg, on⟩ := s
  replace hz : pt.size ≤ 500000 := hz
  have c1 : w.cell? ⟨k, 1, none⟩ = some hv := h.row.cell 1
  have hdg : TD w F2 hv bg pt := h.dg
  clear h
  rcases hdg with ⟨rfl, rfl, _⟩ | ⟨g, rfl, rfl, hH, _⟩
  · show Calls _ _ _ _ fun r w' => ∃ F', r = .returned (.tuple #[.string .empty, .bool false]) ∧ _
    go_enter Try.func15, Try.ntmps15
    go_wp2
    go_returns
    first
      | exact ⟨F, rfl, fun i hi => .inl hi, HA.out, ⟨rfl, rfl, rfl, Nat.le_refl _, fun _ _ _ => rfl⟩⟩
      | exact ⟨rfl, F, fun i hi => .inl hi, HA.out, ⟨rfl, rfl, rfl, Nat.le_refl _, fun _ _ _ => rfl⟩⟩
  · show Calls _ _ _ _ fun r w' => ∃ F', r = .returned (.tuple #[.string (shaB pt), .bool true]) ∧ _
    have HS := Lib.hid (sum_any ab_any g pt w hH (by omega))
    clear hH
    go_enter Try.func15, Try.ntmps15
    go_wp2_with fail
    refine HS.out.mono ?_
    rintro r w1 ⟨rfl, hb⟩
    have HC : Hid (Chg (fun _ => False) w w1) := Lib.hid (Chg.of_below hb)
    clear hb HS c1
    go_wp2
    go_returns
    first
      | exact ⟨F, rfl, fun i hi => .inl hi, tat_aside HA.out HC.out (fun _ _ h => h), chg_wide HC.out (fun _ h => h.elim)⟩
      | exact ⟨rfl, F, fun i hi => .inl hi, tat_aside HA.out HC.out (fun _ _ h => h), chg_wide HC.out (fun _ h => h.elim)⟩
set_option maxHeartbeats 4000000 in
theorem tap_start {w : World} {k : Nat} {F : Nat → Prop} {s : TpS} (b : ByteArray) (h : TpAt w k F s) (hz : b.size ≤ 500000) :
    Calls Try.prog 12 #[.pointer (some ⟨k, 0, none⟩), .string b] w fun r w' => ∃ F', r = .returned (.tuple #[]) ∧ (∀ i, F' i → F i ∨ w.heap.size ≤ i) ∧ TpAt w' k F' (s.start b) ∧ Chg F w w' := by
  obtain ⟨F1, F2, v, hv, l, h⟩ := h
  obtain ⟨hd, pt, bg, on⟩ := s
  have HP := Lib.hid h
  clear h
  show Calls _ _ _ _ fun r w' => ∃ F', r = .returned (.tuple #[]) ∧ (∀ i, F' i → F i ∨ w.heap.size ≤ i) ∧ TpAt w' k F' ⟨hd, b, true, true⟩ ∧ Chg F w w'
  go_enter Try.func12, Try.ntmps12
  go_wp2_with fail
  refine (new_any _).mono ?_
  rintro r w1 ⟨g, rfl, hg, hH, hb⟩
  obtain ⟨h1, h2, h3, c1, f1⟩ := HP.out.other hb hg hH
  have c2 : (w1.setCell ⟨k, 1, none⟩ (.pointer (some ⟨g, 0, none⟩))).cell? ⟨k, 2, none⟩ = some (.bool on) := h1.row.cell 2
  have f2 := h1.row.frozen 2
  obtain ⟨h4, h5⟩ := h1.goes true (fun _ => rfl)
  have HO := Lib.hid (And.intro h2 (h3.trans h5 (fun i hi => h2 i hi)))
  have HP1 := Lib.hid h4
  have d1 : ((w1.setCell ⟨k, 1, none⟩ (.pointer (some ⟨g, 0, none⟩))).setCell ⟨k, 2, none⟩ (.bool true)).cell? ⟨k, 1, none⟩ = some (.pointer (some ⟨g, 0, none⟩)) := h4.row.cell 1
  clear h1 h2 h3 h4 h5 hH hb HP hg
  go_wp2_with fail
  refine (write_any ab_any g .empty b _ HP1.out.hash (by show 0 + b.size ≤ _; omega)).mono ?_
  rintro r w2 ⟨rfl, hH, hb⟩
  rw [ByteArray.empty_append] at hH
  obtain ⟨h1, h2⟩ := HP1.out.more hH hb
  have HF : Hid (TpAt w2 k (fun i => i = k ∨ F1 i ∨ i = g) ⟨hd, b, true, true⟩) := Lib.hid ⟨_, _, _, _, _, h1⟩
  have HC : Hid (Chg F w w2) := Lib.hid (HO.out.2.trans h2 (fun i hi => HO.out.1 i hi))
  clear h1 h2 hH hb c1 f1 d1 HP1 c2 f2
  go_wp2
  first
    | (go_end0; exact ⟨_, rfl, HO.out.1, HF.out, HC.out⟩)
    | (go_returns; exact ⟨_, rfl, HO.out.1, HF.out, HC.out⟩)
set_option maxRecDepth 100000 in
set_option maxHeartbeats 8000000 in
theorem tap_push {w : World} {k : Nat} {F : Nat → Prop} {s : TpS} (b : Int) (h : TpAt w k F s) (hb : 0 ≤ b ∧ b ≤ 255) (hz : s.head.size < 500000 ∧ s.part.size < 500000) :
    Calls Try.prog 9 #[.pointer (some ⟨k, 0, none⟩), .int .u8 b] w fun r w' => ∃ F', r = .returned (.tuple #[]) ∧ (∀ i, F' i → F i ∨ w.heap.size ≤ i) ∧ TpAt w' k F' (s.push b) ∧ Chg F w w' := by
  obtain ⟨F1, F2, v, hv, l, h⟩ := h
  obtain ⟨hd, pt, bg, on⟩ := s
  have hl : l.length < 500000 := by have h1 := strOfNums_size l; rw [h.eq] at h1; have := hz.1; omega
  have hl2 : l.length ≤ 1000000000000 := by omega
  have hps : pt.size < 500000 := hz.2
  have c0 : w.cell? ⟨k, 0, none⟩ = some v := h.row.cell 0
  have a0 : (w.alloc (.cells #[.int .u8 b] 5)).cell? ⟨k, 0, none⟩ = some v := (h.row.alloc _).cell 0
  have HB : Hid (Below w.heap.size w (w.alloc (.cells #[.int .u8 b] 5))) := Lib.hid ((Below.refl _ _).alloc (Nat.le_refl _) _)
  have HT : Hid (TH (w.alloc (.cells #[.int .u8 b] 5)) F1 v l) := Lib.hid (h.hd.chg (Chg.of_below (F := fun _ => False) HB.out) (fun _ _ h => h))
  have HAc : Hid ((w.alloc (.cells #[.int .u8 b] 5)).cell? ⟨w.heap.size, 0, none⟩ = some (.int .u8 b)) := Lib.hid (by simp)
  have HS : Hid (strOfNums (l ++ [b]) = hd ++ byteS b) := Lib.hid (by rw [strOfNums_append, h.eq]; rfl)
  have HP := Lib.hid h
  clear h hl hz
  go_enter Try.func9, Try.ntmps9
  go_wp2_with (at_builtin; refine wpList_append_th rfl (.tmp 8) (.tmp 10) rfl rfl HT.out w.heap.size 1 b rfl HAc.out hl2 ?_)
  intro v1 X1 G h1 h2 h3
  obtain ⟨g1, n1, c1, rfl⟩ : ∃ g1 n1 c1, v1 = .slice (some ⟨g1, 0, none⟩) n1 c1 := by
    rcases h1 with ⟨_, q, _⟩ | ⟨g1, q, _⟩
    · simp at q
    · obtain ⟨c, q, _⟩ := q.open rfl
      exact ⟨_, _, _, q⟩
  obtain ⟨h4, h5, h6, x0, z0⟩ := HP.out.head h1 (fun i hi => by
    rcases h2 i hi with q | q
    · exact .inl q
    · have := HB.out.size; exact .inr (by omega)) ((Chg.of_below (F := F1) HB.out).trans h3 (fun i hi => .inl hi)) HS.out
  have HO := Lib.hid (And.intro h5 h6)
  have HP1 := Lib.hid h4
  clear h1 h2 h3 h4 h5 h6 HP HT HAc HB HS c0 a0 hl2
  have d2 : (X1.setCell ⟨k, 0, none⟩ (.slice (some ⟨g1, 0, none⟩) n1 c1)).cell? ⟨k, 2, none⟩ = some (.bool on) := HP1.out.row.cell 2
  cases on with
  | false =>
    have HF : Hid (TpAt (X1.setCell ⟨k, 0, none⟩ (.slice (some ⟨g1, 0, none⟩) n1 c1)) k (fun i => i = k ∨ G i ∨ F2 i) ((TpS.mk hd pt bg false).push b)) := Lib.hid ⟨_, _, _, _, _, HP1.out⟩
    clear HP1
    go_wp2
    first
      | (go_end0; exact ⟨_, rfl, HO.out.1, HF.out, HO.out.2⟩)
      | (go_returns; exact ⟨_, rfl, HO.out.1, HF.out, HO.out.2⟩)
  | true =>
    go_upto_region 2 with (fail)
    clear d2 x0 z0
    generalize X1.setCell ⟨k, 0, none⟩ (.slice (some ⟨g1, 0, none⟩) n1 c1) = W at *
    have hbg : bg = true := HP1.out.onb rfl
    subst hbg
    obtain ⟨g, rfl⟩ : ∃ g, hv = .pointer (some ⟨g, 0, none⟩) := by
      rcases HP1.out.dg with ⟨_, q, _⟩ | ⟨g, q, _⟩
      · cases q
      · exact ⟨g, q⟩
    have d1 : W.cell? ⟨k, 1, none⟩ = some (.pointer (some ⟨g, 0, none⟩)) := HP1.out.row.cell 1
    have e1 : W.drew.cell? ⟨k, 1, none⟩ = some (.pointer (some ⟨g, 0, none⟩)) := d1
    have a1 : (W.alloc (.cells #[.int .u8 b] 5)).cell? ⟨k, 1, none⟩ = some (.pointer (some ⟨g, 0, none⟩)) := (HP1.out.row.alloc _).cell 1
    have a2 : (W.alloc (.cells #[.int .u8 b] 5)).drew.cell? ⟨k, 1, none⟩ = some (.pointer (some ⟨g, 0, none⟩)) := a1
    have a3 : (W.alloc (.cells #[.int .u8 b] 5)).cell? ⟨W.heap.size, 0, none⟩ = some (.int .u8 b) := by simp
    have a4 := conv_at b _ _ a3
    have a5 := conv_at b (W.alloc (.cells #[.int .u8 b] 5)).drew W.heap.size a3
    have HBl : Hid (Below W.heap.size W (W.alloc (.cells #[.int .u8 b] 5)).drew) := Lib.hid (((Below.refl _ W).alloc (Nat.le_refl _) _).drew)
    have HWr : Hid (∀ X, Below W.heap.size W X → Calls Try.prog 17 #[.pointer (some ⟨g, 0, none⟩), .string (strOfNums [b])] X fun e w' => e = .returned (.tuple #[]) ∧ TpAt w' k (fun i => i = k ∨ G i ∨ F2 i) ⟨hd ++ byteS b, pt ++ byteS b, true, true⟩ ∧ Chg F w w' ∧ w'.cell? ⟨k, 1, none⟩ = some (.pointer (some ⟨g, 0, none⟩))) := Lib.hid (fun X hX => by
      have hP := HP1.out
      have hx : TPs X k (fun i => i = k ∨ G i ∨ F2 i) G F2 (.slice (some ⟨g1, 0, none⟩) n1 c1) (.pointer (some ⟨g, 0, none⟩)) (l ++ [b]) ⟨hd ++ byteS b, pt, true, true⟩ := ⟨hP.row.below hX hP.row.lt, hP.hd.chg (Chg.of_below (F := fun _ => False) hX) (fun _ _ h => h), hP.dg.chg (Chg.of_below (F := fun _ => False) hX) (fun _ _ h => h), hP.eq, hP.onb, hP.n1, hP.n2, hP.dj, hP.all⟩
      refine (write_any ab_any g pt (byteS b) X hx.hash (by show pt.size + 1 ≤ _; omega)).mono ?_
      rintro e w' ⟨h1, h2, h3⟩
      obtain ⟨h4, h5⟩ := hx.more h2 h3
      exact ⟨h1, ⟨_, _, _, _, _, h4⟩, HO.out.2.trans ((Chg.of_below (F := fun i => i = k ∨ G i ∨ F2 i) hX).trans h5 (fun i hi => .inl hi)) HO.out.1, h4.row.cell 1⟩)
    have HO1 := Lib.hid HO.out.1
    clear HP1 HO
    go_region_with (first | (go_at_call 17; with_reducible refine (HWr.out _ HBl.out).mono ?_; rintro e w5 ⟨rfl, h5, h6, m5⟩) | fail)
    all_goals
      have HF : Hid (TpAt w5 k (fun i => i = k ∨ G i ∨ F2 i) ((TpS.mk hd pt true true).push b)) := Lib.hid h5
      have HC := Lib.hid h6
      clear h5 h6 m5 d1 e1 a1 a2 a3 a4 a5 HBl HWr
      try go_wp2
      first
        | (go_end0; exact ⟨_, rfl, HO1.out, HF.out, HC.out⟩)
        | (go_returns; exact ⟨_, rfl, HO1.out, HF.out, HC.out⟩)
theorem tapSpec : TapSpec TpAt := ⟨fun h => tat_lt h, fun h hc hF => tat_aside h hc hF, tap_new, fun b h hb hz => tap_push b h hb hz, fun h hz => tap_head h hz, fun b h hz => tap_start b h hz, fun h => tap_over h, fun h hz => tap_sum h hz⟩
end Go.Proofs.Ytfkfkoebplpooaa
