/- The document's fixed answers of layer 4 hold: 'awake' returns true; what 'great' returns. Given what a window's calls do. -/
import Derived.Test.YtlaeoacaihooiaaWinSpec
import Derived.Test.YtlaeoacaihooiaaSrcPass
namespace Go.Proofs.Ytlaeoacaihooiaa
open Go.RowKit Go.PlainAid
set_option linter.unusedVariables false
def great4 (d n : Nat) : Bool := decide (1000 < (d : Int)) || decide (300 < (n : Int))
theorem great04_all (D : ByteArray) (o1 : Option Addr) (n1 c1 : Nat) (w : World) (hb : D.size ≤ maxLen) (m1 : n1 ≤ maxLen) :
    Calls Try.prog 10 #[.string D, .slice o1 n1 c1] w fun e w' => e = .returned (.bool (decide (1000 < (D.size : Int)) || decide (300 < (n1 : Int)))) ∧ w = w' := by
  unfold maxLen at hb m1
  go_enter Try.func10, Try.ntmps10
  go_wp2
  all_goals (go_ret; exact ⟨rfl, rfl⟩)
theorem great04_any (D : ByteArray) (o1 : Option Addr) (n1 c1 : Nat) (w : World) (hb : D.size ≤ maxLen) (m1 : n1 ≤ maxLen) (r : Bool) (hr : great4 D.size n1 = r) :
    Calls Try.prog 10 #[.string D, .slice o1 n1 c1] w fun e w' => e = .returned (.bool r) ∧ w = w' := by
  subst hr
  exact great04_all D o1 n1 c1 w hb m1
theorem great4_no {d n : Nat} (h : great4 d n = false) : d ≤ 1000 ∧ n ≤ 300 := by
  simp [great4] at h; omega
def dW : ByteArray := ⟨#[97, 98]⟩
def sW : List (Int × Int) := [(0, 0), (0, 0), (1, 0)]
theorem sW_in : ∀ s ∈ sW, InI s.1 ∧ InI s.2 := by
  intro s hs
  simp [sW] at hs
  rcases hs with rfl | rfl | rfl <;> (unfold InI; decide)
set_option maxRecDepth 100000 in
set_option maxHeartbeats 4000000 in
theorem awake04_any {WA : WinPred} (H : WinSpec WA) (w : World) :
    Calls Try.prog 9 #[] w fun e w' => e = .returned (.bool true) ∧ Below w.heap.size w w' := by
  have hr := Row.new w 39 (pvs sW)
  have HN := Lib.hid (fun w1 (hB : Below (w.alloc (.cells (pvs sW).toArray 39)).heap.size (w.alloc (.cells (pvs sW).toArray 39)) w1) => srcNew_any dW sW (some ⟨w.heap.size, 0, none⟩) 3 w1 (by decide) ((Came.row hr).below hB) (by decide))
  have hB0 : Below w.heap.size w (w.alloc (.cells (pvs sW).toArray 39)) := (Below.refl _ _).alloc (Nat.le_refl _) _
  have hA0 : w.heap.size ≤ (w.alloc (.cells (pvs sW).toArray 39)).heap.size := by simp
  have hR0 := Below.refl (w.alloc (.cells (pvs sW).toArray 39)).heap.size (w.alloc (.cells (pvs sW).toArray 39))
  have HH := Lib.hid H
  clear hr H
  go_enter Try.func9, Try.ntmps9
  go_wp2_with fail
  refine (HN.out _ hR0).mono ?_
  rintro e w1 ⟨g, rfl, hg, hs1, hB1⟩
  have HS1 := Lib.hid hs1
  have hgl : g < w1.heap.size := hs1.lt
  have hBW1 := hB0.trans (hB1.mono (by simp))
  have hg : w.heap.size ≤ g := Nat.le_trans hA0 hg
  clear hs1
  go_wp2_with fail
  refine (HN.out _ hB1).mono ?_
  rintro e w2 ⟨h, rfl, hh, hs2, hB2⟩
  have HS2 := Lib.hid (HS1.out.below hB2)
  have HT2 := Lib.hid hs2
  have hhl : h < w2.heap.size := hs2.lt
  have hBW2 := hBW1.trans (hB2.mono hBW1.size)
  have hw12 := hB2.size
  clear hs2 HN HS1 hB1 hB2 hBW1 hR0 hB0 hA0
  go_wp2_with fail
  refine (HH.out.new 4 2 g dW sW _ HS2.out (by unfold InI; decide) (by unfold InI; decide)).mono ?_
  rintro e w3 ⟨k, F, rfl, hF, hwa, hB3⟩
  have HWA3 := Lib.hid hwa
  have HT3 := Lib.hid (HT2.out.below hB3)
  have hBW3 := hBW2.trans (hB3.mono hBW2.size)
  have hw23 := hB3.size
  have HF := Lib.hid hF
  clear hwa hB3 HS2 HT2 hF
  go_wp2_with fail
  refine (HH.out.new 4 1 h dW sW _ HT3.out (by unfold InI; decide) (by unfold InI; decide)).mono ?_
  rintro e w4 ⟨k', F', rfl, hF', hwa', hB4⟩
  have HWA4 := Lib.hid (HH.out.below HWA3.out hB4)
  have HWB4 := Lib.hid hwa'
  have hBW4 := hBW3.trans (hB4.mono hBW3.size)
  have hFw : Hid (∀ i, F i → w.heap.size ≤ i) := Lib.hid (fun i hi => by
    rcases HF.out i hi with rfl | h1
    · exact hg
    · have := hBW2.size; omega)
  have hFw' : Hid (∀ i, F' i → w.heap.size ≤ i) := Lib.hid (fun i hi => by
    rcases hF' i hi with rfl | h1
    · have := hBW2.size; omega
    · have := hBW3.size; omega)
  have hdis : Hid (∀ i, F' i → ¬ F i) := Lib.hid (fun i hi hi2 => by
    have h1 := HH.out.lt HWA3.out i hi2
    rcases hF' i hi with rfl | h2
    · rcases HF.out _ hi2 with e | h3
      · omega
      · omega
    · omega)
  have e4 : clampI 4 1 65536 = 4 := by decide
  have e2 : (clampI 2 0 1000).toNat = 2 := by decide
  have e1 : (clampI 1 0 1000).toNat = 1 := by decide
  rw [e4, e2] at HWA4
  rw [e4, e1] at HWB4
  clear hwa' hB4 HWA3 HT3 hBW2 hBW3 HF hF' e4 e2 e1 hg hh hgl hhl hw12 hw23
  have h2 : dW.size ≤ 100000 := by decide
  have h3 : sW.length ≤ 100000 := by decide
  go_wp2_with fail
  refine (HH.out.next_is (p := ⟨1, 0, 3, 0, 0⟩) (s' := ⟨1, 1, 3, 0, 0⟩) (b := 97) (c := 0) HWA4.out (by decide +kernel) (by decide +kernel) (by decide +kernel) (by decide +kernel) h2 h3 sW_in hBW4 hFw.out).mono ?_
  rintro e w5 ⟨rfl, hwa, hB5, hc5⟩
  have HWA5 := Lib.hid hwa
  have HWB5 := Lib.hid (HH.out.aside HWB4.out HWA4.out hdis.out hc5)
  clear hwa hc5
  go_wp2_with fail
  refine (HH.out.peek_is (p := ⟨2, 1, 4, 0, 0⟩) (b := 98) (c := 0) HWA5.out (by decide +kernel) (by decide +kernel) (by decide +kernel) h2 h3 sW_in hB5 hFw.out).mono ?_
  rintro e w6 ⟨rfl, hwa, hB6, hc6⟩
  have HWA6 := Lib.hid hwa
  have HWB6 := Lib.hid (HH.out.aside HWB5.out HWA5.out hdis.out hc6)
  clear hwa hc6
  go_wp2_with fail
  refine (HH.out.next_is (p := ⟨2, 1, 4, 0, 0⟩) (s' := ⟨2, 2, 4, 0, 0⟩) (b := 98) (c := 0) HWA6.out (by decide +kernel) (by decide +kernel) (by decide +kernel) (by decide +kernel) h2 h3 sW_in hB6 hFw.out).mono ?_
  rintro e w7 ⟨rfl, hwa, hB7, hc7⟩
  have HWA7 := Lib.hid hwa
  have HWB7 := Lib.hid (HH.out.aside HWB6.out HWA6.out hdis.out hc7)
  clear hwa hc7
  go_wp2_with fail
  refine (HH.out.next_is (p := ⟨2, 2, 5, 1, 14⟩) (s' := ⟨2, 2, 5, 1, 14⟩) (b := 0) (c := 14) HWA7.out (by decide +kernel) (by decide +kernel) (by decide +kernel) (by decide +kernel) h2 h3 sW_in hB7 hFw.out).mono ?_
  rintro e w8 ⟨rfl, hwa, hB8, hc8⟩
  have HWA8 := Lib.hid hwa
  have HWB8 := Lib.hid (HH.out.aside HWB7.out HWA7.out hdis.out hc8)
  clear hwa hc8
  go_wp2_with fail
  refine (HH.out.next_is (p := ⟨0, 0, 2, 0, 13⟩) (s' := ⟨0, 0, 2, 0, 13⟩) (b := 0) (c := 13) HWB8.out (by decide +kernel) (by decide +kernel) (by decide +kernel) (by decide +kernel) h2 h3 sW_in hB8 hFw'.out).mono ?_
  rintro e w9 ⟨rfl, hwb, hB9, hc9⟩
  have HWB9 := Lib.hid hwb
  have HWA9 := Lib.hid (HH.out.aside HWA8.out HWB8.out (fun i h1 h2 => hdis.out i h2 h1) hc9)
  clear hwb hc9
  go_wp2_with fail
  refine (HH.out.at_ HWA9.out).mono ?_
  rintro e w10 ⟨rfl, rfl⟩
  have HSB := Lib.hid (HH.out.src HWB9.out)
  go_wp2_with fail
  refine (calls_any h _ _ _ _ _ _ HSB.out).mono ?_
  rintro e w10 ⟨rfl, rfl⟩
  go_wp2_with fail
  refine (HH.out.held HWA9.out).mono ?_
  rintro e w10 ⟨rfl, rfl⟩
  go_wp2_with fail
  go_ret
  exact ⟨rfl, hB9⟩
end Go.Proofs.Ytlaeoacaihooiaa
