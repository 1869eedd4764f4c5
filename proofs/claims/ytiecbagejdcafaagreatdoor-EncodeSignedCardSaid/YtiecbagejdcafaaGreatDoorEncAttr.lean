/- Package encode in the landed code: an attribute. Within the sizes that layer 19's statements name. -/
import Derived.Test.YtiecbagejdcafaaGreatDoorK2
import Derived.Test.YtiecbagejdcafaaGreatDoorT1
namespace Go.Proofs.YtiecbagejdcafaaGreatDoor
open Go.RowKit Go.PlainAid
set_option linter.unusedVariables false
theorem encIsStr_any (t : Int) (ht : InI t) (w : World) :
  Calls Tryz.prog 83 #[.int .i64 t] w fun e w' => e = .returned (.bool (decide (t = 12 ∨ t = 19 ∨ t = 22))) ∧ Below w.heap.size w w' := by
 by_cases h1 : t = 12
 ·subst h1
  go_enter Tryz.func83, Tryz.ntmps83
  go_wp2
  go_returns
  exact ⟨rfl, Below.refl _ _⟩
 by_cases h2 : t = 19
 ·subst h2
  go_enter Tryz.func83, Tryz.ntmps83
  go_wp2
  go_returns
  exact ⟨rfl, Below.refl _ _⟩
 by_cases h3 : t = 22
 ·subst h3
  go_enter Tryz.func83, Tryz.ntmps83
  go_wp2
  go_returns
  exact ⟨rfl, Below.refl _ _⟩
 have hd : decide (t = 12 ∨ t = 19 ∨ t = 22) = false := by rw [decide_eq_false]; omega
 have b1 : (t == 12) = false := by simpa using h1
 have b2 : (t == 19) = false := by simpa using h2
 have b3 : (t == 22) = false := by simpa using h3
 rw [hd]
 clear hd h1 h2 h3
 go_enter Tryz.func83, Tryz.ntmps83
 go_wp2
 go_returns
 exact ⟨rfl, Below.refl _ _⟩
def attrS (a : AttrV) : ByteArray := if attrOk a = true then encS (attrF a) else ⟨#[]⟩
theorem att_end (a : AttrV) (hs : a.Small) : seqS (!attrOk a) (idS a.oid ++ elS 0 a.tag false a.text) = attrS a := by
 unfold attrS
 cases h : attrOk a with
 |false => show seqS true _ = _; unfold seqS; rw [if_pos rfl, if_neg (by decide)]
 |true =>
  obtain ⟨h1, h2, h3⟩ := attrOk_iff.1 h
  have h4 := hs.text
  have h6 := idS_le a.oid hs.oid hs.oin
  have h5 := lf_size (t := a.tag) (by omega) (by omega) a.text (by omega)
  have hj : idS a.oid ++ elS 0 a.tag false a.text = encS (.leaf 0 6 (oL a.oid) (lf a.tag (bl a.text))) := by
   rw [idS_ok h1, encS_leaf, elS_lf (by omega) (by omega) _ (by omega)]
  show seqS false _ = _
  rw [if_pos rfl, hj]
  exact seqS_ok _ (by rw [← hj, ByteArray.size_append]; have := elS_le 0 a.tag false a.text; omega)
end Go.Proofs.YtiecbagejdcafaaGreatDoor
