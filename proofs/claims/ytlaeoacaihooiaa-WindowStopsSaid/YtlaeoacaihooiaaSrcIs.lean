/- A source's Read with what it gives written out; rows as slices that came in. -/
import Derived.Test.YtlaeoacaihooiaaSrcCall
namespace Go.Proofs.Ytlaeoacaihooiaa
open Go.RowKit Go.PlainAid
set_option linter.unusedVariables false
theorem Came.row {w : World} {g : Nat} {t : TypeId} {L : List Value} (h : Row w g t L) : Came w (some ⟨g, 0, none⟩) L := by
  intro j u hj
  refine ⟨_, rfl, ?_⟩
  rw [show (⟨g, 0, none⟩ : Addr).add j = ⟨g, j, none⟩ by unfold Addr.add; split <;> simp_all, h.cell]; exact hj
theorem srcRead_is (g : Nat) (D : ByteArray) (S : List (Int × Int)) (at_ calls : Nat) (over n : Int) (k : Nat) (ov : Int) (part : ByteArray) (hk : sTake D S at_ calls over n = k) (ho : sOver D S at_ calls over n = ov) (hp : D.extract at_ (at_ + k) = part) (hn : InI n) (hD : D.size ≤ 100000000) (hS : S.length ≤ 1000000) (hE : ∀ s ∈ S, InI s.1 ∧ InI s.2) (hc : calls ≤ 1000000) (a w : World) (h : SrcAt w g D S at_ calls over) (hg : a.heap.size ≤ g) (hB : Below a.heap.size a w) :
    Calls Try.prog 29 #[.pointer (some ⟨g, 0, none⟩), .int .i64 n] w fun e w' => e = .returned (.tuple #[.string part, .int .i64 ov]) ∧ SrcAt w' g D S (at_ + k) (calls + 1) ov ∧ Below a.heap.size a w' ∧ w.grownBy w' (some g) := by
  subst hk ho hp
  refine (srcRead_any g D S at_ calls over n w h hn hD hS hE hc).mono ?_
  rintro e w' ⟨h1, h2, h3⟩
  exact ⟨h1, h2, grown_to_below hB hg h3, h3⟩
end Go.Proofs.Ytlaeoacaihooiaa
