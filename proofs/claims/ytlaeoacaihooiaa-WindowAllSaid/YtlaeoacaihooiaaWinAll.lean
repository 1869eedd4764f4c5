/- Through a window that bears as many reads without bytes as there are steps all the bytes come, if no step fails; bytes kept one by one are the text. -/
import Derived.Test.YtlaeoacaihooiaaWinSpec
import Derived.Test.YtlaeoacaihooiaaMem2
import Derived.Test.YtlaeoacaihooiaaNum
namespace Go.Proofs.Ytlaeoacaihooiaa
open Go.RowKit Go.PlainAid
set_option linter.unusedVariables false
theorem sOver_fail {D : ByteArray} {S : List (Int × Int)} {m : Int} {g c : Nat} (hf : ∀ s ∈ S, s.2 ≠ 2) : sOver D S g c 0 m ≠ 2 := by
  unfold sOver
  rw [if_pos rfl]
  have hk : sKind D S g c ≠ 2 := by
    unfold sKind
    split
    · exact hf _ (List.getElem_mem _)
    · split <;> decide
  rw [if_neg hk]
  split <;> decide
theorem run_all {D : ByteArray} {S : List (Int × Int)} {m : Int} {z : Nat} (hm : 1 ≤ m) (hz : S.length ≤ z) (hf : ∀ s ∈ S, s.2 ≠ 2) : ∀ (f nn g c : Nat), g ≤ D.size → c ≤ S.length + g → nn ≤ c → S.length + D.size + 1 ≤ f + c →
    (runM D S m z f nn g c).1 = D.size ∧ (runM D S m z f nn g c).2.2 = 14
  | 0, nn, g, c, hg, hc, hn, hfu => by omega
  | f + 1, nn, g, c, hg, hc, hn, hfu => by
    have hle := sTake_le D S g c 0 m hg
    rw [runM_succ]
    split
    · next h => exact ⟨sOver_one h, rfl⟩
    · next h1 =>
      rw [if_neg (sOver_fail hf)]
      have hcl := calls_le hm hg hc h1 (sOver_fail hf)
      split
      · exact run_all hm hz hf f 0 _ _ hle hcl (by omega) (by omega)
      · next ht =>
        by_cases hcs : c < S.length
        · rw [if_neg (by omega)]
          exact run_all hm hz hf f _ _ _ hg (by omega) (by omega) (by omega)
        · exfalso
          have hM : sMost D S g c = (D.size - g : Nat) := by unfold sMost; rw [dif_neg hcs]
          have hK : sKind D S g c = if g = D.size then 1 else 0 := by unfold sKind; rw [dif_neg hcs]
          have hT : sTake D S g c 0 m = (min (min m (D.size - g : Nat)) ((D.size - g : Nat) : Int)).toNat := by unfold sTake; rw [if_pos rfl, hM]
          by_cases hgs : g = D.size
          · apply h1
            unfold sOver
            rw [if_pos rfl, hK, if_pos hgs, if_neg (by decide), if_pos ⟨rfl, by rw [hT]; omega⟩]
          · rw [hT] at ht; omega
theorem infoU8 : (Try.prog.info? 5).map (fun i => (i.zero, i.size, i.bytes)) = some (some (.int .u8 0), 1, 1) := by kernel_rfl
theorem bcs_succ (t : ByteArray) (n : Nat) : bcs t (n + 1) = bcs t n ++ [.int .u8 (bt t n)] := by
  unfold bcs; rw [List.range_succ]; simp
def bns (t : ByteArray) : List Int := (List.range t.size).map fun j => bt t j
theorem strOf_bns (t : ByteArray) : strOfNums (bns t) = t := by
  apply bt_ext
  · rw [strOfNums_size]; simp [bns]
  · intro k hk
    rw [strOfNums_size] at hk
    have hk' : k < t.size := by simpa [bns] using hk
    exact strOfNums_at _ k _ (by simp [bns, hk']) (bt_nonneg _ _) (bt_le _ _)
end Go.Proofs.Ytlaeoacaihooiaa
