/- SumParts: the blocks of whole blocks with something behind. -/
import Derived.Test.YtgjkbkiehfpjcaaSumM
namespace Go.Proofs.Ytgjkbkiehfpjcaa.Sm
open Go.RowKit Go.Proofs.Ytgjkbkiehfpjcaa Go.Proofs.Ytgjkbkiehfpjcaa.Crc
set_option linter.unusedVariables false
variable {m : Nat}

theorem blk_append_left (a b : List Nat) (h : a.length = 16 * m) (i : Nat) (hi : i < m) : blk (a ++ b) i = blk a i := by
  apply List.ext_getElem?
  intro j
  rw [blk_get, blk_get]
  split
  · rw [List.getElem?_append_left (by omega)]
  · rfl
theorem blk_append_right (a b : List Nat) (h : a.length = 16 * m) (i : Nat) : blk (a ++ b) (m + i) = blk b i := by
  apply List.ext_getElem?
  intro j
  rw [blk_get, blk_get]
  split
  · rw [List.getElem?_append_right (by omega)]
    congr 1
    omega
  · rfl
theorem bsums_get (l : List Nat) (i : Nat) : (bsums l)[i]? = if i < (l.length + 15) / 16 then some ((bsum l i : Nat) : Int) else none := by
  by_cases h : i < (l.length + 15) / 16 <;> simp [bsums, h]
theorem bsums_append (a b : List Nat) (h : a.length = 16 * m) : bsums (a ++ b) = bsums a ++ bsums b := by
  have ha : (bsums a).length = m := by rw [bsums_length]; omega
  apply List.ext_getElem?
  intro i
  by_cases hi : i < m
  · rw [List.getElem?_append_left (by omega), bsums_get, bsums_get, if_pos (by rw [List.length_append]; omega), if_pos (by omega), bsum, bsum, blk_append_left a b h i hi]
  · obtain ⟨j, rfl⟩ : ∃ j, i = m + j := ⟨i - m, by omega⟩
    rw [List.getElem?_append_right (by omega), ha, Nat.add_sub_cancel_left, bsums_get, bsums_get, List.length_append, bsum, bsum, blk_append_right a b h j]
    by_cases hj : j < (b.length + 15) / 16
    · rw [if_pos (by omega), if_pos hj]
    · rw [if_neg (by omega), if_neg hj]
end Go.Proofs.Ytgjkbkiehfpjcaa.Sm
