/- What Check answers of changed bytes and of longer and shorter sums. -/
import Derived.Test.YtgjkbkiehfpjcaaSumJ
import Derived.Test.YtgjkbkiehfpjcaaAppW
namespace Go.Proofs.Ytgjkbkiehfpjcaa.Sm
open Go.RowKit Go.Proofs.Ytgjkbkiehfpjcaa Go.Proofs.Ytgjkbkiehfpjcaa.Crc
set_option linter.unusedVariables false

theorem chk_self (a : List Int) : chk a a = -1 := chk_same a a rfl (fun _ _ => rfl)
theorem at0_append_left (a b : List Int) (j : Nat) (h : j < a.length) : at0 (a ++ b) j = at0 a j := by
  simp [at0, List.getD_eq_getElem?_getD, List.getElem?_append_left h]
theorem at0_take (a : List Int) (k j : Nat) (h : j < k) : at0 (a.take k) j = at0 a j := by
  simp [at0, List.getD_eq_getElem?_getD, h]
theorem chk_more (a : List Int) (x : Int) : chk a (a ++ [x]) = (a.length : Int) :=
  chk_at a _ a.length (by omega) (by simp) (fun j hj => (at0_append_left a [x] j hj).symm) (.inr (.inl ⟨rfl, by simp⟩))
theorem chk_less (a : List Int) (h : 0 < a.length) : chk a (a.take (a.length - 1)) = ((a.length - 1 : Nat) : Int) :=
  chk_at a _ (a.length - 1) (by omega) (by simp) (fun j hj => (at0_take a _ j hj).symm) (.inr (.inr ⟨by simp, by omega⟩))

/-- one byte turned -/
def turn1 (l : List Nat) (k x : Nat) : List Nat := l.set k (l.getD k 0 ^^^ x)
theorem turn1_length (l : List Nat) (k x : Nat) : (turn1 l k x).length = l.length := by simp [turn1]
theorem turn1_lt (l : List Nat) (k x : Nat) (hl : ∀ c ∈ l, c < 256) (hx : x < 256) : ∀ c ∈ turn1 l k x, c < 256 := by
  intro c hc
  rcases List.mem_or_eq_of_mem_set hc with h | h
  · exact hl c h
  · subst h; exact Nat.xor_lt_two_pow (n := 8) (byte_lt hl k) hx
theorem turn1_zero (l : List Nat) (k : Nat) (h : k < l.length) : turn1 l k 0 = l := by
  unfold turn1
  rw [Nat.xor_zero, List.getD_eq_getElem?_getD, List.getElem?_eq_getElem h]
  simp
theorem turn1_chg (l : List Nat) (k x : Nat) (h : k < l.length) : turn1 l k x = chg l k (fun _ => x) 1 := by
  have := chg_succ l k (fun _ => x) 0 (by omega)
  rw [chg_zero] at this
  simpa [turn1] using this
theorem turn1_sum (l : List Nat) (k x : Nat) (hl : ∀ c ∈ l, c < 256) (hx : x < 256) (h : k < l.length) (e : sum l = sum (turn1 l k x)) : x = 0 := by
  rw [turn1_chg l k x h] at e
  exact chg_sum l k (fun _ => x) 1 hl (fun _ => hx) (by omega) (by omega) e 0 (by omega)
theorem turn1_get (l : List Nat) (k x j : Nat) : (turn1 l k x)[j]? = if j = k ∧ k < l.length then some (l.getD k 0 ^^^ x) else l[j]? := by
  unfold turn1
  rw [List.getElem?_set]
  by_cases h : k = j
  · subst h
    by_cases h2 : k < l.length <;> simp [h2]
  · simp [h, Ne.symm h]
theorem blk_get (l : List Nat) (i j : Nat) : (blk l i)[j]? = if j < 16 then l[16 * i + j]? else none := by
  unfold blk
  rw [List.getElem?_take, List.getElem?_drop]
  by_cases h : j < min 16 (l.length - 16 * i)
  · rw [if_pos h, if_pos (by omega)]
  · rw [if_neg h]
    split
    · rw [List.getElem?_eq_none (by omega)]
    · rfl
theorem blk_length (l : List Nat) (i : Nat) : (blk l i).length = min 16 (l.length - 16 * i) := by simp [blk]
theorem blk_lt (l : List Nat) (i : Nat) (hl : ∀ c ∈ l, c < 256) : ∀ c ∈ blk l i, c < 256 := fun c hc => hl c (List.mem_of_mem_drop (List.mem_of_mem_take hc))
theorem blk_turn_other (l : List Nat) (k x i : Nat) (h : i < k / 16) : blk (turn1 l k x) i = blk l i := by
  apply List.ext_getElem?
  intro j
  rw [blk_get, blk_get]
  split
  · rw [turn1_get, if_neg (by omega)]
  · rfl
theorem blk_turn_own (l : List Nat) (k x : Nat) (h : k < l.length) : blk (turn1 l k x) (k / 16) = turn1 (blk l (k / 16)) (k % 16) x := by
  apply List.ext_getElem?
  intro j
  have e : 16 * (k / 16) + k % 16 = k := by omega
  have hg : (blk l (k / 16)).getD (k % 16) 0 = l.getD k 0 := by
    rw [List.getD_eq_getElem?_getD, blk_get, if_pos (by omega), e, ← List.getD_eq_getElem?_getD]
  rw [blk_get, turn1_get, turn1_get, blk_length, hg, blk_get]
  by_cases h1 : j < 16
  · rw [if_pos h1, if_pos h1]
    by_cases h2 : j = k % 16
    · rw [if_pos ⟨by omega, h⟩, if_pos ⟨h2, by omega⟩]
    · rw [if_neg (by omega), if_neg (fun c => h2 c.1)]
  · rw [if_neg h1, if_neg (by omega), if_neg h1]
theorem chk_turn (l : List Nat) (k x : Nat) (hl : ∀ c ∈ l, c < 256) (hx : x < 256) (h0 : x ≠ 0) (h : k < l.length) : chk (bsums (turn1 l k x)) (bsums l) = ((k / 16 : Nat) : Int) := by
  have hk : k / 16 < (l.length + 15) / 16 := by omega
  refine chk_at _ _ (k / 16) (by rw [bsums_length, turn1_length]; omega) (by rw [bsums_length]; omega) (fun j hj => ?_) (.inl ⟨by rw [bsums_length, turn1_length]; omega, by rw [bsums_length]; omega, ?_⟩)
  · rw [at0_bsums _ _ (by rw [turn1_length]; omega), at0_bsums _ _ (by omega), bsum, bsum, blk_turn_other l k x j hj]
  · rw [at0_bsums _ _ (by rw [turn1_length]; omega), at0_bsums _ _ (by omega), bsum, bsum, blk_turn_own l k x h]
    intro e
    exact h0 (turn1_sum (blk l (k / 16)) (k % 16) x (blk_lt l _ hl) hx (by rw [blk_length]; omega) (by omega))
end Go.Proofs.Ytgjkbkiehfpjcaa.Sm
