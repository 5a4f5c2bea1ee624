/- Written bytes: the reference's Laid, the steps of its row. -/
import Derived.Test.YtcajmgdenhegjaaWrF
namespace Go.Proofs.Ytcajmgdenhegjaa.Wr
open Go.RowKit Go.Proofs.Ytcajmgdenhegjaa
set_option linter.unusedVariables false

theorem pad_snoc (G : List Int) (m : Nat) : padL G m ++ [0] = padL G ((padL G m).length + 1) := by
  apply getD_ext
  · rw [List.length_append, padL_length, padL_length]; simp; omega
  · intro i
    have h1 : padL G m ++ [0] = padL (padL G m) ((padL G m).length + 1) := by
      unfold padL; simp
    rw [h1, padL_get, padL_get, padL_get]
theorem pad_done {G : List Int} {m N : Nat} (hm : m ≤ N + 1) (h : N < (padL G m).length) : padL G m = padL G (N + 1) := by
  rw [padL_length] at h
  by_cases hg : N + 1 ≤ G.length
  · rw [padL_same hg, padL_same (by omega)]
  · obtain rfl : m = N + 1 := by omega
    rfl
theorem u8_set {w : World} {y : Int} (hy : (Lit.int .u8 y).wf = true) : ∀ {l : List Int} {vs : List Value} {k : Nat}, (Lay.int .u8).All w vs l → (Lay.int .u8).All w (vs.set k (.int .u8 y)) (l.set k y)
  | [], vs, k, ha => by
    have := ha.length
    simp at this
    subst this
    exact ha
  | z :: l, vs, 0, ha => by
    obtain ⟨cs, vs', rfl, ⟨rfl, h1⟩, h4⟩ := ha
    exact ⟨[.int .u8 y], vs', rfl, ⟨rfl, hy⟩, h4⟩
  | z :: l, vs, k + 1, ha => by
    obtain ⟨cs, vs', rfl, ⟨rfl, h1⟩, h4⟩ := ha
    exact ⟨[.int .u8 z], vs'.set k (.int .u8 y), rfl, ⟨rfl, h1⟩, u8_set hy h4⟩
/-- what the reference lays -/
def rlaidL (F : List Int) (k : Nat) (d : List Int) : List Int := byB F k d d.length
theorem rlaid_ne (F : List Int) (k : Nat) {d : List Int} (h : d ≠ []) : rlaidL F k d = layL F k d := byB_all F k d h
theorem rlaid_nil (F : List Int) (k : Nat) : rlaidL F k [] = F := rfl
end Go.Proofs.Ytcajmgdenhegjaa.Wr
