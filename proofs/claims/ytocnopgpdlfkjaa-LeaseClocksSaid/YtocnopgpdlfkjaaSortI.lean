/- Rows of integers of the call's own, sorted and compacted (slices.Sort, slices.Compact). -/
import Derived.Test.YtocnopgpdlfkjaaPlain
import Derived.Test.YtocnopgpdlfkjaaRepI
import Derived.Lib.SlicesCompact
import Derived.Sort.Grow
namespace Go.Proofs.Ytocnopgpdlfkjaa
open Go.RowKit Go.Proofs.Ytocnopgpdlfkjaa Go.Sort
set_option linter.unusedVariables false

theorem own_holdsI {w : World} {base g c : Nat} {e : TypeId} {L : List Int} (h : (Lay.int .i64).Own w base e (.slice (some ⟨g, 0, none⟩) L.length c) L) : Holds (Value.int .i64) w g 0 L.toArray := by
  obtain ⟨p, c', e1, hr, _⟩ := h.opened
  simp only [Value.slice.injEq, true_and] at e1
  obtain ⟨rfl, _⟩ := e1
  have hi := hr.ints.1
  intro j hj
  have hj' : j < L.length := by simpa using hj
  obtain ⟨b, off, hp, hc⟩ := hi.2.2 (by omega)
  simp only [Option.some.injEq, Addr.mk.injEq, and_true] at hp
  obtain ⟨rfl, rfl⟩ := hp
  refine ⟨?_, by simpa using h.frozenAt rfl j⟩
  rw [hc j hj']
  simp [at0, List.getD_eq_getElem?_getD, hj']
theorem holds_row {W : World} {g : Nat} {d : Array Int} (h : Holds (Value.int .i64) W g 0 d) (m : Nat) (hm : m ≤ d.size) (hn : m ≤ 9223372036854775807) (hw : ∀ x ∈ d.toList, (Lit.int .i64 x).wf = true) : (Lay.int .i64).Row W (some ⟨g, 0, none⟩) m (d.toList.take m) := by
  refine Lay.row_ints ⟨by simp; omega, hn, fun _ => ⟨g, 0, rfl, fun j hj => ?_⟩⟩ (fun x hx => hw x (List.mem_of_mem_take hx))
  rw [(h j (by omega)).1]
  have h2 : j < d.size := by omega
  simp [at0, List.getD_eq_getElem?_getD, hj, h2]
theorem ext_putRow {w0 w : World} {enc : Int → Value} {g n : Nat} {d : Array Int} {os : Array Obj} (hx : Ext w0 w) (hg : w0.heap.size ≤ g) : Ext w0 (grow (putRow enc (Sort.ahead w n) g 0 d) os) := by
  refine ⟨hx.os, hx.tape, hx.output, ?_, fun k hk => ?_⟩
  · rw [size_grow, size_putRow]; have := hx.size; show _ ≤ w.heap.size + _; omega
  · have h1 : (grow (putRow enc (Sort.ahead w n) g 0 d) os).heap[k]? = w.heap[k]? := by
      have hk2 : k < w.heap.size := Nat.lt_of_lt_of_le hk hx.size
      unfold grow putRow mapBlock
      simp only [Array.getElem?_append]
      rw [if_pos (by simpa [Sort.ahead] using hk2)]
      simp only [Sort.ahead, Array.getElem?_modify]
      rw [if_neg (by omega)]
    rw [h1]; exact hx.block k hk

/-! ### mathematics -/
theorem compact_math (d : Array Int) (hs : ∀ i j, i ≤ j → j < d.size → d[i]! ≤ d[j]!) : ∀ m, m ≤ d.size → (Lib.compactUpTo d m).length ≤ m ∧ (Lib.compactUpTo d m).Pairwise (· < ·) ∧ ∀ x, x ∈ Lib.compactUpTo d m ↔ ∃ i, i < m ∧ d[i]! = x := by
  intro m
  induction m with
  | zero => intro _; exact ⟨Nat.le_refl _, List.Pairwise.nil, fun x => by simp [Lib.compactUpTo]⟩
  | succ m ih =>
    intro hm
    obtain ⟨h0, h1, h2⟩ := ih (by omega)
    rw [Lib.compactUpTo_succ]
    by_cases hk : Lib.keeps d m = true
    · rw [if_pos hk]
      have hk' : m = 0 ∨ d[m]! ≠ d[m - 1]! := of_decide_eq_true hk
      refine ⟨by simp; omega, List.pairwise_append.2 ⟨h1, List.pairwise_singleton _ _, fun x hx y hy => ?_⟩, fun x => ?_⟩
      · obtain ⟨i, hi, rfl⟩ := (h2 x).1 hx
        obtain rfl := List.mem_singleton.1 hy
        have a1 := hs i (m - 1) (by omega) (by omega)
        have a2 := hs (m - 1) m (by omega) (by omega)
        rcases hk' with h | h
        · omega
        · omega
      · rw [List.mem_append, h2 x, List.mem_singleton]
        constructor
        · rintro (⟨i, hi, h⟩ | h)
          · exact ⟨i, by omega, h⟩
          · exact ⟨m, by omega, h.symm⟩
        · rintro ⟨i, hi, h⟩
          by_cases e : i = m
          · subst e; exact .inr h.symm
          · exact .inl ⟨i, by omega, h⟩
    · rw [if_neg hk]
      have hk' : ¬ (m = 0 ∨ d[m]! ≠ d[m - 1]!) := fun h => hk (decide_eq_true h)
      have hm0 : m ≠ 0 := fun h => hk' (.inl h)
      have he : d[m]! = d[m - 1]! := Decidable.byContradiction fun h => hk' (.inr h)
      refine ⟨by simp; omega, by simpa using h1, fun x => ?_⟩
      rw [List.append_nil, h2 x]
      constructor
      · rintro ⟨i, hi, h⟩; exact ⟨i, by omega, h⟩
      · rintro ⟨i, hi, h⟩
        by_cases e : i = m
        · subst e; exact ⟨i - 1, by omega, by rw [← he]; exact h⟩
        · exact ⟨i, by omega, h⟩
theorem merge_up (zs : List Int) : (zs.mergeSort fun x y => decide (x ≤ y)).Pairwise (· ≤ ·) := by
  have := List.pairwise_mergeSort (le := fun x y : Int => decide (x ≤ y)) (fun a b c h1 h2 => by simp at *; omega) (fun a b => by simp; omega) zs
  exact this.imp fun h => by simpa using h
theorem merge_mono (zs : List Int) : ∀ i j, i ≤ j → j < (zs.mergeSort fun x y => decide (x ≤ y)).toArray.size → (zs.mergeSort fun x y => decide (x ≤ y)).toArray[i]! ≤ (zs.mergeSort fun x y => decide (x ≤ y)).toArray[j]! := by
  intro i j hij hj
  have h := merge_up zs
  generalize (zs.mergeSort fun x y => decide (x ≤ y)) = L at h hj ⊢
  have hj' : j < L.length := by simpa using hj
  rcases Nat.lt_or_eq_of_le hij with h1 | rfl
  · have := List.pairwise_iff_getElem.1 h i j (by omega) hj' h1
    simpa [getElem!_pos, hj', show i < L.length by omega] using this
  · exact Int.le_refl _
/-- rising, each once, the same members -/
def Rising (zs L : List Int) : Prop := L.Pairwise (· < ·) ∧ (∀ x, x ∈ L ↔ x ∈ zs) ∧ L.length ≤ zs.length
theorem rising_compact (zs : List Int) : Rising zs (Lib.compactUpTo (zs.mergeSort fun x y => decide (x ≤ y)).toArray (zs.mergeSort fun x y => decide (x ≤ y)).toArray.size) := by
  obtain ⟨h0, h1, h2⟩ := compact_math _ (merge_mono zs) _ (Nat.le_refl _)
  refine ⟨h1, fun x => ?_, by simpa using h0⟩
  rw [h2 x]
  have hp := List.mergeSort_perm zs (fun x y => decide (x ≤ y))
  rw [← hp.mem_iff]
  generalize (zs.mergeSort fun x y => decide (x ≤ y)) = L
  constructor
  · rintro ⟨i, hi, rfl⟩
    have hi' : i < L.length := by simpa using hi
    simp [getElem!_pos, hi']
  · intro h
    obtain ⟨i, hi, rfl⟩ := List.mem_iff_getElem.1 h
    exact ⟨i, by simpa using hi, by simp [getElem!_pos, hi]⟩
end Go.Proofs.Ytocnopgpdlfkjaa
