/- Leases: what holds of leases at every step. -/
import Derived.Test.YtocnopgpdlfkjaaLeI
namespace Go.Proofs.Ytocnopgpdlfkjaa.Ls
open Go.RowKit Go.Proofs.Ytocnopgpdlfkjaa Go.Sort
set_option linter.unusedVariables false

structure Inv (L : List Le) (T : Int) : Prop where
  len : L.length ≤ 64
  one : ∀ x ∈ L, oneB x = true
  apart : ∀ x ∈ L, ∀ y ∈ L, clashB y x = false
  til : ∀ x ∈ L, x.u ≤ T + 66
theorem Inv.nil (T : Int) : Inv [] T := ⟨by simp, by simp, by simp, by simp⟩
theorem Inv.sub {L : List Le} {T : Int} (h : Inv L T) (f : Le → Bool) : Inv (L.filter f) T :=
  ⟨Nat.le_trans (List.length_filter_le _ _) h.len, fun x hx => h.one x (List.mem_filter.1 hx).1, fun x hx y hy => h.apart x (List.mem_filter.1 hx).1 y (List.mem_filter.1 hy).1, fun x hx => h.til x (List.mem_filter.1 hx).1⟩
theorem Inv.later {L : List Le} {T U : Int} (h : Inv L T) (hU : T ≤ U) : Inv L U := ⟨h.len, h.one, h.apart, fun x hx => by have := h.til x hx; omega⟩
theorem Inv.right {L : List Le} {T : Int} (h : Inv L T) : rightB L = true := right_yes h.len fun x hx => ⟨h.one x hx, against_nil.2 (h.apart x hx)⟩
theorem wt_some (m : Int) (h : 1 ≤ m ∧ m ≤ 64) : 1 ≤ Clk.wt (Clk.aa m) ∧ Clk.wt (Clk.aa m) ≤ 66 := by
  have h2 : Clk.aa m = m := by unfold Clk.aa; omega
  rw [h2]; unfold Clk.wt; split <;> omega
theorem bad_not {q : Le} {m : Int} (h : badA q m = false) : oneB (q0 q) = true ∧ 1 ≤ m ∧ m ≤ 64 := by
  unfold badA at h
  cases ho : oneB (q0 q) with
  | false => rw [ho] at h; simp at h
  | true =>
    rw [ho] at h
    simp at h
    exact ⟨rfl, h.1, h.2⟩
theorem ask_true {L : List Le} {T : Int} {q : Le} {m : Int} (h : (askL L T q m).2 = true) :
    badA q m = false ∧ againstL (overL L T) q = [] ∧ (othersL (overL L T) q).length < 64 ∧ (askL L T q m).1 = othersL (overL L T) q ++ [qu q (T + Clk.wt (Clk.aa m))] := by
  unfold askL at h ⊢
  by_cases h1 : badA q m = true
  · rw [if_pos h1] at h; cases h
  · rw [if_neg h1] at h ⊢
    by_cases h2 : againstL (overL L T) q ≠ []
    · rw [if_pos h2] at h; cases h
    · rw [if_neg h2] at h ⊢
      by_cases h3 : 64 ≤ (othersL (overL L T) q).length
      · rw [if_pos h3] at h; cases h
      · rw [if_neg h3]
        exact ⟨by simpa using h1, Classical.not_not.1 h2, by omega, rfl⟩
theorem clash_qu (y q : Le) (u : Int) : clashB y (qu q u) = clashB y q := rfl
theorem inv_ask {L : List Le} {T : Int} (h : Inv L T) (h0 : 0 ≤ T) (h1 : T ≤ 1099511627776) (q : Le) (m : Int) : Inv (askL L T q m).1 T := by
  by_cases hb : (askL L T q m).2 = true
  · obtain ⟨a1, a2, a3, a4⟩ := ask_true hb
    obtain ⟨b1, b2⟩ := bad_not a1
    have b3 := wt_some m b2
    have hs : Inv (othersL (overL L T) q) T := (h.sub _).sub _
    have hc : ∀ y ∈ othersL (overL L T) q, clashB y q = false := fun y hy => against_nil.1 a2 y (List.mem_filter.1 hy).1
    rw [a4]
    refine ⟨by simp; omega, fun x hx => ?_, fun x hx y hy => ?_, fun x hx => ?_⟩
    · rcases List.mem_append.1 hx with hx | hx
      · exact hs.one x hx
      · obtain rfl := List.mem_singleton.1 hx
        exact one_until b1 (by omega) (by omega)
    · rcases List.mem_append.1 hx with hx | hx
      · rcases List.mem_append.1 hy with hy | hy
        · exact hs.apart x hx y hy
        · obtain rfl := List.mem_singleton.1 hy
          rw [clash_symm]
          exact hc x hx
      · obtain rfl := List.mem_singleton.1 hx
        rcases List.mem_append.1 hy with hy | hy
        · exact hc y hy
        · obtain rfl := List.mem_singleton.1 hy
          exact clash_self _
    · rcases List.mem_append.1 hx with hx | hx
      · exact hs.til x hx
      · obtain rfl := List.mem_singleton.1 hx
        show T + Clk.wt (Clk.aa m) ≤ T + 66
        omega
  · have hl : (askL L T q m).1 = L ∨ (askL L T q m).1 = overL L T := by
      unfold askL at hb ⊢
      split
      · exact .inl rfl
      · split
        · exact .inr rfl
        · split
          · exact .inr rfl
          · rename_i h1 h2 h3
            rw [if_neg h1, if_neg h2, if_neg h3] at hb
            exact absurd rfl hb
    rcases hl with hl | hl
    · rw [hl]; exact h
    · rw [hl]; exact h.sub _
theorem inv_step {s : List Le × Int} {x : Stp} (h : Inv s.1 s.2) (h0 : 0 ≤ s.2) (h1 : s.2 ≤ 1099511627776) : Inv (stepT s x).1 (stepT s x).2 := by
  unfold stepT
  split
  · exact inv_ask h h0 h1 _ _
  · split
    · exact h.sub _
    · split
      · simp only
        split
        · exact h.later (by omega)
        · exact h
      · exact h.sub _
theorem inv_run (l : List Stp) (hl : l.length ≤ 40) : Inv (runT l).1 (runT l).2 := by
  have : ∀ k, k ≤ l.length → Inv (runT (l.take k)).1 (runT (l.take k)).2 := by
    intro k
    induction k with
    | zero => intro _; exact Inv.nil _
    | succ k ih =>
      intro hk
      rw [runT_snoc l k l[k] (List.getElem?_eq_getElem hk)]
      have h := runT_bd (l.take k)
      simp only [List.length_take] at h
      have h3 : min k l.length ≤ 40 := by omega
      exact inv_step (ih (by omega)) h.2.1 (by omega)
  have h := this l.length (Nat.le_refl _)
  rwa [List.take_length] at h
theorem inv_tab (l : List Stp) : Inv (tabL l).1 (tabL l).2 := by
  unfold tabL
  split
  · rename_i h; exact inv_run l h
  · exact Inv.nil _
theorem tab_bd (l : List Stp) : (tabL l).1.length ≤ 64 ∧ 0 ≤ (tabL l).2 ∧ (tabL l).2 ≤ 40000 := by
  refine ⟨(inv_tab l).len, ?_⟩
  unfold tabL
  split
  · have := runT_bd l; omega
  · exact ⟨Int.le_refl _, by simp⟩
theorem had_last {l : List Le} {q : Le} {u k f t : Int} (ho : oneB (q0 q) = true) (hk : k = q.k ∨ (k = 1 ∧ True)) (hf : q.f ≤ f) (hft : f < t) (ht : t ≤ q.t) : hadP (l ++ [qu q u]) q.c q.i k f t := by
  have h2 := of_decide_eq_true ho
  simp only [q0, qu] at h2
  refine ⟨by omega, ?_, fun x h3 h4 => ⟨qu q u, by simp, ⟨rfl, rfl, ?_⟩, ?_, ?_⟩⟩
  · rcases hk with rfl | ⟨rfl, _⟩
    · exact h2.2.2.2.1
    · exact .inl rfl
  · show q.k = k ∨ q.k = 2
    rcases hk with rfl | ⟨rfl, _⟩
    · exact .inl rfl
    · exact h2.2.2.2.1
  · show q.f ≤ x; omega
  · show x < q.t; omega
theorem had_back {l : List Le} {c i k f t : Int} (hft : f < t) : ¬ hadP (backL l c i) c i k f t := fun ⟨_, _, h⟩ => by
  obtain ⟨y, hy, h1, _⟩ := h f (by omega) hft
  have h2 := (List.mem_filter.1 hy).2
  simp [h1.1, h1.2.1] at h2
theorem had_nil {c i k f t : Int} (hft : f < t) : ¬ hadP [] c i k f t := fun ⟨_, _, h⟩ => by
  obtain ⟨y, hy, _⟩ := h f (by omega) hft
  simp at hy
theorem over_end {L : List Le} {T U : Int} (h : Inv L T) (hU : T + 66 ≤ U) : overL L U = [] := by
  unfold overL
  rw [List.filter_eq_nil_iff]
  intro x hx
  have := h.til x hx
  simp; omega
end Go.Proofs.Ytocnopgpdlfkjaa.Ls
