/- Written bytes: the mathematics of WriteFences. -/
import Derived.Test.YtcajmgdenhegjaaWrTd
namespace Go.Proofs.Ytcajmgdenhegjaa.Wr
open Go.RowKit Go.Proofs.Ytcajmgdenhegjaa
set_option linter.unusedVariables false

theorem with_mem {l : List Sf} {x y : Sf} (h : y ∈ withS l x) : y = x ∨ y ∈ l := by
  unfold withS at h
  rcases List.mem_append.1 h with h | h
  · exact .inr (List.mem_filter.1 h).1
  · rcases List.mem_cons.1 h with h | h
    · exact .inl h
    · exact .inr (List.mem_filter.1 h).1
theorem stor_with {l : List Sf} {x : Sf} (h : StorR l) (h1 : 1 ≤ x.i) (h2 : 0 ≤ x.e) (h3 : x.d.length ≤ 4096) : StorR (withS l x) :=
  ⟨fun y hy => (with_mem hy).elim (fun e => by subst e; exact ⟨h1, h2, h3⟩) (h.1 y), with_sorted h.2⟩
theorem two_filter (l : List Sf) (n : Int) : (l.filter (fun y => decide (y.i < n))).length + (l.filter (fun y => decide (n < y.i))).length ≤ l.length := by
  induction l with
  | nil => simp
  | cons y l ih =>
    rw [List.filter_cons, List.filter_cons]
    by_cases h1 : y.i < n
    · have h2 : ¬ n < y.i := by omega
      simp only [decide_eq_true h1, decide_eq_false h2, if_true, List.length_cons]
      simp; omega
    · by_cases h2 : n < y.i
      · simp only [decide_eq_false h1, decide_eq_true h2, if_true, List.length_cons]
        simp; omega
      · simp only [decide_eq_false h1, decide_eq_false h2, List.length_cons]
        simp; omega
theorem with_len (l : List Sf) (x : Sf) : (withS l x).length ≤ l.length + 1 := by
  have := two_filter l x.i
  unfold withS
  rw [List.length_append, List.length_cons]
  omega
theorem find_ok {l : List Sf} (h : StorR l) (m : Int) : 0 ≤ (findS l m).e ∧ (findS l m).d.length ≤ 4096 := by
  unfold findS
  cases hf : l.find? (fun y => decide (y.i = m)) with
  | none => simp
  | some y => exact ⟨(h.1 y (List.mem_of_find?_eq_some hf)).2.1, (h.1 y (List.mem_of_find?_eq_some hf)).2.2⟩
theorem layP_len {F : List Int} {x : Pc} (hF : F.length ≤ 4096) (hx : x.Right) : (layP F x).length ≤ 4096 := by
  have h1 : (layP F x).length = max F.length (x.f.toNat + x.d.length) := layL_length _ _ _
  have h2 := hx.2.1
  have h3 := hx.2.2.2
  unfold Pc.e at h3
  omega
theorem tk_stor {l : List Sf} {x : Pc} {ep : Int} (h : StorR l) (hx : x.Right) (he : 0 ≤ ep) : StorR (tkL l x ep) := by
  unfold tkL
  split
  · exact h
  · exact stor_with h hx.1 he (layP_len (find_ok h x.i).2 hx)
theorem tk_len (l : List Sf) (x : Pc) (ep : Int) : (tkL l x ep).length ≤ l.length + 1 := by
  unfold tkL
  split
  · omega
  · exact with_len _ _
theorem tk_find (l : List Sf) (x : Pc) (ep : Int) : findS (tkL l x ep) x.i = if ep < (findS l x.i).e then findS l x.i else ⟨x.i, ep, layP (findS l x.i).d x⟩ := by
  unfold tkL
  split
  · rfl
  · rw [find_with, if_pos rfl]
theorem tk_other {l : List Sf} {x : Pc} {ep n : Int} (h : n ≠ x.i) : findS (tkL l x ep) n = findS l n := by
  unfold tkL
  split
  · rfl
  · rw [find_with, if_neg h]
/-- what holds at every step -/
structure Fenced (l0 : List Sf) (x : Pc) (ra oth : Int) (k : Nat) (l : List Sf) : Prop where
  ok : StorR l
  up : ra ≤ (findS l x.i).e
  oth : oth ≠ x.i → findS l oth = findS l0 oth
  len : l.length ≤ l0.length + 1 + k
theorem fenced_raise {l : List Sf} {x : Pc} {ra oth : Int} (h : StorR l) (hx : x.Right) (hr : 0 ≤ ra) : Fenced l x ra oth 0 (withS l ⟨x.i, max (findS l x.i).e ra, (findS l x.i).d⟩) :=
  ⟨stor_with h hx.1 (by have := (find_ok h x.i).1; simp only; omega) (find_ok h x.i).2, by rw [find_with, if_pos rfl]; simp only; omega, fun hn => by rw [find_with, if_neg hn], with_len _ _⟩
theorem Fenced.take {l0 l : List Sf} {x : Pc} {ra oth ep : Int} {k : Nat} (h : Fenced l0 x ra oth k l) (hx : x.Right) (he : 0 ≤ ep) : Fenced l0 x ra oth (k + 1) (tkL l x ep) ∧ (findS l x.i).e ≤ (findS (tkL l x ep) x.i).e ∧ (ep < ra → tkC l x ep = 240) := by
  refine ⟨⟨tk_stor h.ok hx he, ?_, fun hn => by rw [tk_other hn]; exact h.oth hn, by have := tk_len l x ep; have := h.len; omega⟩, ?_, fun hl => ?_⟩
  · rw [tk_find]; have := h.up
    split
    · exact this
    · simp only; omega
  · rw [tk_find]
    split
    · omega
    · simp only; omega
  · unfold tkC; rw [if_pos (by have := h.up; omega)]
end Go.Proofs.Ytcajmgdenhegjaa.Wr
