/- Stored files: the plain mathematics (stage 24). -/
import Derived.Test.YtcajmgdenhegjaaWrN
namespace Go.Proofs.Ytcajmgdenhegjaa.Wr
open Go.RowKit Go.Proofs.Ytcajmgdenhegjaa
set_option linter.unusedVariables false

/-- a stored file: whose, its epoch, its bytes -/
structure Sf where
  i : Int
  e : Int
  d : List Int
deriving DecidableEq, Inhabited
def SortedS (l : List Sf) : Prop := l.Pairwise (fun a b => a.i < b.i)
def findS (l : List Sf) (n : Int) : Sf := (l.find? (fun x => decide (x.i = n))).getD ⟨n, 0, []⟩
/-- where it stands, or would -/
def atS (l : List Sf) (n : Int) : Nat := (l.takeWhile (fun x => decide (x.i < n))).length
def hadS (l : List Sf) (n : Int) : Bool := decide (∃ x ∈ l, x.i = n)
/-- those below, it, those above -/
def withS (l : List Sf) (x : Sf) : List Sf := l.filter (fun y => decide (y.i < x.i)) ++ x :: l.filter (fun y => decide (x.i < y.i))

theorem find_cons (y : Sf) (l : List Sf) (n : Int) : findS (y :: l) n = if y.i = n then y else findS l n := by
  unfold findS; by_cases h : y.i = n <;> simp [h]
theorem find_none {l : List Sf} {n : Int} (h : ∀ x ∈ l, x.i ≠ n) : findS l n = ⟨n, 0, []⟩ := by
  unfold findS
  rw [List.find?_eq_none.2 (by intro x hx; simpa using h x hx)]; rfl
theorem find_app {l m : List Sf} {n : Int} (h : ∀ x ∈ l, x.i ≠ n) : findS (l ++ m) n = findS m n := by
  induction l with
  | nil => rfl
  | cons y l ih =>
    rw [List.cons_append, find_cons, if_neg (h y (by simp))]
    exact ih (fun x hx => h x (by simp [hx]))
theorem find_is (l : List Sf) (n : Int) : (findS l n).i = n := by
  induction l with
  | nil => rfl
  | cons y l ih => rw [find_cons]; split <;> assumption
theorem find_mem {l : List Sf} {x : Sf} (hs : SortedS l) (hx : x ∈ l) : findS l x.i = x := by
  induction l with
  | nil => simp at hx
  | cons y l ih =>
    rw [find_cons]
    unfold SortedS at hs
    rw [List.pairwise_cons] at hs
    rcases List.mem_cons.1 hx with rfl | hx
    · rw [if_pos rfl]
    · have := hs.1 x hx
      rw [if_neg (by omega)]; exact ih hs.2 hx
theorem with_sorted {l : List Sf} {x : Sf} (hs : SortedS l) : SortedS (withS l x) := by
  unfold SortedS withS at *
  rw [List.pairwise_append, List.pairwise_cons]
  refine ⟨hs.filter _, ⟨?_, hs.filter _⟩, ?_⟩
  · intro y hy; simpa using (List.mem_filter.1 hy).2
  · intro a ha b hb
    have h1 : a.i < x.i := by simpa using (List.mem_filter.1 ha).2
    rcases List.mem_cons.1 hb with rfl | hb
    · exact h1
    · have h2 : x.i < b.i := by simpa using (List.mem_filter.1 hb).2
      omega
theorem find_filter {l : List Sf} {n : Int} (q : Sf → Bool) (h : ∀ x ∈ l, x.i = n → q x = true) : findS (l.filter q) n = findS l n := by
  induction l with
  | nil => rfl
  | cons y l ih =>
    have ih := ih (fun x hx => h x (by simp [hx]))
    rw [List.filter_cons]
    by_cases hy : y.i = n
    · rw [if_pos (h y (by simp) hy), find_cons, find_cons, if_pos hy, if_pos hy]
    · rw [find_cons, if_neg hy]
      split
      · rw [find_cons, if_neg hy, ih]
      · exact ih
theorem find_with (l : List Sf) (x : Sf) (n : Int) : findS (withS l x) n = if n = x.i then x else findS l n := by
  unfold withS
  by_cases hn : n = x.i
  · subst hn
    rw [if_pos rfl, find_app, find_cons, if_pos rfl]
    intro y hy
    have : y.i < x.i := by simpa using (List.mem_filter.1 hy).2
    omega
  · rw [if_neg hn]
    by_cases hlt : n < x.i
    · by_cases he : ∃ y ∈ l, y.i = n
      · -- stands below
        have key : ∀ (m r : List Sf), (∃ y ∈ m, y.i = n) → findS (m ++ r) n = findS m n := by
          intro m r
          induction m with
          | nil => intro ⟨y, hy, _⟩; simp at hy
          | cons z m ih =>
            intro ⟨y, hy, e⟩
            rw [List.cons_append, find_cons, find_cons]
            by_cases hz : z.i = n
            · rw [if_pos hz, if_pos hz]
            · rw [if_neg hz, if_neg hz]
              rcases List.mem_cons.1 hy with rfl | hy
              · exact absurd e hz
              · exact ih ⟨y, hy, e⟩
        obtain ⟨y, hy, e⟩ := he
        rw [key _ _ ⟨y, List.mem_filter.2 ⟨hy, by simp; omega⟩, e⟩]
        exact find_filter _ (by intro z hz ez; simp; omega)
      · rw [find_none (l := l) (fun z hz ez => he ⟨z, hz, ez⟩)]
        apply find_none
        intro z hz
        rcases List.mem_append.1 hz with hz | hz
        · exact fun ez => he ⟨z, (List.mem_filter.1 hz).1, ez⟩
        · rcases List.mem_cons.1 hz with rfl | hz
          · exact fun ez => hn ez.symm
          · exact fun ez => he ⟨z, (List.mem_filter.1 hz).1, ez⟩
    · rw [find_app, find_cons, if_neg (fun e => hn e.symm)]
      · exact find_filter _ (by intro z hz ez; simp; omega)
      · intro y hy
        have : y.i < x.i := by simpa using (List.mem_filter.1 hy).2
        omega

/-- a sorted row, cut where a number stands -/
theorem cut_S {l : List Sf} (hs : SortedS l) (n : Int) : ∃ a b : List Sf, a.length = atS l n ∧ (∀ x ∈ a, x.i < n) ∧ (∀ x ∈ b, n < x.i) ∧
    (hadS l n = true → ∃ x, x.i = n ∧ l = a ++ x :: b ∧ findS l n = x) ∧ (hadS l n = false → l = a ++ b ∧ findS l n = ⟨n, 0, []⟩) := by
  induction l with
  | nil => exact ⟨[], [], rfl, by simp, by simp, by intro h; simp [hadS] at h, by intro _; exact ⟨rfl, rfl⟩⟩
  | cons y l ih =>
    unfold SortedS at hs
    rw [List.pairwise_cons] at hs
    by_cases hy : y.i < n
    · obtain ⟨a, b, h1, h2, h3, h4, h5⟩ := ih hs.2
      have hh : hadS (y :: l) n = hadS l n := by
        unfold hadS; apply decide_eq_decide.2
        constructor
        · rintro ⟨x, hx, e⟩
          rcases List.mem_cons.1 hx with rfl | hx
          · omega
          · exact ⟨x, hx, e⟩
        · rintro ⟨x, hx, e⟩; exact ⟨x, by simp [hx], e⟩
      refine ⟨y :: a, b, ?_, ?_, h3, ?_, ?_⟩
      · unfold atS at *; rw [List.takeWhile_cons, if_pos (by simpa using hy)]; simp [h1]
      · intro x hx
        rcases List.mem_cons.1 hx with rfl | hx
        · exact hy
        · exact h2 x hx
      · intro h; rw [hh] at h
        obtain ⟨x, e1, e2, e3⟩ := h4 h
        exact ⟨x, e1, by rw [e2]; rfl, by rw [find_cons, if_neg (by omega), e3]⟩
      · intro h; rw [hh] at h
        obtain ⟨e2, e3⟩ := h5 h
        exact ⟨by rw [e2]; rfl, by rw [find_cons, if_neg (by omega), e3]⟩
    · have ha : atS (y :: l) n = 0 := by
        unfold atS; rw [List.takeWhile_cons, if_neg (by simpa using hy)]; rfl
      by_cases he : y.i = n
      · refine ⟨[], l, by rw [ha]; rfl, by simp, by intro x hx; have := hs.1 x hx; omega, ?_, ?_⟩
        · intro _; exact ⟨y, he, rfl, by rw [find_cons, if_pos he]⟩
        · intro h; exact absurd h (by unfold hadS; simp [he])
      · have hab : ∀ x ∈ y :: l, n < x.i := by
          intro x hx
          rcases List.mem_cons.1 hx with rfl | hx
          · omega
          · have := hs.1 x hx; omega
        refine ⟨[], y :: l, by rw [ha]; rfl, by simp, hab, ?_, ?_⟩
        · intro h
          unfold hadS at h
          obtain ⟨x, hx, e⟩ := of_decide_eq_true h
          have := hab x hx; omega
        · intro _; exact ⟨rfl, find_none (fun x hx e => by have := hab x hx; omega)⟩

theorem with_cut {a b : List Sf} {x : Sf} (ha : ∀ y ∈ a, y.i < x.i) (hb : ∀ y ∈ b, x.i < y.i) :
    withS (a ++ b) x = a ++ x :: b ∧ ∀ z : Sf, z.i = x.i → withS (a ++ z :: b) x = a ++ x :: b := by
  have f1 : a.filter (fun y => decide (y.i < x.i)) = a := List.filter_eq_self.2 (by intro y hy; simpa using ha y hy)
  have f2 : b.filter (fun y => decide (y.i < x.i)) = [] := List.filter_eq_nil_iff.2 (by intro y hy; have := hb y hy; simp; omega)
  have f3 : a.filter (fun y => decide (x.i < y.i)) = [] := List.filter_eq_nil_iff.2 (by intro y hy; have := ha y hy; simp; omega)
  have f4 : b.filter (fun y => decide (x.i < y.i)) = b := List.filter_eq_self.2 (by intro y hy; simpa using hb y hy)
  unfold withS
  constructor
  · simp [List.filter_append, f1, f2, f3, f4]
  · intro z hz
    simp [List.filter_append, f1, f2, f3, f4, hz]
/-- the code's way: a place, a new file there if there is none, and it set -/
theorem with_set {l : List Sf} (hs : SortedS l) (x : Sf) :
    withS l x = (if hadS l x.i = true then l else l.take (atS l x.i) ++ ⟨x.i, 0, []⟩ :: l.drop (atS l x.i)).set (atS l x.i) x := by
  obtain ⟨a, b, h1, h2, h3, h4, h5⟩ := cut_S hs x.i
  rw [← h1]
  by_cases h : hadS l x.i = true
  · obtain ⟨z, e1, e2, _⟩ := h4 h
    rw [if_pos h, e2, (with_cut h2 h3).2 z e1]; simp
  · obtain ⟨e2, _⟩ := h5 (by simpa using h)
    rw [if_neg h, e2, (with_cut h2 h3).1]; simp
/-- what stands there -/
theorem set_get {l : List Sf} (hs : SortedS l) (n : Int) :
    (if hadS l n = true then l else l.take (atS l n) ++ ⟨n, 0, []⟩ :: l.drop (atS l n))[atS l n]? = some (findS l n) := by
  obtain ⟨a, b, h1, h2, h3, h4, h5⟩ := cut_S hs n
  rw [← h1]
  by_cases h : hadS l n = true
  · obtain ⟨z, e1, e2, e3⟩ := h4 h
    rw [if_pos h, e3, e2]; simp
  · obtain ⟨e2, e3⟩ := h5 (by simpa using h)
    rw [if_neg h, e3, e2]; simp

/-- the reference's loop: what stands at k, and whether it is laid -/
def withK (l : List Sf) (x : Sf) : List Sf × Bool :=
  l.foldl (fun s y =>
    let s1 := if !s.2 && decide (x.i ≤ y.i) then (s.1 ++ [x], true) else s
    (if y.i ≠ x.i then s1.1 ++ [y] else s1.1, s1.2)) ([], false)
theorem withK_snoc (l : List Sf) (x y : Sf) : withK (l ++ [y]) x =
    (let s := withK l x
     let s1 := if !s.2 && decide (x.i ≤ y.i) then (s.1 ++ [x], true) else s
     (if y.i ≠ x.i then s1.1 ++ [y] else s1.1, s1.2)) := by
  unfold withK; rw [List.foldl_append]; rfl
theorem rev_ind {P : List Sf → Prop} (h0 : P []) (h1 : ∀ m y, P m → P (m ++ [y])) : ∀ l, P l := by
  intro l
  rw [← List.reverse_reverse l]
  induction l.reverse with
  | nil => exact h0
  | cons y m ih => rw [List.reverse_cons]; exact h1 _ _ ih
theorem withK_all {l : List Sf} (hs : SortedS l) (x : Sf) : (if (withK l x).2 = true then (withK l x).1 else (withK l x).1 ++ [x]) = withS l x := by
  have main : ∀ m : List Sf, SortedS m →
      ((∀ y ∈ m, y.i < x.i) → withK m x = (m, false)) ∧ ((∃ y ∈ m, x.i ≤ y.i) → withK m x = (withS m x, true)) := by
    refine rev_ind ?_ ?_
    · intro _; exact ⟨fun _ => rfl, fun ⟨y, hy, _⟩ => by simp at hy⟩
    · intro m y ih hm
      unfold SortedS at hm
      rw [List.pairwise_append] at hm
      obtain ⟨hm1, _, hm3⟩ := hm
      obtain ⟨i1, i2⟩ := ih hm1
      constructor
      · intro h
        have h1 := i1 (fun z hz => h z (by simp [hz]))
        have hy := h y (by simp)
        rw [withK_snoc, h1]
        have c1 : decide (x.i ≤ y.i) = false := decide_eq_false (by omega)
        have c2 : y.i ≠ x.i := by omega
        simp [c1, c2]
      · rintro ⟨z, hz, hle⟩
        by_cases hlow : ∀ z ∈ m, z.i < x.i
        · have h1 := i1 hlow
          have hy : x.i ≤ y.i := by
            rcases List.mem_append.1 hz with hz | hz
            · have := hlow z hz; omega
            · simp at hz; subst hz; exact hle
          rw [withK_snoc, h1]
          have c1 : decide (x.i ≤ y.i) = true := decide_eq_true hy
          by_cases c2 : y.i = x.i
          · have e := (with_cut (a := m) (b := []) (x := x) hlow (by simp)).2 y c2
            rw [e]; simp [c2]; try exact hy
          · have e := (with_cut (a := m) (b := [y]) (x := x) hlow (by intro q hq; simp at hq; subst hq; omega)).1
            rw [e]; simp [c1, c2]
        · obtain ⟨q, hq, hqx⟩ : ∃ q ∈ m, x.i ≤ q.i := by
            apply Classical.byContradiction
            intro hc
            apply hlow
            intro z hz
            apply Classical.byContradiction
            intro hh
            exact hc ⟨z, hz, by omega⟩
          have h2 := i2 ⟨q, hq, hqx⟩
          have hy : x.i < y.i := by have := hm3 q hq y (by simp); omega
          rw [withK_snoc, h2]
          have c2 : y.i ≠ x.i := by omega
          have c3 : ¬ y.i < x.i := by omega
          unfold withS
          simp [c2, List.filter_append, hy, c3]
  obtain ⟨m1, m2⟩ := main l hs
  by_cases h : ∃ y ∈ l, x.i ≤ y.i
  · rw [m2 h]; rfl
  · have hl : ∀ y ∈ l, y.i < x.i := by
      intro y hy
      apply Classical.byContradiction
      intro hh
      exact h ⟨y, hy, by omega⟩
    rw [m1 hl]
    have e := (with_cut (a := l) (b := []) (x := x) hl (by simp)).1
    rw [List.append_nil] at e
    rw [e]; rfl
end Go.Proofs.Ytcajmgdenhegjaa.Wr
