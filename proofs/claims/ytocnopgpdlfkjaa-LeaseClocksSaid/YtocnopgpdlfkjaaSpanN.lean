/- Spans: the plain mathematics of a sweep over bounds, and of trying all bounds. -/
import Derived.Test.YtocnopgpdlfkjaaSpanM
namespace Go.Proofs.Ytocnopgpdlfkjaa.Sp
set_option linter.unusedVariables false

/-- a bound: where, of which set, one more or one less -/
abbrev Bd := Int × Int × Int
def bdOf (j : Int) (s : Span) : List Bd := if max s.1 0 < min s.2 1099511627776 then [(max s.1 0, j, 1), (min s.2 1099511627776, j, -1)] else []
def bds (a b : List Span) : List Bd := a.flatMap (bdOf 0) ++ b.flatMap (bdOf 1)
theorem bdOf_len (j : Int) (s : Span) : (bdOf j s).length ≤ 2 := by unfold bdOf; split <;> simp
theorem flat_len (j : Int) : ∀ l : List Span, (l.flatMap (bdOf j)).length ≤ 2 * l.length
  | [] => by simp
  | s :: l => by
    have := flat_len j l
    have := bdOf_len j s
    rw [List.flatMap_cons, List.length_append, List.length_cons]
    omega
theorem bds_len (a b : List Span) : (bds a b).length ≤ 2 * (a.length + b.length) := by
  have := flat_len 0 a
  have := flat_len 1 b
  unfold bds
  rw [List.length_append]
  omega
theorem bdOf_mem {j : Int} {s : Span} {x : Bd} (h : x ∈ bdOf j s) : 0 ≤ x.1 ∧ x.1 ≤ 1099511627776 ∧ x.2.1 = j ∧ (x.2.2 = 1 ∨ x.2.2 = -1) := by
  unfold bdOf at h
  split at h
  · rcases List.mem_cons.1 h with rfl | h
    · exact ⟨by show 0 ≤ max s.1 0; omega, by show max s.1 0 ≤ _; omega, rfl, .inl rfl⟩
    · rw [List.mem_singleton] at h; subst h; exact ⟨by show 0 ≤ min s.2 1099511627776; omega, by show min s.2 1099511627776 ≤ _; omega, rfl, .inr rfl⟩
  · simp at h
theorem bds_mem {a b : List Span} {x : Bd} (h : x ∈ bds a b) : 0 ≤ x.1 ∧ x.1 ≤ 1099511627776 ∧ (x.2.1 = 0 ∨ x.2.1 = 1) ∧ (x.2.2 = 1 ∨ x.2.2 = -1) := by
  rcases List.mem_append.1 h with h | h
  · obtain ⟨s, _, h⟩ := List.mem_flatMap.1 h
    have := bdOf_mem h
    omega
  · obtain ⟨s, _, h⟩ := List.mem_flatMap.1 h
    have := bdOf_mem h
    omega

/-- how many of a set's spans are open at a place -/
def cov : List Bd → Int → Int → Int
  | [], _, _ => 0
  | x :: l, j, t => (if x.2.1 = j ∧ x.1 ≤ t then x.2.2 else 0) + cov l j t
/-- .. behind all bounds of a row -/
def opn : List Bd → Int → Int
  | [], _ => 0
  | x :: l, j => (if x.2.1 = j then x.2.2 else 0) + opn l j
theorem cov_append : ∀ (l m : List Bd) (j t : Int), cov (l ++ m) j t = cov l j t + cov m j t
  | [], m, j, t => by simp [cov]
  | x :: l, m, j, t => by rw [List.cons_append, cov, cov, cov_append l m]; omega
theorem opn_append : ∀ (l m : List Bd) (j : Int), opn (l ++ m) j = opn l j + opn m j
  | [], m, j => by simp [opn]
  | x :: l, m, j => by rw [List.cons_append, opn, opn, opn_append l m]; omega
theorem cov_perm {l m : List Bd} (h : l.Perm m) (j t : Int) : cov l j t = cov m j t := by
  induction h with
  | nil => rfl
  | cons x _ ih => rw [cov, cov, ih]
  | swap x y l => rw [cov, cov, cov, cov]; omega
  | trans _ _ ih1 ih2 => rw [ih1, ih2]
theorem cov_all : ∀ (l : List Bd) (j t : Int), (∀ x ∈ l, x.1 ≤ t) → cov l j t = opn l j
  | [], j, t, h => rfl
  | x :: l, j, t, h => by
    rw [cov, opn, cov_all l j t fun y hy => h y (by simp [hy])]
    have := h x (by simp)
    congr 1
    by_cases e : x.2.1 = j <;> simp [e, this]
theorem cov_none : ∀ (l : List Bd) (j t : Int), (∀ x ∈ l, t < x.1) → cov l j t = 0
  | [], j, t, h => rfl
  | x :: l, j, t, h => by
    rw [cov, cov_none l j t fun y hy => h y (by simp [hy]), if_neg (fun e => by have := h x (by simp); omega)]; rfl
theorem opn_bd : ∀ (l : List Bd) (j : Int), (∀ x ∈ l, x.2.2 = 1 ∨ x.2.2 = -1) → -(l.length : Int) ≤ opn l j ∧ opn l j ≤ l.length
  | [], j, h => by simp [opn]
  | x :: l, j, h => by
    have := opn_bd l j fun y hy => h y (by simp [hy])
    have := h x (by simp)
    rw [opn, List.length_cons]
    split <;> omega
theorem cov_of (j : Int) (s : Span) (t : Int) : cov (bdOf j s) j t = if 0 ≤ t ∧ t < 1099511627776 ∧ inB s t = true then 1 else 0 := by
  have hi := inB_iff (s := s) (t := t)
  by_cases c : 0 ≤ t ∧ t < 1099511627776 ∧ inB s t = true
  · rw [if_pos c]
    rw [hi] at c
    unfold bdOf
    rw [if_pos (by omega)]
    simp only [cov, true_and]
    rw [if_pos (by omega), if_neg (by omega)]; rfl
  · rw [if_neg c]
    rw [hi] at c
    unfold bdOf
    split
    · simp only [cov, true_and]
      split <;> split <;> omega
    · rfl
theorem cov_other (j k : Int) (s : Span) (t : Int) (h : j ≠ k) : cov (bdOf j s) k t = 0 := by
  unfold bdOf
  split
  · simp [cov, h]
  · rfl
theorem cov_flat (j t : Int) : ∀ l : List Span, 0 ≤ cov (l.flatMap (bdOf j)) j t ∧ (0 < cov (l.flatMap (bdOf j)) j t ↔ hasB l t = true)
  | [] => by simp [cov, hasB]
  | s :: l => by
    have h := cov_flat j t l
    rw [List.flatMap_cons, cov_append, cov_of]
    rw [hasB_iff] at h ⊢
    have e : (∃ r ∈ s :: l, r.1 ≤ t ∧ t < r.2) ↔ inB s t = true ∨ ∃ r ∈ l, r.1 ≤ t ∧ t < r.2 := by rw [inB_iff]; simp
    rw [e]
    by_cases c : 0 ≤ t ∧ t < 1099511627776 ∧ inB s t = true
    · rw [if_pos c]
      exact ⟨by omega, fun _ => ⟨c.1, c.2.1, .inl c.2.2⟩, fun _ => by omega⟩
    · rw [if_neg c]
      refine ⟨by omega, fun k => ?_, fun k => ?_⟩
      · have := h.2.1 (by omega)
        exact ⟨this.1, this.2.1, .inr this.2.2⟩
      · rcases k.2.2 with k2 | k2
        · exact absurd ⟨k.1, k.2.1, k2⟩ c
        · have := h.2.2 ⟨k.1, k.2.1, k2⟩; omega
theorem cov_flat_other (j k t : Int) (h : j ≠ k) : ∀ l : List Span, cov (l.flatMap (bdOf j)) k t = 0
  | [] => rfl
  | s :: l => by rw [List.flatMap_cons, cov_append, cov_other j k s t h, cov_flat_other j k t h l]; rfl
theorem cov_bds0 (a b : List Span) (t : Int) : decide (0 < cov (bds a b) 0 t) = hasB a t := by
  unfold bds
  rw [cov_append, cov_flat_other 1 0 t (by omega), Int.add_zero, Bool.eq_iff_iff, decide_eq_true_iff]
  exact (cov_flat 0 t a).2
theorem cov_bds1 (a b : List Span) (t : Int) : decide (0 < cov (bds a b) 1 t) = hasB b t := by
  unfold bds
  rw [cov_append, cov_flat_other 0 1 t (by omega), Int.zero_add, Bool.eq_iff_iff, decide_eq_true_iff]
  exact (cov_flat 1 t b).2

/-- bounds, in some order that rises -/
structure BdOk (a b : List Span) (L : List Bd) : Prop where
  perm : L.Perm (bds a b)
  rise : ∀ (i j : Nat) (x y : Bd), i < j → L[i]? = some x → L[j]? = some y → x.1 ≤ y.1
theorem BdOk.mem {a b : List Span} {L : List Bd} (h : BdOk a b L) {x : Bd} (hx : x ∈ L) : 0 ≤ x.1 ∧ x.1 ≤ 1099511627776 ∧ (x.2.1 = 0 ∨ x.2.1 = 1) ∧ (x.2.2 = 1 ∨ x.2.2 = -1) := bds_mem (h.perm.mem_iff.1 hx)
theorem BdOk.len {a b : List Span} {L : List Bd} (h : BdOk a b L) : L.length ≤ 2 * (a.length + b.length) := by rw [h.perm.length_eq]; exact bds_len a b
theorem BdOk.opn {a b : List Span} {L : List Bd} (h : BdOk a b L) (k : Nat) (j : Int) : -(L.length : Int) ≤ Sp.opn (L.take k) j ∧ Sp.opn (L.take k) j ≤ L.length := by
  have := opn_bd (L.take k) j fun x hx => (h.mem (List.mem_of_mem_take hx)).2.2.2
  have : (L.take k).length ≤ L.length := by simp; omega
  omega
def gB (f : Bool → Bool → Bool) (a b : List Span) (t : Int) : Bool := f (hasB a t) (hasB b t)
theorem BdOk.g {a b : List Span} {L : List Bd} (h : BdOk a b L) (f : Bool → Bool → Bool) (t : Int) : f (decide (0 < cov L 0 t)) (decide (0 < cov L 1 t)) = gB f a b t := by
  rw [cov_perm h.perm, cov_perm h.perm, cov_bds0, cov_bds1]; rfl
theorem mem_drop_get {L : List Bd} {k : Nat} {y : Bd} (h : y ∈ L.drop k) : ∃ i, k ≤ i ∧ L[i]? = some y := by
  obtain ⟨i, hi, e⟩ := List.mem_iff_getElem.1 h
  refine ⟨k + i, by omega, ?_⟩
  rw [← List.getElem?_drop, List.getElem?_eq_getElem hi, e]
theorem mem_take_get {L : List Bd} {k : Nat} {y : Bd} (h : y ∈ L.take k) : ∃ i, i < k ∧ L[i]? = some y := by
  obtain ⟨i, hi, e⟩ := List.mem_iff_getElem.1 h
  have hik : i < k := by simp at hi; omega
  refine ⟨i, hik, ?_⟩
  rw [← List.getElem?_take_of_lt hik, List.getElem?_eq_getElem hi, e]
theorem drop_get {L : List Bd} {k : Nat} {x : Bd} (h : L[k]? = some x) : L.drop k = x :: L.drop (k + 1) := by
  obtain ⟨hk, e⟩ := List.getElem?_eq_some_iff.1 h
  rw [List.drop_eq_getElem_cons hk, e]
/-- behind all bounds up to a place -/
theorem BdOk.at_ {a b : List Span} {L : List Bd} (h : BdOk a b L) {k : Nat} {x : Bd} (hx : L[k]? = some x) {t : Int} (ht : x.1 ≤ t) (hn : ∀ y ∈ L.drop (k + 1), t < y.1) (f : Bool → Bool → Bool) :
    f (decide (0 < Sp.opn (L.take (k + 1)) 0)) (decide (0 < Sp.opn (L.take (k + 1)) 1)) = gB f a b t := by
  rw [← h.g f t]
  have e : ∀ j, cov L j t = Sp.opn (L.take (k + 1)) j := fun j => by
    conv => lhs; rw [← List.take_append_drop (k + 1) L]
    rw [cov_append, cov_none _ j t hn, cov_all (L.take (k + 1)) j t fun y hy => ?_]
    · omega
    · obtain ⟨i, hi, e⟩ := mem_take_get hy
      by_cases c : i = k
      · subst c; rw [hx] at e; injection e with e; subst e; exact ht
      · have := h.rise i k y x (by omega) e hx; omega
  rw [e, e]

/-- how far the sweep came -/
structure Sweep (f : Bool → Bool → Bool) (a b : List Span) (L : List Bd) (k : Nat) (out : List Span) (ins : Bool) (frm : Int) : Prop where
  ord : Ordered out
  set : ∀ t, (∀ x ∈ L.drop k, t < x.1) → ((out.any fun s => inB s t) || (ins && decide (frm ≤ t))) = gB f a b t
  inn : ins = true → (∀ s ∈ out, s.2 < frm) ∧ 0 ≤ frm ∧ frm ≤ 1099511627776 ∧ ∀ x ∈ L.drop k, frm < x.1
  off : ins = false → ∀ s ∈ out, ∀ x ∈ L.drop k, s.2 < x.1
  len : out.length ≤ k
theorem Sweep.start {f : Bool → Bool → Bool} (hf : f false false = false) {a b : List Span} {L : List Bd} (h : BdOk a b L) : Sweep f a b L 0 [] false 0 where
  ord := trivial
  set := fun t ht => by
    rw [← h.g f t, cov_none L 0 t (by simpa using ht), cov_none L 1 t (by simpa using ht)]
    simp [hf]
  inn := fun h => by cases h
  off := fun _ s hs => by simp at hs
  len := by simp
/-- more bounds at the same place come -/
theorem Sweep.same {f : Bool → Bool → Bool} {a b : List Span} {L : List Bd} (h : BdOk a b L) {k : Nat} {out : List Span} {ins : Bool} {frm : Int} (hs : Sweep f a b L k out ins frm) {x y : Bd} (hx : L[k]? = some x) (hy : L[k + 1]? = some y) (e : y.1 = x.1) : Sweep f a b L (k + 1) out ins frm where
  ord := hs.ord
  set := fun t ht => hs.set t fun z hz => by
    rw [drop_get hx] at hz
    rcases List.mem_cons.1 hz with rfl | hz
    · rw [← e]; exact ht y (by rw [drop_get hy]; simp)
    · exact ht z hz
  inn := fun hi => by
    obtain ⟨h1, h2, h3, h4⟩ := hs.inn hi
    exact ⟨h1, h2, h3, fun z hz => h4 z (by rw [drop_get hx]; simp [hz])⟩
  off := fun hi s hm z hz => hs.off hi s hm z (by rw [drop_get hx]; simp [hz])
  len := by have := hs.len; omega
/-- the last one at its place: what counts from there on is as it was -/
def LastAt (L : List Bd) (k : Nat) (x : Bd) : Prop := ∀ y ∈ L.drop (k + 1), x.1 < y.1
theorem lastAt_end {L : List Bd} {k : Nat} {x : Bd} (h : L.length ≤ k + 1) : LastAt L k x := fun y hy => by rw [List.drop_eq_nil_of_le h] at hy; simp at hy
theorem lastAt_next {a b : List Span} {L : List Bd} (h : BdOk a b L) {k : Nat} {x y : Bd} (hx : L[k]? = some x) (hy : L[k + 1]? = some y) (e : y.1 ≠ x.1) : LastAt L k x := fun z hz => by
  have h1 := h.rise k (k + 1) x y (by omega) hx hy
  obtain ⟨i, hi, ez⟩ := mem_drop_get hz
  by_cases c : i = k + 1
  · subst c; rw [hy] at ez; injection ez with ez; subst ez; omega
  · have := h.rise (k + 1) i y z (by omega) hy ez; omega
def cntAt (f : Bool → Bool → Bool) (L : List Bd) (k : Nat) : Bool := f (decide (0 < opn (L.take (k + 1)) 0)) (decide (0 < opn (L.take (k + 1)) 1))
theorem Sweep.stay {f : Bool → Bool → Bool} {a b : List Span} {L : List Bd} (h : BdOk a b L) {k : Nat} {out : List Span} {ins : Bool} {frm : Int} (hs : Sweep f a b L k out ins frm) {x : Bd} (hx : L[k]? = some x) (hl : LastAt L k x) (hc : cntAt f L k = ins) : Sweep f a b L (k + 1) out ins frm where
  ord := hs.ord
  set := fun t ht => by
    by_cases c : x.1 ≤ t
    · rw [← h.at_ hx c ht f]
      rw [show f (decide (0 < opn (L.take (k + 1)) 0)) (decide (0 < opn (L.take (k + 1)) 1)) = ins from hc]
      cases ins with
      | true =>
        obtain ⟨h1, h2, h3, h4⟩ := hs.inn rfl
        have := h4 x (by rw [drop_get hx]; simp)
        simp; right; omega
      | false =>
        simp only [Bool.false_and, Bool.or_false]
        rw [Bool.eq_false_iff]
        intro hh
        obtain ⟨s, hm, hi⟩ := List.any_eq_true.1 hh
        have := hs.off rfl s hm x (by rw [drop_get hx]; simp)
        rw [inB_iff] at hi
        omega
    · exact hs.set t fun z hz => by
        rw [drop_get hx] at hz
        rcases List.mem_cons.1 hz with rfl | hz
        · omega
        · exact ht z hz
  inn := fun hi => by
    obtain ⟨h1, h2, h3, h4⟩ := hs.inn hi
    exact ⟨h1, h2, h3, fun z hz => h4 z (by rw [drop_get hx]; simp [hz])⟩
  off := fun hi s hm z hz => hs.off hi s hm z (by rw [drop_get hx]; simp [hz])
  len := by have := hs.len; omega
theorem mem_of_get {L : List Bd} {k : Nat} {x : Bd} (h : L[k]? = some x) : x ∈ L := List.mem_of_getElem? h
theorem Sweep.close {f : Bool → Bool → Bool} {a b : List Span} {L : List Bd} (h : BdOk a b L) {k : Nat} {out : List Span} {frm : Int} (hs : Sweep f a b L k out true frm) {x : Bd} (hx : L[k]? = some x) (hl : LastAt L k x) (hc : cntAt f L k = false) : Sweep f a b L (k + 1) (out ++ [(frm, x.1)]) false x.1 where
  ord := by
    obtain ⟨h1, h2, h3, h4⟩ := hs.inn rfl
    have := h4 x (by rw [drop_get hx]; simp)
    exact Ord.snoc hs.ord h1 (by omega) this (h.mem (mem_of_get hx)).2.1
  set := fun t ht => by
    obtain ⟨h1, h2, h3, h4⟩ := hs.inn rfl
    have h5 := h4 x (by rw [drop_get hx]; simp)
    by_cases c : x.1 ≤ t
    · rw [← h.at_ hx c ht f]
      rw [show f (decide (0 < opn (L.take (k + 1)) 0)) (decide (0 < opn (L.take (k + 1)) 1)) = false from hc]
      simp only [Bool.false_and, Bool.or_false]
      rw [Bool.eq_false_iff]
      intro hh
      obtain ⟨s, hm, hi⟩ := List.any_eq_true.1 hh
      rw [inB_iff] at hi
      rcases List.mem_append.1 hm with hm | hm
      · have := h1 s hm; omega
      · rw [List.mem_singleton] at hm; subst hm; simp only at hi; omega
    · rw [← hs.set t fun z hz => by
        rw [drop_get hx] at hz
        rcases List.mem_cons.1 hz with rfl | hz
        · omega
        · exact ht z hz]
      rw [List.any_append]
      simp only [Bool.false_and, Bool.or_false, Bool.true_and, List.any_cons, List.any_nil]
      congr 1
      simp [inB]; omega
  inn := fun hi => by cases hi
  off := fun _ s hm z hz => by
    obtain ⟨h1, h2, h3, h4⟩ := hs.inn rfl
    have h5 := h4 x (by rw [drop_get hx]; simp)
    have := hl z hz
    rcases List.mem_append.1 hm with hm | hm
    · have := h1 s hm; omega
    · rw [List.mem_singleton] at hm; subst hm; simpa using this
  len := by have := hs.len; simp; omega
theorem Sweep.opens {f : Bool → Bool → Bool} {a b : List Span} {L : List Bd} (h : BdOk a b L) {k : Nat} {out : List Span} {frm : Int} (hs : Sweep f a b L k out false frm) {x : Bd} (hx : L[k]? = some x) (hl : LastAt L k x) (hc : cntAt f L k = true) : Sweep f a b L (k + 1) out true x.1 where
  ord := hs.ord
  set := fun t ht => by
    by_cases c : x.1 ≤ t
    · rw [← h.at_ hx c ht f]
      rw [show f (decide (0 < opn (L.take (k + 1)) 0)) (decide (0 < opn (L.take (k + 1)) 1)) = true from hc]
      simp; right; exact c
    · rw [← hs.set t fun z hz => by
        rw [drop_get hx] at hz
        rcases List.mem_cons.1 hz with rfl | hz
        · omega
        · exact ht z hz]
      simp; intro; omega
  inn := fun _ => ⟨fun s hm => hs.off rfl s hm x (by rw [drop_get hx]; simp), (h.mem (mem_of_get hx)).1, (h.mem (mem_of_get hx)).2.1, fun z hz => hl z hz⟩
  off := fun hi => by cases hi
  len := by have := hs.len; omega
theorem gB_far (f : Bool → Bool → Bool) (hf : f false false = false) (a b : List Span) (t : Int) (h : t < 0 ∨ 1099511627776 ≤ t) : gB f a b t = false := by
  have e : ∀ l : List Span, hasB l t = false := fun l => by unfold hasB; rw [decide_eq_false (by omega)]; rfl
  unfold gB
  rw [e, e, hf]
theorem Sweep.done {f : Bool → Bool → Bool} (hf : f false false = false) {a b : List Span} {L : List Bd} (h : BdOk a b L) {k : Nat} (hk : L.length ≤ k) {out : List Span} {ins : Bool} {frm : Int} (hs : Sweep f a b L k out ins frm) (hkl : out.length ≤ L.length) : IsOf f a b out := by
  have hset : ∀ t, ((out.any fun s => inB s t) || (ins && decide (frm ≤ t))) = gB f a b t := fun t => hs.set t fun x hx => by rw [List.drop_eq_nil_of_le hk] at hx; simp at hx
  have hi : ins = false := by
    cases ins with
    | false => rfl
    | true =>
      have := hset (max frm 1099511627776)
      rw [gB_far f hf a b _ (by omega)] at this
      simp at this
      omega
  subst hi
  refine ⟨hs.ord, fun t => ?_, by have := h.len; omega⟩
  rw [hs.ord.has, show f (hasB a t) (hasB b t) = gB f a b t from rfl, ← hset t]
  simp

/-! ### by trying all bounds -/
def Rising (l : List Int) : Prop := l.Pairwise (· < ·)
structure Into (l : List Int) (x : Int) (m : List Int) : Prop where
  rise : Rising l → Rising m
  mem : ∀ y, y ∈ m ↔ y ∈ l ∨ (y = x ∧ 0 ≤ x ∧ x ≤ 1099511627776)
  len : m.length ≤ l.length + 1
theorem Into.none {l : List Int} {x : Int} (h : ¬ (0 ≤ x ∧ x ≤ 1099511627776)) : Into l x l := ⟨id, fun y => ⟨.inl, fun k => k.elim id fun k => absurd k.2 h⟩, by omega⟩
theorem Into.there {l : List Int} {x : Int} (h : x ∈ l) : Into l x l := ⟨id, fun y => ⟨.inl, fun k => k.elim id fun k => k.1 ▸ h⟩, by omega⟩
theorem Into.put {l : List Int} {x : Int} (hx : 0 ≤ x ∧ x ≤ 1099511627776) (k : Nat) (h1 : ∀ y ∈ l.take k, y < x) (h2 : ∀ y, l[k]? = some y → x < y) : Into l x (l.take k ++ [x] ++ l.drop k) := by
  refine ⟨fun hr => ?_, fun y => ?_, by simp; omega⟩
  · unfold Rising at *
    have hr' := hr
    rw [← List.take_append_drop k l, List.pairwise_append] at hr'
    obtain ⟨r1, r2, r3⟩ := hr'
    rw [List.append_assoc, List.pairwise_append]
    refine ⟨r1, ?_, fun a ha b hb => ?_⟩
    · rw [List.singleton_append, List.pairwise_cons]
      refine ⟨fun a ha => ?_, r2⟩
      cases hd : l.drop k with
      | nil => rw [hd] at ha; simp at ha
      | cons z m =>
        have hz : x < z := h2 z (by rw [← List.head?_drop, hd]; rfl)
        rw [hd] at ha r2
        rcases List.mem_cons.1 ha with rfl | ha
        · exact hz
        · have := (List.pairwise_cons.1 r2).1 a ha; omega
    · rw [List.singleton_append] at hb
      rcases List.mem_cons.1 hb with rfl | hb
      · exact h1 a ha
      · exact r3 a ha b hb
  · rw [List.append_assoc, List.mem_append, List.singleton_append, List.mem_cons]
    constructor
    · rintro (h | rfl | h)
      · exact .inl (List.mem_of_mem_take h)
      · exact .inr ⟨rfl, hx⟩
      · exact .inl (List.mem_of_mem_drop h)
    · rintro (h | h)
      · rw [← List.take_append_drop k l, List.mem_append] at h
        exact h.elim .inl fun h => .inr (.inr h)
      · exact .inr (.inl h.1)
/-- all bounds of a row of spans, from 0 on -/
structure BndOk (l : List Span) (m : List Int) : Prop where
  rise : Rising m
  mem : ∀ y ∈ m, 0 ≤ y ∧ y ≤ 1099511627776
  zero : 0 ∈ m
  has : ∀ s ∈ l, ∀ y, (y = s.1 ∨ y = s.2) → 0 ≤ y → y ≤ 1099511627776 → y ∈ m
  len : m.length ≤ 2 * l.length + 1
theorem BndOk.start : BndOk [] [0] := ⟨by simp [Rising], by simp, by simp, by simp, by simp⟩
theorem BndOk.snoc {l : List Span} {m m1 m2 : List Int} {s : Span} (h : BndOk l m) (h1 : Into m s.1 m1) (h2 : Into m1 s.2 m2) : BndOk (l ++ [s]) m2 := by
  have sub1 : ∀ y ∈ m, y ∈ m1 := fun y hy => (h1.mem y).2 (.inl hy)
  have sub2 : ∀ y ∈ m1, y ∈ m2 := fun y hy => (h2.mem y).2 (.inl hy)
  refine ⟨h2.rise (h1.rise h.rise), fun y hy => ?_, sub2 _ (sub1 _ h.zero), fun r hr y hy h3 h4 => ?_, ?_⟩
  · rcases (h2.mem y).1 hy with hy | hy
    · rcases (h1.mem y).1 hy with hy | hy
      · exact h.mem y hy
      · omega
    · omega
  · rcases List.mem_append.1 hr with hr | hr
    · exact sub2 _ (sub1 _ (h.has r hr y hy h3 h4))
    · rw [List.mem_singleton] at hr
      subst hr
      rcases hy with hy | hy
      · exact sub2 _ ((h1.mem y).2 (.inr ⟨hy, by omega⟩))
      · exact (h2.mem y).2 (.inr ⟨hy, by omega⟩)
  · have := h1.len; have := h2.len; have := h.len; simp; omega
/-- .. and the end -/
structure AllOk (a b : List Span) (m : List Int) : Prop where
  rise : Rising m
  mem : ∀ y ∈ m, 0 ≤ y ∧ y ≤ 1099511627776
  zero : 0 ∈ m
  top : 1099511627776 ∈ m
  has : ∀ s ∈ a ++ b, ∀ y, (y = s.1 ∨ y = s.2) → 0 ≤ y → y ≤ 1099511627776 → y ∈ m
  len : m.length ≤ 2 * (a.length + b.length) + 2
theorem AllOk.of {a b : List Span} {m m2 : List Int} (h : BndOk (a ++ b) m) (h1 : Into m 1099511627776 m2) : AllOk a b m2 := by
  have sub : ∀ y ∈ m, y ∈ m2 := fun y hy => (h1.mem y).2 (.inl hy)
  refine ⟨h1.rise h.rise, fun y hy => ?_, sub _ h.zero, (h1.mem _).2 (.inr ⟨rfl, by omega, by omega⟩), fun s hs y hy h3 h4 => sub _ (h.has s hs y hy h3 h4), ?_⟩
  · rcases (h1.mem y).1 hy with hy | hy
    · exact h.mem y hy
    · omega
  · have := h1.len; have := h.len; simp at this; omega
theorem rising_get {m : List Int} (h : Rising m) {i j : Nat} {x y : Int} (hij : i < j) (hx : m[i]? = some x) (hy : m[j]? = some y) : x < y := by
  obtain ⟨hi, rfl⟩ := List.getElem?_eq_some_iff.1 hx
  obtain ⟨hj, rfl⟩ := List.getElem?_eq_some_iff.1 hy
  exact List.pairwise_iff_getElem.1 h i j hi hj hij
theorem AllOk.first {a b : List Span} {m : List Int} (h : AllOk a b m) : m[0]? = some 0 := by
  obtain ⟨i, hi⟩ := List.mem_iff_getElem?.1 h.zero
  cases i with
  | zero => exact hi
  | succ i =>
    cases e : m[0]? with
    | none => rw [List.getElem?_eq_none_iff] at e; rw [List.getElem?_eq_none (by omega)] at hi; cases hi
    | some x =>
      have := rising_get h.rise (by omega) e hi
      have := (h.mem x (List.mem_of_getElem? e)).1
      omega
theorem AllOk.last {a b : List Span} {m : List Int} (h : AllOk a b m) {i : Nat} {x : Int} (hx : m[i]? = some x) (hl : m.length ≤ i + 1) : x = 1099511627776 := by
  obtain ⟨j, hj⟩ := List.mem_iff_getElem?.1 h.top
  have h1 := (List.getElem?_eq_some_iff.1 hj).1
  have h2 := (List.getElem?_eq_some_iff.1 hx).1
  by_cases e : j = i
  · subst e; rw [hx] at hj; injection hj
  · have := rising_get h.rise (show j < i by omega) hj hx
    have := (h.mem x (List.mem_of_getElem? hx)).2
    omega
theorem AllOk.const {a b : List Span} {m : List Int} (h : AllOk a b m) {i : Nat} {x y t : Int} (hx : m[i]? = some x) (hy : m[i + 1]? = some y) (h1 : x ≤ t) (h2 : t < y) (f : Bool → Bool → Bool) : gB f a b t = gB f a b x := by
  have hx0 := h.mem x (List.mem_of_getElem? hx)
  have hy0 := h.mem y (List.mem_of_getElem? hy)
  have no : ∀ z ∈ m, ¬ (x < z ∧ z < y) := fun z hz hzz => by
    obtain ⟨j, hj⟩ := List.mem_iff_getElem?.1 hz
    by_cases c : j ≤ i
    · by_cases c2 : j = i
      · subst c2; rw [hx] at hj; injection hj; omega
      · have := rising_get h.rise (show j < i by omega) hj hx; omega
    · by_cases c2 : j = i + 1
      · subst c2; rw [hy] at hj; injection hj; omega
      · have := rising_get h.rise (show i + 1 < j by omega) hy hj; omega
  have e : ∀ l : List Span, (∀ s ∈ l, s ∈ a ++ b) → hasB l t = hasB l x := fun l hl => by
    unfold hasB
    rw [decide_eq_true (show 0 ≤ t ∧ t < 1099511627776 by omega), decide_eq_true (show 0 ≤ x ∧ x < 1099511627776 by omega)]
    congr 1
    rw [Bool.eq_iff_iff, List.any_eq_true, List.any_eq_true]
    have e2 : ∀ s ∈ l, inB s t = inB s x := fun s hs => by
      have n1 := no s.1
      have n2 := no s.2
      have m1 := h.has s (hl s hs) s.1 (.inl rfl)
      have m2 := h.has s (hl s hs) s.2 (.inr rfl)
      rw [Bool.eq_iff_iff, inB_iff, inB_iff]
      constructor
      · intro hh
        refine ⟨?_, by omega⟩
        by_cases c : x < s.1
        · exact absurd ⟨c, by omega⟩ (n1 (m1 (by omega) (by omega)))
        · omega
      · intro hh
        refine ⟨by omega, ?_⟩
        by_cases c : s.2 ≤ t
        · exact absurd ⟨by omega, by omega⟩ (n2 (m2 (by omega) (by omega)))
        · omega
    constructor
    · rintro ⟨s, hs, k⟩; exact ⟨s, hs, by rw [← e2 s hs]; exact k⟩
    · rintro ⟨s, hs, k⟩; exact ⟨s, hs, by rw [e2 s hs]; exact k⟩
  unfold gB
  rw [e a (fun s hs => by simp [hs]), e b (fun s hs => by simp [hs])]
/-- how far the trying came: x is the place -/
structure Tried (f : Bool → Bool → Bool) (a b : List Span) (x : Int) (k : Nat) (out : List Span) : Prop where
  ord : Ordered out
  set : ∀ t, t < x → (out.any fun s => inB s t) = gB f a b t
  off : ∀ s ∈ out, s.2 ≤ x
  len : out.length ≤ k
theorem Tried.start {f : Bool → Bool → Bool} (hf : f false false = false) (a b : List Span) : Tried f a b 0 0 [] := ⟨trivial, fun t ht => by rw [gB_far f hf a b t (.inl ht)]; rfl, by simp, by simp⟩
theorem Tried.not {f : Bool → Bool → Bool} {a b : List Span} {m : List Int} (h : AllOk a b m) {k : Nat} {x y : Int} {out : List Span} (ht : Tried f a b x k out) (hx : m[k]? = some x) (hy : m[k + 1]? = some y) (hc : gB f a b x = false) : Tried f a b y (k + 1) out := by
  have hxy := rising_get h.rise (by omega) hx hy
  refine ⟨ht.ord, fun t h1 => ?_, fun s hs => by have := ht.off s hs; omega, by have := ht.len; omega⟩
  by_cases c : t < x
  · exact ht.set t c
  · rw [h.const hx hy (by omega) h1 f, hc, Bool.eq_false_iff]
    intro hh
    obtain ⟨s, hs, hi⟩ := List.any_eq_true.1 hh
    have := ht.off s hs
    rw [inB_iff] at hi
    omega
theorem Tried.new {f : Bool → Bool → Bool} {a b : List Span} {m : List Int} (h : AllOk a b m) {k : Nat} {x y : Int} {out : List Span} (ht : Tried f a b x k out) (hx : m[k]? = some x) (hy : m[k + 1]? = some y) (hc : gB f a b x = true) (hn : ∀ s ∈ out, s.2 ≠ x) : Tried f a b y (k + 1) (out ++ [(x, y)]) := by
  have hxy := rising_get h.rise (by omega) hx hy
  have hx0 := h.mem x (List.mem_of_getElem? hx)
  have hy0 := h.mem y (List.mem_of_getElem? hy)
  refine ⟨Ord.snoc ht.ord (fun s hs => by have := ht.off s hs; have := hn s hs; omega) (by omega) hxy hy0.2, fun t h1 => ?_, fun s hs => ?_, by have := ht.len; simp; omega⟩
  · rw [List.any_append]
    by_cases c : t < x
    · rw [ht.set t c]
      have e : inB (x, y) t = false := by simp [inB]; omega
      simp [e]
    · rw [h.const hx hy (by omega) h1 f, hc]
      have e : inB (x, y) t = true := by simp [inB]; omega
      simp [e]
  · rcases List.mem_append.1 hs with hs | hs
    · have := ht.off s hs; omega
    · rw [List.mem_singleton] at hs; subst hs; exact Int.le_refl _
theorem Tried.more {f : Bool → Bool → Bool} {a b : List Span} {m : List Int} (h : AllOk a b m) {k : Nat} {x y g : Int} {out : List Span} (ht : Tried f a b x k (out ++ [(g, x)])) (hx : m[k]? = some x) (hy : m[k + 1]? = some y) (hc : gB f a b x = true) : Tried f a b y (k + 1) (out ++ [(g, y)]) := by
  have hxy := rising_get h.rise (by omega) hx hy
  have hy0 := h.mem y (List.mem_of_getElem? hy)
  have hg : g < x := (ht.ord.mem (g, x) (by simp)).2.1
  refine ⟨Ord.last ht.ord (by omega) hy0.2, fun t h1 => ?_, fun s hs => ?_, by have := ht.len; simp at this ⊢; omega⟩
  · rw [List.any_append]
    by_cases c : t < x
    · rw [← ht.set t c, List.any_append]
      have e : inB (g, y) t = inB (g, x) t := by rw [Bool.eq_iff_iff, inB_iff, inB_iff]; simp only; omega
      simp [e]
    · rw [h.const hx hy (by omega) h1 f, hc]
      have e : inB (g, y) t = true := by simp [inB]; omega
      simp [e]
  · rcases List.mem_append.1 hs with hs | hs
    · have := ht.off s (by simp [hs]); omega
    · rw [List.mem_singleton] at hs; subst hs; exact Int.le_refl _
/-- the last one ends last -/
theorem ord_last : ∀ {l : List Span} {lo : Int} {r : Span}, Ord lo (l ++ [r]) → ∀ s ∈ l, s.2 < r.1
  | [], _, _, _, s, hs => by simp at hs
  | q :: l, lo, r, h, s, hs => by
    rcases List.mem_cons.1 hs with rfl | hs
    · exact (Ord.mem h.2.2.2 r (by simp)).1
    · exact ord_last h.2.2.2 s hs
theorem Tried.apart {f : Bool → Bool → Bool} {a b : List Span} {k : Nat} {x : Int} {out : List Span} {r : Span} (ht : Tried f a b x k (out ++ [r])) (hn : r.2 ≠ x) : ∀ s ∈ out ++ [r], s.2 ≠ x := fun s hs => by
  rcases List.mem_append.1 hs with hs | hs
  · have := ord_last ht.ord s hs
    have := (ht.ord.mem r (by simp)).2.1
    have := ht.off r (by simp)
    omega
  · rw [List.mem_singleton] at hs; subst hs; exact hn
theorem Tried.done {f : Bool → Bool → Bool} (hf : f false false = false) {a b : List Span} {m : List Int} (h : AllOk a b m) {k : Nat} {out : List Span} (ht : Tried f a b 1099511627776 k out) (hk : k + 2 ≤ m.length + 1) : IsOf f a b out := by
  refine ⟨ht.ord, fun t => ?_, ?_⟩
  · rw [ht.ord.has]
    by_cases c : t < 1099511627776
    · exact ht.set t c
    · rw [show f (hasB a t) (hasB b t) = gB f a b t from rfl, gB_far f hf a b t (.inr (by omega)), Bool.eq_false_iff]
      intro hh
      have := (Ord.any ht.ord hh).2
      omega
  · have := ht.len; have := h.len; omega
end Go.Proofs.Ytocnopgpdlfkjaa.Sp
