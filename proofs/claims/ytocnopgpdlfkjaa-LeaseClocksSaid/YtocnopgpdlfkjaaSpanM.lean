/- Spans: the plain mathematics of sets of places. -/
import Derived.Test.YtocnopgpdlfkjaaBase
namespace Go.Proofs.Ytocnopgpdlfkjaa.Sp
set_option linter.unusedVariables false

abbrev Span := Int × Int
def inB (s : Span) (t : Int) : Bool := decide (s.1 ≤ t ∧ t < s.2)
def hasB (l : List Span) (t : Int) : Bool := decide (0 ≤ t ∧ t < 1099511627776) && l.any fun s => inB s t
theorem inB_iff {s : Span} {t : Int} : inB s t = true ↔ s.1 ≤ t ∧ t < s.2 := by simp [inB]
theorem hasB_iff {l : List Span} {t : Int} : hasB l t = true ↔ 0 ≤ t ∧ t < 1099511627776 ∧ ∃ s ∈ l, s.1 ≤ t ∧ t < s.2 := by
  simp [hasB, inB, and_assoc]
/-- in order, behind a place -/
def Ord : Int → List Span → Prop
  | _, [] => True
  | lo, s :: l => lo < s.1 ∧ s.1 < s.2 ∧ s.2 ≤ 1099511627776 ∧ Ord s.2 l
def Ordered (l : List Span) : Prop := Ord (-1) l
theorem Ord.mono : ∀ {l : List Span} {a b : Int}, Ord b l → a ≤ b → Ord a l
  | [], _, _, _, _ => trivial
  | s :: l, a, b, h, hab => ⟨by have := h.1; omega, h.2⟩
theorem Ord.mem : ∀ {l : List Span} {lo : Int}, Ord lo l → ∀ s ∈ l, lo < s.1 ∧ s.1 < s.2 ∧ s.2 ≤ 1099511627776
  | [], _, _, s, hs => by simp at hs
  | r :: l, lo, h, s, hs => by
    rcases List.mem_cons.1 hs with rfl | hs
    · exact ⟨h.1, h.2.1, h.2.2.1⟩
    · have := Ord.mem h.2.2.2 s hs
      have h1 := h.1; have h2 := h.2.1
      exact ⟨by omega, this.2⟩
theorem Ord.any {l : List Span} {lo t : Int} (h : Ord lo l) (ht : (l.any fun s => inB s t) = true) : lo < t ∧ t < 1099511627776 := by
  obtain ⟨s, hs, hi⟩ := List.any_eq_true.1 ht
  have := h.mem s hs
  rw [inB_iff] at hi
  omega
theorem ord_uniq : ∀ {a b : List Span} {lo : Int}, Ord lo a → Ord lo b → (∀ t, (a.any fun s => inB s t) = b.any fun s => inB s t) → a = b
  | [], [], _, _, _, _ => rfl
  | [], r :: b, lo, ha, hb, h => by
    have := h r.1
    have h1 := hb.2.1
    simp [inB, h1] at this
  | s :: a, [], lo, ha, hb, h => by
    have := h s.1
    have h1 := ha.2.1
    simp [inB, h1] at this
  | s :: a, r :: b, lo, ha, hb, h => by
    obtain ⟨f, t⟩ := s
    obtain ⟨g, u⟩ := r
    obtain ⟨a1, a2, a3, a4⟩ := ha
    obtain ⟨b1, b2, b3, b4⟩ := hb
    simp only at *
    have key : ∀ {p q x y : Int} {k m : List Span}, p < q → Ord q k → Ord y m → p < x → (((p, q) :: k).any fun s => inB s p) = ((x, y) :: m).any (fun s => inB s p) → x < y → False := fun {p q x y k m} h1 h2 h3 h4 h5 h6 => by
      have e : (((p, q) :: k).any fun s => inB s p) = true := by simp [inB, h1]
      rw [e] at h5
      have h5 := h5.symm
      rw [List.any_cons, Bool.or_eq_true] at h5
      rcases h5 with h5 | h5
      · rw [inB_iff] at h5; simp only at h5; omega
      · have := Ord.any h3 h5; omega
    have hfg : f = g := by
      rcases Int.lt_trichotomy f g with h1 | h1 | h1
      · exact absurd (key a2 a4 b4 h1 (h f) b2) id
      · exact h1
      · exact absurd (key b2 b4 a4 h1 (h g).symm a2) id
    subst hfg
    have key2 : ∀ {p q y : Int} {k m : List Span}, p < q → q < y → Ord q k → (((p, q) :: k).any fun s => inB s q) = ((p, y) :: m).any (fun s => inB s q) → False := fun {p q y k m} h1 h2 h3 h5 => by
      have e : (((p, y) :: m).any fun s => inB s q) = true := by simp [inB]; left; omega
      rw [e, List.any_cons, Bool.or_eq_true] at h5
      rcases h5 with h5 | h5
      · rw [inB_iff] at h5; simp only at h5; omega
      · have := Ord.any h3 h5; omega
    have htu : t = u := by
      rcases Int.lt_trichotomy t u with h1 | h1 | h1
      · exact absurd (key2 a2 h1 a4 (h t)) id
      · exact h1
      · exact absurd (key2 b2 h1 b4 (h u).symm) id
    subst htu
    have := ord_uniq (lo := t) a4 b4 fun p => by
      by_cases hp : t < p
      · have := h p
        have e : inB (f, t) p = false := by simp [inB]; omega
        simpa [List.any_cons, e] using this
      · have e1 : (a.any fun s => inB s p) = false := by
          rw [Bool.eq_false_iff]; intro hh; exact hp (Ord.any a4 hh).1
        have e2 : (b.any fun s => inB s p) = false := by
          rw [Bool.eq_false_iff]; intro hh; exact hp (Ord.any b4 hh).1
        rw [e1, e2]
    rw [this]
theorem Ordered.has {l : List Span} (h : Ordered l) (t : Int) : hasB l t = l.any fun s => inB s t := by
  unfold hasB
  by_cases e : (l.any fun s => inB s t) = true
  · have := Ord.any h e
    rw [e, decide_eq_true (by omega)]; rfl
  · rw [Bool.eq_false_iff.2 e]; simp
theorem ordered_uniq {a b : List Span} (ha : Ordered a) (hb : Ordered b) (h : ∀ t, hasB a t = hasB b t) : a = b :=
  ord_uniq ha hb fun t => by rw [← ha.has, ← hb.has]; exact h t

/-- the spans in order of the places that count -/
structure IsOf (f : Bool → Bool → Bool) (a b l : List Span) : Prop where
  ord : Ordered l
  set : ∀ t, hasB l t = f (hasB a t) (hasB b t)
  len : l.length ≤ 2 * (a.length + b.length) + 1
noncomputable def ofL (f : Bool → Bool → Bool) (a b : List Span) : List Span := @Classical.epsilon _ ⟨[]⟩ (IsOf f a b)
theorem IsOf.eq {f : Bool → Bool → Bool} {a b l m : List Span} (h : IsOf f a b l) (k : IsOf f a b m) : l = m :=
  ordered_uniq h.ord k.ord fun t => by rw [h.set, k.set]
theorem IsOf.is {f : Bool → Bool → Bool} {a b l : List Span} (h : IsOf f a b l) : l = ofL f a b ∧ IsOf f a b (ofL f a b) := by
  have := @Classical.epsilon_spec _ (IsOf f a b) ⟨l, h⟩
  exact ⟨h.eq this, this⟩
def fOr (a b : Bool) : Bool := a || b
def fCut (a b : Bool) : Bool := a && !b
def fAnd (a b : Bool) : Bool := a && b

/-- spans one behind the other -/
theorem Ord.snoc : ∀ {l : List Span} {lo : Int} {f t : Int}, Ord lo l → (∀ s ∈ l, s.2 < f) → lo < f → f < t → t ≤ 1099511627776 → Ord lo (l ++ [(f, t)])
  | [], lo, f, t, h, hl, h1, h2, h3 => ⟨h1, h2, h3, trivial⟩
  | s :: l, lo, f, t, h, hl, h1, h2, h3 => ⟨h.1, h.2.1, h.2.2.1, Ord.snoc h.2.2.2 (fun r hr => hl r (by simp [hr])) (hl s (by simp)) h2 h3⟩
/-- the last one made longer -/
theorem Ord.last : ∀ {l : List Span} {lo : Int} {f t u : Int}, Ord lo (l ++ [(f, t)]) → t ≤ u → u ≤ 1099511627776 → Ord lo (l ++ [(f, u)])
  | [], lo, f, t, u, h, h1, h2 => ⟨h.1, by have := h.2.1; simp only at this ⊢; omega, h2, trivial⟩
  | s :: l, lo, f, t, u, h, h1, h2 => ⟨h.1, h.2.1, h.2.2.1, Ord.last h.2.2.2 h1 h2⟩

/-- sizes -/
def sizeL (l : List Span) : Int := (l.map fun s => s.2 - s.1).sum
theorem sizeL_snoc (l : List Span) (s : Span) : sizeL (l ++ [s]) = sizeL l + (s.2 - s.1) := by simp [sizeL]
theorem sizeL_nonneg : ∀ {l : List Span} {lo : Int}, Ord lo l → 0 ≤ sizeL l
  | [], _, _ => by simp [sizeL]
  | s :: l, lo, h => by
    have := sizeL_nonneg h.2.2.2
    have := h.2.1
    simp only [sizeL, List.map_cons, List.sum_cons] at *
    omega
theorem sizeL_le : ∀ {l : List Span} {lo : Int}, Ord lo l → lo ≤ 1099511627776 → sizeL l ≤ 1099511627776 - lo
  | [], _, _, h => by simp [sizeL]; omega
  | s :: l, lo, h, hl => by
    have := sizeL_le h.2.2.2 h.2.2.1
    have := h.1
    simp only [sizeL, List.map_cons, List.sum_cons] at *
    omega
theorem sizeL_take_le {l : List Span} {lo : Int} (h : Ord lo l) (k : Nat) (hl : lo ≤ 1099511627776) : 0 ≤ sizeL (l.take k) ∧ sizeL (l.take k) ≤ 1099511627776 - lo := by
  have : Ord lo (l.take k) := by
    induction l generalizing lo k with
    | nil => simpa using h
    | cons s l ih =>
      cases k with
      | zero => exact trivial
      | succ k => exact ⟨h.1, h.2.1, h.2.2.1, ih h.2.2.2 k h.2.2.1⟩
  exact ⟨sizeL_nonneg this, sizeL_le this hl⟩
/-- .. as a number of places from p on -/
def cnt (g : Int → Bool) : Nat → Int → Int
  | 0, _ => 0
  | n + 1, p => (if g p then 1 else 0) + cnt g n (p + 1)
theorem cnt_congr {g k : Int → Bool} : ∀ (n : Nat) (p : Int), (∀ t, p ≤ t → g t = k t) → cnt g n p = cnt k n p
  | 0, _, _ => rfl
  | n + 1, p, h => by rw [cnt, cnt, h p (by omega), cnt_congr n (p + 1) fun t ht => h t (by omega)]
theorem cnt_add (g k : Int → Bool) : ∀ (n : Nat) (p : Int), cnt (fun t => g t && !k t) n p + cnt (fun t => g t && k t) n p = cnt g n p
  | 0, _ => rfl
  | n + 1, p => by
    have := cnt_add g k n (p + 1)
    rw [cnt, cnt, cnt]
    cases g p <;> cases k p <;> simp <;> omega
theorem cnt_or (g k : Int → Bool) : ∀ (n : Nat) (p : Int), cnt (fun t => g t || k t) n p + cnt (fun t => g t && k t) n p = cnt g n p + cnt k n p
  | 0, _ => rfl
  | n + 1, p => by
    have := cnt_or g k n (p + 1)
    rw [cnt, cnt, cnt, cnt]
    cases g p <;> cases k p <;> simp <;> omega
theorem cnt_none (g : Int → Bool) : ∀ (n : Nat) (p : Int), (∀ t, p ≤ t → t < p + n → g t = false) → cnt g n p = 0
  | 0, _, _ => rfl
  | n + 1, p, h => by rw [cnt, h p (by omega) (by omega), cnt_none g n (p + 1) fun t h1 h2 => h t (by omega) (by omega)]; simp
theorem cnt_all (g : Int → Bool) : ∀ (n : Nat) (p : Int), (∀ t, p ≤ t → t < p + n → g t = true) → cnt g n p = n
  | 0, _, _ => rfl
  | n + 1, p, h => by rw [cnt, h p (by omega) (by omega), cnt_all g n (p + 1) fun t h1 h2 => h t (by omega) (by omega)]; simp; omega
theorem cnt_split (g : Int → Bool) : ∀ (n m : Nat) (p : Int), cnt g (n + m) p = cnt g n p + cnt g m (p + n)
  | 0, m, p => by simp [cnt]
  | n + 1, m, p => by
    rw [show n + 1 + m = (n + m) + 1 by omega, cnt, cnt, cnt_split g n m (p + 1), show p + 1 + (n : Int) = p + ((n + 1 : Nat) : Int) by omega]
    omega
theorem size_cnt : ∀ {l : List Span} {lo : Int} {p : Int} {n : Nat}, Ord lo l → lo ≤ p → (∀ s ∈ l, p ≤ s.1) → p + n = 1099511627776 → sizeL l = cnt (fun t => l.any fun s => inB s t) n p
  | [], lo, p, n, h, hp, _, hn => by rw [cnt_none]; · rfl
                                     · intro t _ _; rfl
  | s :: l, lo, p, n, h, hp, hs, hn => by
    obtain ⟨h1, h2, h3, h4⟩ := h
    have hps : p ≤ s.1 := hs s (by simp)
    obtain ⟨a, ha⟩ : ∃ a : Nat, (a : Int) = s.1 - p := ⟨(s.1 - p).toNat, by omega⟩
    obtain ⟨b, hb⟩ : ∃ b : Nat, (b : Int) = s.2 - s.1 := ⟨(s.2 - s.1).toNat, by omega⟩
    obtain ⟨c, hc⟩ : ∃ c : Nat, (c : Int) = 1099511627776 - s.2 := ⟨(1099511627776 - s.2).toNat, by omega⟩
    obtain rfl : n = a + (b + c) := by omega
    have e1 : p + (a : Int) = s.1 := by omega
    have e2 : s.1 + (b : Int) = s.2 := by omega
    rw [cnt_split, cnt_split, e1, e2]
    have ht : ∀ t, t ≤ s.2 → (l.any fun s => inB s t) = false := fun t ht => by
      rw [Bool.eq_false_iff]; intro hh; have := (Ord.any h4 hh).1; omega
    rw [cnt_none _ a p (fun t h5 h6 => by rw [List.any_cons, ht t (by omega)]; simp [inB]; omega), cnt_all _ b s.1 (fun t h5 h6 => by rw [List.any_cons]; simp [inB]; left; omega)]
    have e3 : cnt (fun t => (s :: l).any fun s => inB s t) c s.2 = cnt (fun t => l.any fun s => inB s t) c s.2 := cnt_congr c s.2 fun t h5 => by
      rw [List.any_cons]
      have : inB s t = false := by simp [inB]; omega
      rw [this]; rfl
    rw [e3, ← size_cnt (lo := s.2) h4 (Int.le_refl _) (fun r hr => by have := h4.mem r hr; omega) (by omega)]
    simp only [sizeL, List.map_cons, List.sum_cons]
    omega
def CN : Nat := 1099511627776
theorem size_ordered {l : List Span} (h : Ordered l) : sizeL l = cnt (hasB l) CN 0 := by
  have := size_cnt (p := 0) (n := CN) h (by omega) (fun s hs => by have := h.mem s hs; omega) (by decide)
  rw [this]
  exact cnt_congr _ _ fun t _ => (h.has t).symm
theorem size_cut {a b l m n : List Span} (ha : Ordered n) (hn : ∀ t, hasB n t = hasB a t) (hl : IsOf fCut a b l) (hm : IsOf fAnd a b m) : sizeL l + sizeL m = sizeL n := by
  rw [size_ordered hl.ord, size_ordered hm.ord, size_ordered ha, cnt_congr (k := fun t => hasB a t && !hasB b t) _ _ fun t _ => hl.set t, cnt_congr (g := hasB m) (k := fun t => hasB a t && hasB b t) _ _ fun t _ => hm.set t, cnt_congr (g := hasB n) (k := hasB a) _ _ fun t _ => hn t]
  exact cnt_add _ _ _ _
theorem size_add {a b l m n r : List Span} (ha : Ordered n) (hn : ∀ t, hasB n t = hasB a t) (hb : Ordered r) (hr : ∀ t, hasB r t = hasB b t) (hl : IsOf fOr a b l) (hm : IsOf fAnd a b m) : sizeL l + sizeL m = sizeL n + sizeL r := by
  rw [size_ordered hl.ord, size_ordered hm.ord, size_ordered ha, size_ordered hb, cnt_congr (k := fun t => hasB a t || hasB b t) _ _ fun t _ => hl.set t, cnt_congr (g := hasB m) (k := fun t => hasB a t && hasB b t) _ _ fun t _ => hm.set t, cnt_congr (g := hasB n) (k := hasB a) _ _ fun t _ => hn t, cnt_congr (g := hasB r) (k := hasB b) _ _ fun t _ => hr t]
  exact cnt_or _ _ _ _
theorem size_zero {l : List Span} {lo : Int} (h : Ord lo l) : sizeL l = 0 ↔ l = [] := by
  cases l with
  | nil => simp [sizeL]
  | cons s l =>
    have := sizeL_nonneg h.2.2.2
    have := h.2.1
    simp only [sizeL, List.map_cons, List.sum_cons] at *
    constructor
    · intro e; omega
    · intro e; cases e
end Go.Proofs.Ytocnopgpdlfkjaa.Sp
