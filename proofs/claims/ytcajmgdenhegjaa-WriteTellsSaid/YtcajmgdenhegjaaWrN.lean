/- Written bytes: the plain mathematics (stage 24). Bytes are letters of any type with a zero. -/
import Derived.Test.YtcajmgdenhegjaaBase
namespace Go.Proofs.Ytcajmgdenhegjaa.Wr
open Go.RowKit Go.Proofs.Ytcajmgdenhegjaa
set_option linter.unusedVariables false

/-- a file, zeros behind it, so long that n bytes stand -/
def padL (F : List Int) (n : Nat) : List Int := F ++ List.replicate (n - F.length) 0
/-- bytes laid at k -/
def layL (F : List Int) (k : Nat) (d : List Int) : List Int :=
  (padL F (k + d.length)).take k ++ d ++ (padL F (k + d.length)).drop (k + d.length)

theorem padL_length (F : List Int) (n : Nat) : (padL F n).length = max F.length n := by
  unfold padL; simp; omega
theorem padL_get (F : List Int) (n i : Nat) : (padL F n).getD i 0 = F.getD i 0 := by
  unfold padL
  simp only [List.getD_eq_getElem?_getD]
  by_cases h : i < F.length
  · rw [List.getElem?_append_left h]
  · rw [List.getElem?_append_right (by omega), List.getElem?_eq_none (l := F) (by omega)]
    by_cases h2 : i - F.length < n - F.length
    · rw [List.getElem?_replicate_of_lt h2]; rfl
    · rw [List.getElem?_eq_none (by simp; omega)]
theorem padL_same {F : List Int} {n : Nat} (h : n ≤ F.length) : padL F n = F := by
  unfold padL; rw [Nat.sub_eq_zero_of_le h]; simp
theorem layL_length (F : List Int) (k : Nat) (d : List Int) : (layL F k d).length = max F.length (k + d.length) := by
  unfold layL; simp only [List.length_append, List.length_take, List.length_drop, padL_length]; omega
theorem layL_get (F : List Int) (k : Nat) (d : List Int) (i : Nat) :
    (layL F k d).getD i 0 = if k ≤ i ∧ i < k + d.length then d.getD (i - k) 0 else F.getD i 0 := by
  have hp := padL_length F (k + d.length)
  have hg := padL_get F (k + d.length)
  unfold layL
  generalize padL F (k + d.length) = P at hp hg
  rw [← hg i]
  simp only [List.getD_eq_getElem?_getD]
  by_cases h1 : i < k
  · rw [if_neg (by omega), List.append_assoc, List.getElem?_append_left (by simp; omega), List.getElem?_take_of_lt h1]
  · by_cases h2 : i < k + d.length
    · rw [if_pos ⟨by omega, h2⟩, List.append_assoc, List.getElem?_append_right (by simp; omega), List.getElem?_append_left (by simp; omega)]
      have : (List.take k P).length = k := by simp; omega
      rw [this]
    · rw [if_neg (by omega), List.getElem?_append_right (by simp; omega), List.getElem?_drop]
      have : k + d.length + (i - (List.take k P ++ d).length) = i := by simp; omega
      rw [this]
theorem getD_ext {A B : List Int} (hl : A.length = B.length) (h : ∀ i, A.getD i 0 = B.getD i 0) : A = B := by
  apply List.ext_getElem hl
  intro i h1 h2
  have := h i
  simp only [List.getD_eq_getElem?_getD, List.getElem?_eq_getElem h1, List.getElem?_eq_getElem h2] at this
  exact this

/-- byte by byte: the reference's way -/
def byB (F : List Int) (k : Nat) (d : List Int) (n : Nat) : List Int := if n = 0 then F else layL F k (d.take n)
theorem byB_zero (F : List Int) (k : Nat) (d : List Int) : byB F k d 0 = F := rfl
theorem byB_all (F : List Int) (k : Nat) (d : List Int) (h : d ≠ []) : byB F k d d.length = layL F k d := by
  unfold byB
  rw [if_neg (by intro e; exact h (List.length_eq_zero_iff.1 e)), List.take_length]
theorem byB_length (F : List Int) (k : Nat) (d : List Int) (n : Nat) (hn : n ≤ d.length) :
    (byB F k d n).length = if n = 0 then F.length else max F.length (k + n) := by
  unfold byB
  split
  · rfl
  · rw [layL_length, List.length_take]; omega
theorem set_getD (A : List Int) (j : Nat) (x : Int) (i : Nat) (hj : j < A.length) : (A.set j x).getD i 0 = if i = j then x else A.getD i 0 := by
  simp only [List.getD_eq_getElem?_getD]
  by_cases h : i = j
  · subst h; rw [if_pos rfl, List.getElem?_set_self hj]; rfl
  · rw [if_neg h, List.getElem?_set_ne (fun e => h e.symm)]
theorem byB_step (F : List Int) (k : Nat) (d : List Int) (n : Nat) (hn : n < d.length) :
    byB F k d (n + 1) = (padL (byB F k d n) (k + n + 1)).set (k + n) (d.getD n 0) := by
  have hl := byB_length F k d n (by omega)
  have hl1 := byB_length F k d (n + 1) (by omega)
  rw [if_neg (by omega)] at hl1
  apply getD_ext
  · rw [hl1, List.length_set, padL_length, hl]; split <;> omega
  · intro i
    rw [set_getD _ _ _ _ (by rw [padL_length]; omega), padL_get]
    unfold byB
    rw [if_neg (by omega), layL_get]
    have ht : (d.take (n + 1)).length = n + 1 := by rw [List.length_take]; omega
    rw [ht]
    have hd : ∀ j, j < n + 1 → (d.take (n + 1)).getD j 0 = d.getD j 0 := by
      intro j hj; simp only [List.getD_eq_getElem?_getD, List.getElem?_take_of_lt hj]
    by_cases h : i = k + n
    · subst h; rw [if_pos rfl, if_pos ⟨by omega, by omega⟩, hd _ (by omega)]; congr 1; omega
    · rw [if_neg h]
      by_cases hn0 : n = 0
      · subst hn0; rw [if_pos rfl, if_neg (by omega)]
      · rw [if_neg hn0, layL_get]
        have ht2 : (d.take n).length = n := by rw [List.length_take]; omega
        rw [ht2]
        by_cases h3 : k ≤ i ∧ i < k + n
        · rw [if_pos h3, if_pos ⟨h3.1, by omega⟩, hd _ (by omega)]
          simp only [List.getD_eq_getElem?_getD, List.getElem?_take_of_lt (show i - k < n by omega)]
        · rw [if_neg h3, if_neg (by omega)]

/-- a piece: whose, where, what -/
structure Pc where
  i : Int
  f : Int
  d : List Int
deriving DecidableEq, Inhabited
def Pc.e (x : Pc) : Int := x.f + (x.d.length : Int)
/-- a piece that may be -/
def Pc.Right (x : Pc) : Prop := 1 ≤ x.i ∧ 0 ≤ x.f ∧ x.d ≠ [] ∧ x.e ≤ 4096
def layP (F : List Int) (x : Pc) : List Int := layL F x.f.toNat x.d
/-- two that meet, as one -/
def both (a b : Pc) : Pc :=
  ⟨a.i, min a.f b.f, layL (layL [] (a.f - min a.f b.f).toNat a.d) (b.f - min a.f b.f).toNat b.d⟩
/-- two meet -/
def Meet (a b : Pc) : Prop := b.f ≤ a.e ∧ a.f ≤ b.e
instance (a b : Pc) : Decidable (Meet a b) := by unfold Meet; exact inferInstance

theorem both_len {a b : Pc} (ha : 0 ≤ a.f) (hb : 0 ≤ b.f) : ((both a b).d.length : Int) = max a.e b.e - min a.f b.f := by
  unfold both Pc.e
  simp only [layL_length, List.length_nil]
  omega
theorem both_right {a b : Pc} (ha : a.Right) (hb : b.Right) : (both a b).Right := by
  have hl := both_len ha.2.1 hb.2.1
  obtain ⟨a1, a2, a3, a4⟩ := ha
  obtain ⟨b1, b2, b3, b4⟩ := hb
  have hp : 0 < a.d.length := List.length_pos_iff.2 a3
  have hq : 0 < b.d.length := List.length_pos_iff.2 b3
  have hf : (both a b).f = min a.f b.f := rfl
  refine ⟨a1, by rw [hf]; omega, ?_, ?_⟩
  · intro e; rw [e] at hl; unfold Pc.e at hl; simp at hl; omega
  · unfold Pc.e at *; rw [hl, hf]; omega
theorem lay_both (F : List Int) {a b : Pc} (ha : 0 ≤ a.f) (hb : 0 ≤ b.f) (hm : Meet a b) : layP F (both a b) = layP (layP F a) b := by
  have hl := both_len ha hb
  have hf : (both a b).f = min a.f b.f := rfl
  have hd : (both a b).d = layL (layL [] (a.f - min a.f b.f).toNat a.d) (b.f - min a.f b.f).toNat b.d := rfl
  unfold Meet Pc.e at hm
  unfold Pc.e at hl
  unfold layP
  apply getD_ext
  · simp only [layL_length]; rw [hf]; omega
  · intro i
    rw [layL_get, layL_get, layL_get, hd, layL_get, layL_get, ← hd, hf]
    by_cases h1 : b.f.toNat ≤ i ∧ i < b.f.toNat + b.d.length
    · rw [if_pos (by omega), if_pos (by omega), if_pos h1]; congr 1; omega
    · rw [if_neg h1]
      by_cases h2 : a.f.toNat ≤ i ∧ i < a.f.toNat + a.d.length
      · rw [if_pos (by omega), if_neg (by omega), if_pos (by omega), if_pos h2]; congr 1; omega
      · rw [if_neg h2, if_neg (by omega)]

/-- what is seen of a file -/
def seeL (l : List Pc) (n : Int) (F : List Int) : List Int := (l.filter (fun x => decide (x.i = n))).foldl layP F
theorem see_append (l m : List Pc) (n : Int) (F : List Int) : seeL (l ++ m) n F = seeL m n (seeL l n F) := by
  unfold seeL; rw [List.filter_append, List.foldl_append]
theorem see_nil (n : Int) (F : List Int) : seeL [] n F = F := rfl
theorem see_one (x : Pc) (n : Int) (F : List Int) : seeL [x] n F = if x.i = n then layP F x else F := by
  unfold seeL; by_cases h : x.i = n <;> simp [h]
theorem see_none {l : List Pc} {n : Int} (h : ∀ x ∈ l, x.i ≠ n) (F : List Int) : seeL l n F = F := by
  unfold seeL
  rw [List.filter_eq_nil_iff.2 (by intro x hx; simpa using h x hx)]; rfl

/-- the row is: before, the last of the piece's file, and others behind -/
structure LastAt (l : List Pc) (n : Int) (pre : List Pc) (p : Pc) (post : List Pc) : Prop where
  eq : l = pre ++ p :: post
  is : p.i = n
  no : ∀ x ∈ post, x.i ≠ n
theorem last_or (l : List Pc) (n : Int) : (∀ x ∈ l, x.i ≠ n) ∨ ∃ pre p post, LastAt l n pre p post := by
  induction l with
  | nil => exact .inl (by intro x hx; simp at hx)
  | cons y l ih =>
    rcases ih with h | ⟨pre, p, post, h1, h2, h3⟩
    · by_cases hy : y.i = n
      · exact .inr ⟨[], y, l, rfl, hy, h⟩
      · refine .inl (fun x hx => ?_)
        rcases List.mem_cons.1 hx with rfl | hx
        · exact hy
        · exact h x hx
    · exact .inr ⟨y :: pre, p, post, by rw [h1]; rfl, h2, h3⟩
theorem LastAt.uniq {l : List Pc} {n : Int} {pre pre' post post' : List Pc} {p p' : Pc} (h : LastAt l n pre p post) (h' : LastAt l n pre' p' post') :
    pre = pre' ∧ p = p' ∧ post = post' := by
  obtain ⟨e, i, o⟩ := h
  obtain ⟨e', i', o'⟩ := h'
  rw [e] at e'
  clear e
  induction pre generalizing pre' with
  | nil =>
    cases pre' with
    | nil => simp at e'; exact ⟨rfl, e'.1, e'.2⟩
    | cons y q => simp at e'; exact absurd i' (o p' (by rw [e'.2]; simp))
  | cons x r ih =>
    cases pre' with
    | nil => simp at e'; exact absurd i (o' p (by rw [← e'.2]; simp))
    | cons y q =>
      simp only [List.cons_append, List.cons.injEq] at e'
      obtain ⟨a, b, c⟩ := ih e'.2
      exact ⟨by rw [e'.1, a], b, c⟩

/-- what is dirty when a piece is put -/
inductive PutS (l : List Pc) (x : Pc) : List Pc → Prop
  | not : ¬ x.Right → PutS l x l
  | new : x.Right → (∀ y ∈ l, y.i ≠ x.i) → PutS l x (l ++ [x])
  | far : ∀ {pre p post}, x.Right → LastAt l x.i pre p post → ¬ Meet p x → PutS l x (l ++ [x])
  | meet : ∀ {pre p post}, x.Right → LastAt l x.i pre p post → Meet p x → PutS l x (pre ++ both p x :: post)
theorem PutS.uniq {l : List Pc} {x : Pc} {m m' : List Pc} (h : PutS l x m) (h' : PutS l x m') : m = m' := by
  cases h with
  | not n =>
    cases h' with
    | not _ => rfl
    | new r _ => exact absurd r n
    | far r _ _ => exact absurd r n
    | meet r _ _ => exact absurd r n
  | new r a =>
    cases h' with
    | not n => exact absurd r n
    | new _ _ => rfl
    | far _ _ _ => rfl
    | meet _ q _ => exact absurd q.is (a _ (by rw [q.eq]; simp))
  | far r q m =>
    cases h' with
    | not n => exact absurd r n
    | new _ _ => rfl
    | far _ _ _ => rfl
    | meet _ q' m' => obtain ⟨_, rfl, _⟩ := q.uniq q'; exact absurd m' m
  | meet r q m =>
    cases h' with
    | not n => exact absurd r n
    | new _ a => exact absurd q.is (a _ (by rw [q.eq]; simp))
    | far _ q' m' => obtain ⟨_, rfl, _⟩ := q.uniq q'; exact absurd m m'
    | meet _ q' _ => obtain ⟨rfl, rfl, rfl⟩ := q.uniq q'; rfl

def AllR (l : List Pc) : Prop := ∀ x ∈ l, x.Right
theorem PutS.right {l m : List Pc} {x : Pc} (h : PutS l x m) (hl : AllR l) : AllR m := by
  cases h with
  | not n => exact hl
  | new r _ => intro y hy; rcases List.mem_append.1 hy with hy | hy; exact hl y hy; simp at hy; subst hy; exact r
  | far r _ _ => intro y hy; rcases List.mem_append.1 hy with hy | hy; exact hl y hy; simp at hy; subst hy; exact r
  | meet r q _ =>
    intro y hy
    rcases List.mem_append.1 hy with hy | hy
    · exact hl y (by rw [q.eq]; simp [hy])
    · rcases List.mem_cons.1 hy with rfl | hy
      · exact both_right (hl _ (by rw [q.eq]; simp)) r
      · exact hl y (by rw [q.eq]; simp [hy])
theorem PutS.len {l m : List Pc} {x : Pc} (h : PutS l x m) : l.length ≤ m.length ∧ m.length ≤ l.length + 1 := by
  cases h with
  | not n => omega
  | new _ _ => simp
  | far _ _ _ => simp
  | meet _ q _ => rw [q.eq]; simp
/-- what is seen when a piece is put: its file with it, another file as it was -/
theorem PutS.see {l m : List Pc} {x : Pc} (h : PutS l x m) (hl : AllR l) (hx : x.Right) (n : Int) (F : List Int) :
    seeL m n F = if x.i = n then layP (seeL l n F) x else seeL l n F := by
  cases h with
  | not k => exact absurd hx k
  | new _ _ => rw [see_append, see_one]
  | far _ _ _ => rw [see_append, see_one]
  | @meet pre p post _ q hm =>
    have hp : p.Right := hl p (by rw [q.eq]; simp)
    have e1 : pre ++ both p x :: post = pre ++ ([both p x] ++ post) := by simp
    have e2 : l = pre ++ ([p] ++ post) := by rw [q.eq]; simp
    have hbi : (both p x).i = p.i := rfl
    rw [e1, e2, see_append, see_append, see_append, see_append, see_one, see_one, hbi]
    by_cases hn : x.i = n
    · have hpn : p.i = n := by rw [q.is]; exact hn
      have hq : ∀ G, seeL post n G = G := fun G => see_none (by rw [← hn]; exact q.no) G
      rw [if_pos hn, if_pos hpn, if_pos hpn, hq, hq, lay_both _ hp.2.1 hx.2.1 hm]
    · have hpn : ¬ p.i = n := by rw [q.is]; exact hn
      rw [if_neg hn, if_neg hpn, if_neg hpn]

/-- so many written back -/
theorem back_see (l : List Pc) (k : Nat) (n : Int) (F : List Int) : seeL (l.drop k) n (seeL (l.take k) n F) = seeL l n F := by
  rw [← see_append, List.take_append_drop]

/-- each beginning of what is dirty is what some beginning of what was written left -/
def Begins (F : List Int) (n : Int) (ws l : List Pc) : Prop :=
  (∀ k, ∃ t, t ≤ ws.length ∧ seeL (l.take k) n F = seeL (ws.take t) n F) ∧ seeL l n F = seeL ws n F
theorem begins_nil (F : List Int) (n : Int) : Begins F n [] [] := ⟨fun k => ⟨0, by simp, by simp⟩, rfl⟩
theorem begins_put {F : List Int} {n : Int} {ws l m : List Pc} {x : Pc} (h : Begins F n ws l) (hl : AllR l) (hx : x.Right) (hp : PutS l x m) : Begins F n (ws ++ [x]) m := by
  have hs := hp.see hl hx n F
  have hall : seeL m n F = seeL (ws ++ [x]) n F := by rw [hs, see_append, see_one, h.2]
  refine ⟨fun k => ?_, hall⟩
  have keep : ∀ j, ∃ t, t ≤ (ws ++ [x]).length ∧ seeL (l.take j) n F = seeL ((ws ++ [x]).take t) n F := by
    intro j
    obtain ⟨t, ht, e⟩ := h.1 j
    exact ⟨t, by simp; omega, by rw [e, List.take_append_of_le_length ht]⟩
  have last : ∃ t, t ≤ (ws ++ [x]).length ∧ seeL m n F = seeL ((ws ++ [x]).take t) n F := ⟨(ws ++ [x]).length, Nat.le_refl _, by rw [List.take_length, hall]⟩
  have app : m = l ++ [x] → ∃ t, t ≤ (ws ++ [x]).length ∧ seeL (m.take k) n F = seeL ((ws ++ [x]).take t) n F := by
    intro e
    by_cases hk : k ≤ l.length
    · rw [e, List.take_append_of_le_length hk]; exact keep k
    · rw [List.take_of_length_le (by rw [e]; simp; omega)]; exact last
  cases hp with
  | not c => exact absurd hx c
  | new _ _ => exact app rfl
  | far _ _ _ => exact app rfl
  | @meet pre p post _ q hm =>
    by_cases hk : k ≤ pre.length
    · have : (pre ++ both p x :: post).take k = l.take k := by
        rw [q.eq, List.take_append_of_le_length hk, List.take_append_of_le_length hk]
      rw [this]; exact keep k
    · obtain ⟨j, rfl⟩ : ∃ j, k = pre.length + (j + 1) := ⟨k - pre.length - 1, by omega⟩
      by_cases hn : x.i = n
      · have e : seeL ((pre ++ both p x :: post).take (pre.length + (j + 1))) n F = seeL (pre ++ both p x :: post) n F := by
          have e1 : (pre ++ both p x :: post).take (pre.length + (j + 1)) = (pre ++ [both p x]) ++ post.take j := by
            rw [List.take_length_add_append]; simp
          have e2 : pre ++ both p x :: post = (pre ++ [both p x]) ++ post := by simp
          rw [e1, e2, see_append, see_append _ post, see_none (l := post) (by rw [← hn]; exact q.no), see_none (by intro y hy; rw [← hn]; exact q.no y (List.mem_of_mem_take hy))]
        rw [e]; exact last
      · have e : seeL ((pre ++ both p x :: post).take (pre.length + (j + 1))) n F = seeL (l.take (pre.length + (j + 1))) n F := by
          have e1 : (pre ++ both p x :: post).take (pre.length + (j + 1)) = pre ++ ([both p x] ++ post.take j) := by
            rw [List.take_length_add_append]; simp
          have e2 : l.take (pre.length + (j + 1)) = pre ++ ([p] ++ post.take j) := by
            rw [q.eq, List.take_length_add_append]; simp
          have hbi : (both p x).i = p.i := rfl
          rw [e1, e2, see_append, see_append, see_append, see_append, see_one, see_one, hbi, if_neg (by rw [q.is]; exact hn), if_neg (by rw [q.is]; exact hn)]
        rw [e]; exact keep _

/-- the last one's place -/
theorem lastAt_idx {l : List Pc} {n : Int} {j : Nat} {x : Pc} (hj : l[j]? = some x) (hx : x.i = n) (hno : ∀ (k : Nat) (y : Pc), j < k → l[k]? = some y → y.i ≠ n) :
    LastAt l n (l.take j) x (l.drop (j + 1)) := by
  obtain ⟨hlt, e⟩ := List.getElem?_eq_some_iff.1 hj
  refine ⟨?_, hx, ?_⟩
  · rw [← e, ← List.drop_eq_getElem_cons hlt, List.take_append_drop]
  · intro y hy
    obtain ⟨k, hk⟩ := List.mem_iff_getElem?.1 hy
    rw [List.getElem?_drop] at hk
    exact hno _ y (by omega) hk
theorem set_cut {l : List Pc} {j : Nat} {x : Pc} (y : Pc) (hj : l[j]? = some x) : l.set j y = l.take j ++ y :: l.drop (j + 1) := by
  obtain ⟨hlt, _⟩ := List.getElem?_eq_some_iff.1 hj
  rw [List.set_eq_take_append_cons_drop, if_pos hlt]
/-- all writes put, one by one -/
inductive Puts : List Pc → List Pc → Prop
  | nil : Puts [] []
  | snoc : ∀ {ws l m x}, Puts ws l → PutS l x m → Puts (ws ++ [x]) m
theorem Puts.all {ws l : List Pc} (h : Puts ws l) (hw : AllR ws) : AllR l ∧ l.length ≤ ws.length ∧ ∀ F n, Begins F n ws l := by
  induction h with
  | nil => exact ⟨hw, by omega, fun F n => begins_nil F n⟩
  | @snoc ws l m x _ hp ih =>
    obtain ⟨h1, h2, h3⟩ := ih (fun y hy => hw y (by simp [hy]))
    have hx := hw x (by simp)
    have := hp.len
    exact ⟨hp.right h1, by simp; omega, fun F n => begins_put (h3 F n) h1 hx hp⟩
end Go.Proofs.Ytcajmgdenhegjaa.Wr
