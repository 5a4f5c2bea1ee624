/- Jobs: picked and in order, the plain mathematics. -/
import Derived.Test.YtlbpgaoindkgbaaMeB
namespace Go.Proofs.Ytlbpgaoindkgbaa.Me
open Go.RowKit Go.Proofs.Ytlbpgaoindkgbaa Go.Sort
set_option linter.unusedVariables false

def seenB (S : List Jb) (x : Jb) : Bool := decide (∃ y ∈ S, y.i = x.i ∧ y.t = x.t)
def pickS (S : List Jb) (x : Jb) : List Jb := if mayB x = true then (if seenB S x = true then S else S ++ [x]) else S
def pickL (l : List Jb) : List Jb := l.foldl pickS []
theorem pick_snoc (l : List Jb) (k : Nat) (x : Jb) (h : l[k]? = some x) : pickL (l.take (k + 1)) = pickS (pickL (l.take k)) x := by
  unfold pickL; rw [List.take_add_one, h]; simp [List.foldl_append]
theorem pickS_len (S : List Jb) (x : Jb) : (pickS S x).length ≤ S.length + 1 := by unfold pickS; split <;> (try split) <;> simp
theorem pick_len (l : List Jb) (k : Nat) : (pickL (l.take k)).length ≤ k := by
  induction k with
  | zero => simp [pickL]
  | succ k ih =>
    by_cases h : k < l.length
    · rw [pick_snoc l k l[k] (List.getElem?_eq_getElem h)]
      have := pickS_len (pickL (l.take k)) l[k]
      omega
    · rw [List.take_of_length_le (by omega)]; rw [List.take_of_length_le (by omega)] at ih; omega
/-- no two of one target; each may be -/
def TarInj (S : List Jb) : Prop := ∀ a ∈ S, ∀ b ∈ S, a.i = b.i → a.t = b.t → a = b
def AllMay (S : List Jb) : Prop := ∀ a ∈ S, mayB a = true
theorem pickS_inj {S : List Jb} {x : Jb} (h : TarInj S) : TarInj (pickS S x) := by
  unfold pickS
  split
  · split
    · exact h
    · rename_i hs
      have hn : ∀ y ∈ S, ¬ (y.i = x.i ∧ y.t = x.t) := fun y hy e => hs (decide_eq_true ⟨y, hy, e⟩)
      intro a ha b hb e1 e2
      rcases List.mem_append.1 ha with ka | ka <;> rcases List.mem_append.1 hb with kb | kb
      · exact h a ka b kb e1 e2
      · simp at kb; subst kb; exact absurd ⟨e1, e2⟩ (hn a ka)
      · simp at ka; subst ka; exact absurd ⟨e1.symm, e2.symm⟩ (hn b kb)
      · simp at ka kb; rw [ka, kb]
  · exact h
theorem pickS_may {S : List Jb} {x : Jb} (h : AllMay S) : AllMay (pickS S x) := by
  unfold pickS
  split
  · rename_i hm
    split
    · exact h
    · intro a ha
      rcases List.mem_append.1 ha with ha | ha
      · exact h a ha
      · simp at ha; subst ha; exact hm
  · exact h
theorem pick_both (l : List Jb) : ∀ (S : List Jb), TarInj S → AllMay S → TarInj (l.foldl pickS S) ∧ AllMay (l.foldl pickS S) := by
  induction l with
  | nil => exact fun S h k => ⟨h, k⟩
  | cons x l ih => exact fun S h k => ih _ (pickS_inj h) (pickS_may k)
theorem pick_inj (l : List Jb) : TarInj (pickL l) := (pick_both l [] (by intro a h; simp at h) (by intro a h; simp at h)).1
theorem pick_may (l : List Jb) : AllMay (pickL l) := (pick_both l [] (by intro a h; simp at h) (by intro a h; simp at h)).2
theorem pickS_sub (S : List Jb) (x a : Jb) (h : a ∈ pickS S x) : a ∈ S ∨ a = x := by
  unfold pickS at h
  split at h
  · split at h
    · exact .inl h
    · rcases List.mem_append.1 h with h | h
      · exact .inl h
      · simp at h; exact .inr h
  · exact .inl h
theorem pick_sub (l : List Jb) : ∀ (S : List Jb) (a : Jb), a ∈ l.foldl pickS S → a ∈ S ∨ a ∈ l := by
  induction l with
  | nil => exact fun S a h => .inl h
  | cons x l ih =>
    intro S a h
    rcases ih _ a h with h | h
    · rcases pickS_sub S x a h with h | h
      · exact .inl h
      · exact .inr (by simp [h])
    · exact .inr (by simp [h])
theorem pick_wf {l : List Jb} (h : ∀ x ∈ l, JbWf x) : ∀ x ∈ pickL l, JbWf x := fun x hx => by
  rcases pick_sub l [] x hx with h1 | h1
  · simp at h1
  · exact h x h1
/-- put in order -/
def insL (x : Jb) : List Jb → List Jb
  | [] => [x]
  | y :: m => if aheadB y x = true then y :: insL x m else x :: y :: m
def ordS (S : List Jb) : List Jb := S.foldl (fun out x => insL x out) []
def ordL (l : List Jb) : List Jb := ordS (pickL l)
def LeJ (a b : Jb) : Prop := aheadB b a = false
theorem ahead_asym {x y : Jb} (h : aheadB x y = true) : aheadB y x = false := by
  unfold aheadB at *
  rw [decide_eq_true_iff] at h
  rw [decide_eq_false_iff_not]
  omega
theorem ahead_anti {x y : Jb} (h : aheadB x y = false) (k : aheadB y x = false) : x.h = y.h ∧ x.i = y.i ∧ x.t = y.t := by
  unfold aheadB at *
  rw [decide_eq_false_iff_not] at h k
  omega
theorem ins_perm (x : Jb) : ∀ L : List Jb, (insL x L).Perm (x :: L)
  | [] => List.Perm.refl _
  | y :: m => by
    unfold insL
    split
    · exact ((ins_perm x m).cons y).trans (List.Perm.swap x y m)
    · exact List.Perm.refl _
theorem ins_sorted (x : Jb) : ∀ {L : List Jb}, L.Pairwise LeJ → (insL x L).Pairwise LeJ
  | [], _ => by simp [insL]
  | y :: m, h => by
    rw [List.pairwise_cons] at h
    unfold insL
    split
    · rename_i ha
      rw [List.pairwise_cons]
      refine ⟨fun z hz => ?_, ins_sorted x h.2⟩
      rcases List.mem_cons.1 ((ins_perm x m).mem_iff.1 hz) with rfl | hz
      · exact ahead_asym ha
      · exact h.1 z hz
    · rename_i ha
      have ha' : aheadB y x = false := by simpa using ha
      rw [List.pairwise_cons, List.pairwise_cons]
      refine ⟨fun z hz => ?_, h⟩
      rcases List.mem_cons.1 hz with rfl | hz
      · exact ha'
      · exact ahead_ntrans (h.1 z hz) ha'
theorem ordS_fold : ∀ (l out : List Jb), out.Pairwise LeJ → (l.foldl (fun out x => insL x out) out).Pairwise LeJ ∧ (l.foldl (fun out x => insL x out) out).Perm (out ++ l)
  | [], out, h => ⟨h, by simp⟩
  | x :: l, out, h => by
    obtain ⟨h1, h2⟩ := ordS_fold l (insL x out) (ins_sorted x h)
    refine ⟨h1, h2.trans ?_⟩
    exact (((ins_perm x out).append_right l).trans (List.perm_middle.symm))
theorem ordS_perm (S : List Jb) : (ordS S).Perm S := by have h := (ordS_fold S [] List.Pairwise.nil).2; exact h
theorem ordS_sorted (S : List Jb) : (ordS S).Pairwise LeJ := (ordS_fold S [] List.Pairwise.nil).1
theorem ord_unique {S L M : List Jb} (hS : TarInj S) (h1 : L.Perm S) (h2 : M.Perm S) (k1 : L.Pairwise LeJ) (k2 : M.Pairwise LeJ) : L = M :=
  List.Perm.eq_of_pairwise (fun a b ha hb e1 e2 => by
    obtain ⟨_, e3, e4⟩ := ahead_anti e1 e2
    exact (hS b (h2.mem_iff.1 hb) a (h1.mem_iff.1 ha) e3 e4).symm) k1 k2 (h1.trans h2.symm)
theorem ord_is {l L : List Jb} (h1 : L.Perm (pickL l)) (h2 : L.Pairwise LeJ) : L = ordL l := ord_unique (pick_inj l) h1 (ordS_perm _) h2 (ordS_sorted _)
theorem ord_mem {l : List Jb} {x : Jb} : x ∈ ordL l ↔ x ∈ pickL l := (ordS_perm _).mem_iff
theorem ord_len (l : List Jb) : (ordL l).length = (pickL l).length := (ordS_perm _).length_eq
theorem ord_wf {l : List Jb} (h : ∀ x ∈ l, JbWf x) : ∀ x ∈ ordL l, JbWf x := fun x hx => pick_wf h x (ord_mem.1 hx)
theorem ord_le (l : List Jb) : (ordL l).length ≤ l.length := by
  rw [ord_len]
  have := pick_len l l.length
  rwa [List.take_length] at this
theorem sorted_is {l L : List Jb} {d' : Array Jb} (hL : L = pickL l) (hp : PermIn 0 L.toArray.size L.toArray d') (hs : SortedIn (ltOf cmpJ) 0 L.toArray.size d') : d'.toList = ordL l := by
  obtain ⟨h1, _, h3⟩ := hp
  have e1 : d'.extract 0 L.toArray.size = d' := by rw [← h1, Array.extract_size]
  have e2 : L.toArray.extract 0 L.toArray.size = L.toArray := Array.extract_size
  rw [e1, e2] at h3
  refine ord_is (h3.trans (by rw [hL])) ?_
  rw [List.pairwise_iff_getElem]
  intro i j hi hj hij
  have := hs i j (Nat.zero_le _) hij (by rw [← h1]; simpa using hj)
  rw [ltJ, getElem!_pos d' j (by simpa using hj), getElem!_pos d' i (by simpa using hi)] at this
  simpa [LeJ] using this
end Go.Proofs.Ytlbpgaoindkgbaa.Me
