/- Jobs: the plain mathematics. -/
import Derived.Test.YtlbpgaoindkgbaaPlain
import Derived.Lib.Small
namespace Go.Proofs.Ytlbpgaoindkgbaa.Me
open Go.RowKit Go.Proofs.Ytlbpgaoindkgbaa
set_option linter.unusedVariables false

/-- a job: id, version, from, to, have, left -/
structure Jb where
  i : Int
  v : Int
  f : Int
  t : Int
  h : Int
  l : Int
deriving DecidableEq, Inhabited
def encJ (x : Jb) : List Value := [.int .i64 x.i, .int .i64 x.v, .int .i64 x.f, .int .i64 x.t, .int .i64 x.h, .int .i64 x.l]
def JbWf (x : Jb) : Prop := (Lit.int .i64 x.i).wf = true ∧ (Lit.int .i64 x.v).wf = true ∧ (Lit.int .i64 x.f).wf = true ∧ (Lit.int .i64 x.t).wf = true ∧ (Lit.int .i64 x.h).wf = true ∧ (Lit.int .i64 x.l).wf = true
def LJb : Lay Jb where
  size := 6
  pos := by omega
  R := fun _ cs x => cs = encJ x ∧ JbWf x
  len := fun h => by rw [h.1]; rfl
  ext := fun h _ => h
  one := fun h => by rw [h.1]; intro u hu; simp [encJ] at hu; rcases hu with rfl | rfl | rfl | rfl | rfl | rfl <;> rfl
theorem plain_jb : LJb.Plain := Lay.PlainR.plain fun _ _ _ _ h => h
def LJbP : Lay (Int × Int × Int × Int × Int × Int) := (Lay.int .i64).pair ((Lay.int .i64).pair ((Lay.int .i64).pair ((Lay.int .i64).pair ((Lay.int .i64).pair (Lay.int .i64)))))
theorem jb_of {w : World} {cs : List Value} {x : Int × Int × Int × Int × Int × Int} (h : LJbP.R w cs x) : ∃ y : Jb, LJb.R w cs y := by
  obtain ⟨_, _, rfl, ⟨rfl, h1⟩, _, _, rfl, ⟨rfl, h2⟩, _, _, rfl, ⟨rfl, h3⟩, _, _, rfl, ⟨rfl, h4⟩, _, _, rfl, ⟨rfl, h5⟩, ⟨rfl, h6⟩⟩ := h
  exact ⟨⟨x.1, x.2.1, x.2.2.1, x.2.2.2.1, x.2.2.2.2.1, x.2.2.2.2.2⟩, rfl, h1, h2, h3, h4, h5, h6⟩
theorem opens_int : Lay.Opens 3 (Lay.int .i64) := Lay.Opens.int Try.underlying3 (by kernel_rfl)
theorem opens_jbP : Lay.Opens 33 LJbP := Lay.Opens.struct Try.underlying33 rfl (by kernel_rfl)
  (Lay.OpensFs.cons rfl opens_int (Lay.OpensFs.cons rfl opens_int (Lay.OpensFs.cons rfl opens_int (Lay.OpensFs.cons rfl opens_int (Lay.OpensFs.cons rfl opens_int (Lay.OpensFs.last rfl opens_int))))))
theorem opens_jb : Lay.Opens 33 LJb := ⟨opens_jbP.1, fun H enc w fuel cs d h => by
  obtain ⟨x, hx⟩ := opens_jbP.2 H enc w fuel cs d h
  exact jb_of hx⟩
theorem opens_jbs : Lay.Opens 22 (Lay.slice LJb) := Lay.Opens.slice Try.underlying22 (by kernel_rfl) opens_jb
theorem jb_at {w : World} {p : Option Addr} {n : Nat} {l : List Jb} (h : LJb.Row w p n l) {j : Nat} {x : Jb} (hj : l[j]? = some x) :
    ∃ b off, p = some ⟨b, off, none⟩ ∧ JbWf x ∧ w.cell? ⟨b, off + j * 6, none⟩ = some (.int .i64 x.i) ∧ w.cell? ⟨b, off + j * 6 + 1, none⟩ = some (.int .i64 x.v) ∧ w.cell? ⟨b, off + j * 6 + 2, none⟩ = some (.int .i64 x.f) ∧ w.cell? ⟨b, off + j * 6 + 3, none⟩ = some (.int .i64 x.t) ∧ w.cell? ⟨b, off + j * 6 + 4, none⟩ = some (.int .i64 x.h) ∧ w.cell? ⟨b, off + j * 6 + 5, none⟩ = some (.int .i64 x.l) := by
  obtain ⟨b, off, y, cs, rfl, hy, ⟨rfl, hw⟩, hc⟩ := h.get (j := j) (by rw [← h.1]; exact (List.getElem?_eq_some_iff.1 hj).1)
  obtain rfl : x = y := by simpa [hj] using hy
  exact ⟨b, off, rfl, hw, hc 0 _ rfl, hc 1 _ rfl, hc 2 _ rfl, hc 3 _ rfl, hc 4 _ rfl, hc 5 _ rfl⟩
theorem get_of {β : Type} (l : List β) (j : Nat) (h : j < l.length) : ∃ x, l[j]? = some x := ⟨_, List.getElem?_eq_getElem h⟩

def numB (n : Int) : Bool := decide (0 ≤ n ∧ n ≤ 1099511627776)
def mayB (x : Jb) : Bool := decide (0 ≤ x.i ∧ x.i < 200 ∧ (0 ≤ x.v ∧ x.v ≤ 1099511627776) ∧ (0 ≤ x.f ∧ x.f ≤ 1099511627776) ∧ (0 ≤ x.t ∧ x.t ≤ 1099511627776) ∧ x.f ≠ x.t ∧ 1 ≤ x.h ∧ x.h ≤ 5 ∧ 1 ≤ x.l ∧ x.l ≤ 65)
def sameT (x y : Jb) : Bool := decide (x.i = y.i ∧ x.t = y.t)
def aheadB (x y : Jb) : Bool := decide (x.h < y.h ∨ x.h = y.h ∧ (x.i < y.i ∨ x.i = y.i ∧ x.t < y.t))
def orl : List Int → Int
  | [] => 0
  | a :: l => if a = 0 then orl l else a
/-- compared, under a word that no walk opens -/
def cmpI (a b : Int) : Int := Lib.compareInt a b
def cmpJ (x y : Jb) : Int := orl [cmpI x.h y.h, cmpI x.i y.i, cmpI x.t y.t]
theorem orl_skip : ∀ (l : List Int) (k : Nat), (∀ j, j < k → at0 l j = 0) → k ≤ l.length → orl l = orl (l.drop k)
  | l, 0, _, _ => by simp
  | [], k + 1, _, h => by simp at h
  | a :: l, k + 1, h, hk => by
    have h0 : a = 0 := h 0 (by omega)
    show (if a = 0 then orl l else a) = _
    rw [if_pos h0, List.drop_succ_cons]
    exact orl_skip l k (fun j hj => h (j + 1) (by omega)) (by simpa using hk)
theorem orl_at {l : List Int} {k : Nat} (h : ∀ j, j < k → at0 l j = 0) (hk : k < l.length) (hn : at0 l k ≠ 0) : orl l = at0 l k := by
  rw [orl_skip l k h (by omega), List.drop_eq_getElem_cons hk]
  have e : at0 l k = l[k] := by unfold at0; rw [List.getD_eq_getElem?_getD, List.getElem?_eq_getElem hk]; rfl
  rw [e] at hn ⊢
  show (if l[k] = 0 then _ else l[k]) = _
  rw [if_neg hn]
theorem orl_none {l : List Int} (h : ∀ j, j < l.length → at0 l j = 0) : orl l = 0 := by
  rw [orl_skip l l.length h (Nat.le_refl _), List.drop_length]; rfl
theorem cmp_neg (x y : Int) : Lib.compareInt x y = 0 ↔ x = y := by
  unfold Lib.compareInt
  split
  · constructor <;> intro h <;> omega
  · split
    · constructor <;> intro h <;> omega
    · constructor <;> intro h <;> omega
theorem cmpJ_lt (x y : Jb) : (cmpJ x y < 0) ↔ aheadB x y = true := by
  unfold cmpJ orl orl orl orl aheadB cmpI Lib.compareInt
  rw [decide_eq_true_iff]
  (repeat' split) <;> omega
theorem cmpJ_ge (x y : Jb) : (0 ≤ cmpJ x y) ↔ aheadB x y = false := by
  have := cmpJ_lt x y
  constructor
  · intro h; cases e : aheadB x y
    · rfl
    · have := this.2 e; omega
  · intro h; by_cases e : cmpJ x y < 0
    · rw [this.1 e] at h; cases h
    · omega
end Go.Proofs.Ytlbpgaoindkgbaa.Me
