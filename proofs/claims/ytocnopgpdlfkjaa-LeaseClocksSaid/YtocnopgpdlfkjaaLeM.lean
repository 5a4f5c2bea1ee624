/- Leases: the plain mathematics. -/
import Derived.Test.YtocnopgpdlfkjaaPlain
namespace Go.Proofs.Ytocnopgpdlfkjaa.Ls
open Go.RowKit Go.Proofs.Ytocnopgpdlfkjaa
set_option linter.unusedVariables false

/-- a lease: client, node, kind, from, to, until, epoch -/
structure Le where
  c : Int
  i : Int
  k : Int
  f : Int
  t : Int
  u : Int
  e : Int
deriving DecidableEq
def encL (x : Le) : List Value := [.int .i64 x.c, .int .i64 x.i, .int .i64 x.k, .int .i64 x.f, .int .i64 x.t, .int .i64 x.u, .int .i64 x.e]
def LeWf (x : Le) : Prop := (Lit.int .i64 x.c).wf = true ∧ (Lit.int .i64 x.i).wf = true ∧ (Lit.int .i64 x.k).wf = true ∧ (Lit.int .i64 x.f).wf = true ∧ (Lit.int .i64 x.t).wf = true ∧ (Lit.int .i64 x.u).wf = true ∧ (Lit.int .i64 x.e).wf = true
def LLe : Lay Le where
  size := 7
  pos := by omega
  R := fun _ cs x => cs = encL x ∧ LeWf x
  len := fun h => by rw [h.1]; rfl
  ext := fun h _ => h
  one := fun h => by rw [h.1]; intro u hu; simp [encL] at hu; rcases hu with rfl | rfl | rfl | rfl | rfl | rfl | rfl <;> rfl
theorem plain_le : LLe.Plain := Lay.PlainR.plain fun _ _ _ _ h => h
def LLeP : Lay (Int × Int × Int × (Int × Int) × Int × Int) := (Lay.int .i64).pair ((Lay.int .i64).pair ((Lay.int .i64).pair (((Lay.int .i64).pair (Lay.int .i64)).pair ((Lay.int .i64).pair (Lay.int .i64)))))
theorem le_of {w : World} {cs : List Value} {x : Int × Int × Int × (Int × Int) × Int × Int} (h : LLeP.R w cs x) : ∃ y : Le, LLe.R w cs y := by
  obtain ⟨_, _, rfl, ⟨rfl, h1⟩, _, _, rfl, ⟨rfl, h2⟩, _, _, rfl, ⟨rfl, h3⟩, _, _, rfl, ⟨_, _, rfl, ⟨rfl, h4⟩, ⟨rfl, h5⟩⟩, _, _, rfl, ⟨rfl, h6⟩, ⟨rfl, h7⟩⟩ := h
  exact ⟨⟨x.1, x.2.1, x.2.2.1, x.2.2.2.1.1, x.2.2.2.1.2, x.2.2.2.2.1, x.2.2.2.2.2⟩, rfl, h1, h2, h3, h4, h5, h6, h7⟩
theorem opens_int : Lay.Opens 3 (Lay.int .i64) := Lay.Opens.int Try.underlying3 (by kernel_rfl)
theorem opens_span : Lay.Opens 24 ((Lay.int .i64).pair (Lay.int .i64)) := Lay.Opens.struct Try.underlying24 rfl (by kernel_rfl) (Lay.OpensFs.cons rfl opens_int (Lay.OpensFs.last rfl opens_int))
theorem opens_leP : Lay.Opens 26 LLeP := Lay.Opens.struct Try.underlying26 rfl (by kernel_rfl)
  (Lay.OpensFs.cons rfl opens_int (Lay.OpensFs.cons rfl opens_int (Lay.OpensFs.cons rfl opens_int (Lay.OpensFs.cons rfl opens_span (Lay.OpensFs.cons rfl opens_int (Lay.OpensFs.last rfl opens_int))))))
theorem opens_le : Lay.Opens 26 LLe := ⟨opens_leP.1, fun H enc w fuel cs d h => by
  obtain ⟨x, hx⟩ := opens_leP.2 H enc w fuel cs d h
  exact le_of hx⟩
theorem opens_les : Lay.Opens 22 (Lay.slice LLe) := Lay.Opens.slice Try.underlying22 (by kernel_rfl) opens_le

theorem le_at {w : World} {p : Option Addr} {n : Nat} {l : List Le} (h : LLe.Row w p n l) {j : Nat} {x : Le} (hj : l[j]? = some x) :
    ∃ b off, p = some ⟨b, off, none⟩ ∧ LeWf x ∧ w.cell? ⟨b, off + j * 7, none⟩ = some (.int .i64 x.c) ∧ w.cell? ⟨b, off + j * 7 + 1, none⟩ = some (.int .i64 x.i) ∧ w.cell? ⟨b, off + j * 7 + 2, none⟩ = some (.int .i64 x.k) ∧ w.cell? ⟨b, off + j * 7 + 3, none⟩ = some (.int .i64 x.f) ∧ w.cell? ⟨b, off + j * 7 + 4, none⟩ = some (.int .i64 x.t) ∧ w.cell? ⟨b, off + j * 7 + 5, none⟩ = some (.int .i64 x.u) ∧ w.cell? ⟨b, off + j * 7 + 6, none⟩ = some (.int .i64 x.e) := by
  obtain ⟨b, off, y, cs, rfl, hy, ⟨rfl, hw⟩, hc⟩ := h.get (j := j) (by rw [← h.1]; exact (List.getElem?_eq_some_iff.1 hj).1)
  obtain rfl : x = y := by simpa [hj] using hy
  exact ⟨b, off, rfl, hw, hc 0 _ rfl, hc 1 _ rfl, hc 2 _ rfl, hc 3 _ rfl, hc 4 _ rfl, hc 5 _ rfl, hc 6 _ rfl⟩
theorem get_of {β : Type} (l : List β) (j : Nat) (h : j < l.length) : ∃ x, l[j]? = some x := ⟨_, List.getElem?_eq_getElem h⟩

/-- may a lease be so? may two not be had at one time? -/
def rightSpB (f t : Int) : Bool := decide (0 ≤ f ∧ f < t ∧ t ≤ 1099511627776)
def kindB (k : Int) : Bool := decide (k = 1 ∨ k = 2)
def oneB (x : Le) : Bool := decide (0 ≤ x.c ∧ x.c < 16 ∧ 1 ≤ x.i ∧ (x.k = 1 ∨ x.k = 2) ∧ 0 ≤ x.f ∧ x.f < x.t ∧ x.t ≤ 1099511627776 ∧ 0 ≤ x.u ∧ x.u ≤ 4398046511104 ∧ 0 ≤ x.e)
def clashB (a b : Le) : Bool := decide (a.c ≠ b.c ∧ a.i = b.i ∧ (a.f < b.t ∧ b.f < a.t) ∧ (a.k = 2 ∨ b.k = 2))
theorem clash_symm (a b : Le) : clashB a b = clashB b a := by
  unfold clashB
  rw [Bool.eq_iff_iff, decide_eq_true_iff, decide_eq_true_iff]
  constructor <;> intro h <;> refine ⟨fun e => h.1 e.symm, h.2.1.symm, ⟨h.2.2.1.2, h.2.2.1.1⟩, h.2.2.2.symm⟩
theorem clash_self (a : Le) : clashB a a = false := by simp [clashB]
def rightB (l : List Le) : Bool := decide (l.length ≤ 64 ∧ ∀ x ∈ l, oneB x = true ∧ ∀ y ∈ l, clashB y x = false)
def overL (l : List Le) (now : Int) : List Le := l.filter fun x => decide (now < x.u)
def backL (l : List Le) (c i : Int) : List Le := l.filter fun x => !decide (x.c = c ∧ x.i = i)
def sameB (x q : Le) : Bool := decide (x.c = q.c ∧ x.i = q.i ∧ x.k = q.k ∧ x.f = q.f ∧ x.t = q.t)
def othersL (l : List Le) (q : Le) : List Le := l.filter fun x => !sameB x q
def againstL (l : List Le) (q : Le) : List Le := l.filter fun x => clashB x q
end Go.Proofs.Ytocnopgpdlfkjaa.Ls
