/- Layouts that hang on no memory: rows of numbers, of structs of numbers. -/
import Derived.Test.YtifbmkcfgpfefaaOwn2
import Derived.Test.YtifbmkcfgpfefaaRepS
namespace Go.Proofs.Ytifbmkcfgpfefaa
open Go.RowKit
set_option linter.unusedVariables false
theorem heap_ext {w w' : World} {b : Nat} {o : Obj} (h : w.heap[b]? = some o) (hx : Ext w w') : w'.heap[b]? = some o := by rw [hx.block b (Array.getElem?_eq_some_iff.1 h).1]; exact h
namespace Lay
variable {α β : Type}
def PlainR (E : Lay α) : Prop := ∀ (w w' : World) (cs : List Value) (x : α), E.R w cs x → E.R w' cs x
theorem PlainR.plain {E : Lay α} (h : E.PlainR) : E.Plain := fun w w' vs l => by
  induction l generalizing vs with
  | nil => exact id
  | cons x l ih =>
    rintro ⟨cs, vs', rfl, h1, h2⟩
    exact ⟨cs, vs', rfl, h _ _ _ _ h1, ih _ h2⟩
theorem plainR_int (k : IntKind) : (Lay.int k).PlainR := fun _ _ _ _ h => h
theorem plainR_bool : Lay.bool.PlainR := fun _ _ _ _ h => h
theorem plainR_str : Lay.str.PlainR := fun _ _ _ _ h => h
theorem PlainR.pair {A : Lay α} {B : Lay β} (ha : A.PlainR) (hb : B.PlainR) : (A.pair B).PlainR := fun w w' cs x h => by
  obtain ⟨a, b, rfl, h1, h2⟩ := h
  exact ⟨a, b, rfl, ha _ _ _ _ h1, hb _ _ _ _ h2⟩
theorem Plain.k {E : Lay α} (h : E.Plain) {w w1 : World} {row : Option Nat} {vs : List Value} {l : List α} (ha : E.All w1 vs l) : E.AllK w row vs l := fun w' _ => h w1 w' vs l ha
theorem Plain.row {E : Lay α} (h : E.Plain) {w : World} {row : Option Nat} {p : Option Addr} {n : Nat} {l : List α} (hr : E.Row w p n l) : E.RowK w row p n l := by
  obtain ⟨h1, h2, vs, h3, h4⟩ := hr
  exact ⟨h1, h2, vs, h.k h3, h4⟩
theorem Plain.lit {E : Lay α} (h : E.Plain) {w w1 : World} {row : Option Nat} {cs : Array Value} {t : TypeId} {fr : Nat × Nat} {n B : Nat} {l : List α} (hx : Ext (w.alloc (.cells cs t fr)) w1) (ha : E.All w1 cs.toList l) (hB : w.heap.size = B) (hn : l.length = n) (hl : n ≤ 9223372036854775807) : E.RowK w1 row (some ⟨B, 0, none⟩) n l :=
  RowK.lit hx (h.k ha) hB hn hl
/-- a literal, as the call's own -/
theorem Plain.own_lit {E : Lay α} (h : E.Plain) (w : World) (cs : Array Value) (e : TypeId) (base n : Nat) (l : List α) (hb : base ≤ w.heap.size) (ha : E.All w cs.toList l) (hn : l.length = n) (hm : n ≤ maxLen) :
    E.Own (w.alloc (.cells cs e)) base e (.slice (some ⟨w.heap.size, 0, none⟩) n n) l := by
  subst hn
  have := ha.length
  exact ⟨cs.toList, Go.Proofs.Ytifbmkcfgpfefaa.own_lit w cs e base l.length E.size hb (by simpa using this) hm, h.k ha⟩
/-- one cell written -/
theorem Plain.stored {E : Lay α} (h : E.Plain) {w : World} {base g cap n : Nat} {e : TypeId} {l l' : List α} (hown : E.Own w base e (.slice (some ⟨g, 0, none⟩) n cap) l) (hn : l.length = n) (hn' : l'.length = n) (j : Nat) (u : Value)
    (hs : ∀ vs, E.All w vs l → E.All w (vs.set j u) l') : E.Own (w.setCell ⟨g, j, none⟩ u) base e (.slice (some ⟨g, 0, none⟩) n cap) l' ∧ w.grownBy (w.setCell ⟨g, j, none⟩ u) (some g) := by
  obtain ⟨vs, h1, h2⟩ := hown
  rw [hn] at h1
  obtain ⟨h3, h4⟩ := h1.stored j u
  exact ⟨⟨vs.set j u, by rw [hn']; exact h3, h.k (hs vs h2.all)⟩, h4⟩
theorem Own.frozenAt {E : Lay α} {w : World} {base g cap n : Nat} {e : TypeId} {l : List α} (hown : E.Own w base e (.slice (some ⟨g, 0, none⟩) n cap) l) (hn : l.length = n) (j : Nat) : w.frozen? ⟨g, j, none⟩ = false := by
  obtain ⟨vs, h1, h2⟩ := hown
  rw [hn] at h1
  exact h1.frozenAt j
/-- the form of a slice of the call's own that holds something -/
theorem Own.full {E : Lay α} {w : World} {base : Nat} {e : TypeId} {v : Value} {l : List α} (h : E.Own w base e v l) (hl : 0 < l.length) : ∃ g c, v = .slice (some ⟨g, 0, none⟩) l.length c ∧ base ≤ g := by
  rcases h.form with rfl | ⟨g, c, rfl, _⟩
  · obtain ⟨vs, h1, h2⟩ := h
    have := h1.2
    rcases this with ⟨_, h0⟩ | ⟨g, cap, cur, hv, _⟩
    · omega
    · cases hv
  · exact ⟨g, c, rfl, (h.lt g rfl).1⟩
/-- what came in, behind a write into a row of the call's own -/
theorem Own.ext_set {E : Lay α} {w0 w : World} {base g cap n : Nat} {e : TypeId} {l : List α} (h : E.Own w base e (.slice (some ⟨g, 0, none⟩) n cap) l) (hx : Ext w0 w) (hb : w0.heap.size ≤ base) (j : Nat) (u : Value) : Ext w0 (w.setCell ⟨g, j, none⟩ u) :=
  Below.setCell hx (p := ⟨g, j, none⟩) (by have := (h.lt g rfl).1; show _ ≤ g; omega) u
theorem Own.drewN {E : Lay α} {w : World} {base : Nat} {e : TypeId} {v : Value} {l : List α} (h : E.Own w base e v l) (q : Nat) : E.Own (w.drewN q) base e v l := h.ext (Ext.drewN (Ext.refl _) q)
/-- a slice value, opened -/
theorem Own.opened {E : Lay α} {w : World} {base : Nat} {e : TypeId} {v : Value} {l : List α} (h : E.Own w base e v l) : ∃ p c, v = .slice p l.length c ∧ E.Row w p l.length l ∧ l.length ≤ c ∧ c ≤ 9223372036854775807 ∧ Pl p c := by
  obtain ⟨p, n, c, rfl, hr, h1, h2, h3⟩ := h.sl
  have := hr.1
  subst this
  exact ⟨p, c, rfl, hr, h1, h2, h3⟩
/-- a row in another block than the one that is written -/
theorem Plain.row_other {E : Lay α} (h : E.Plain) {w w' : World} {row : Option Nat} {p : Option Addr} {n : Nat} {l : List α} (hr : E.Row w p n l) (hg : w.grownBy w' row) (hne : ∀ b off, p = Option.some ⟨b, off, none⟩ → row ≠ Option.some b) : E.Row w' p n l := by
  obtain ⟨h1, h2, vs, h3, h4⟩ := hr
  refine ⟨h1, h2, vs, h w w' vs l h3, fun hn => ?_⟩
  obtain ⟨b, off, rfl, hc⟩ := h4 hn
  refine ⟨b, off, rfl, fun j u hu => ?_⟩
  have hcu := hc j u hu
  have hlt := World.block_lt_of_cell? w _ hcu
  rw [← hcu]
  simp only [World.cell?, hg.block b hlt (fun e => hne b off rfl e.symm)]
/-- a write beyond what was there -/
theorem grown_past {w1 a b : World} {row r2 : Option Nat} (h : w1.grownBy a row) (k : a.grownBy b r2) (hr : ∀ i, r2 = Option.some i → w1.heap.size ≤ i) : w1.grownBy b row :=
  ⟨k.os.trans h.os, k.tape.trans h.tape, k.output.trans h.output, Nat.le_trans h.size k.size, fun i hi hne => by
    rw [k.block i (Nat.lt_of_lt_of_le hi h.size) (fun e => by have := hr i e.symm; omega)]; exact h.block i hi hne⟩
theorem grown_set (w : World) (g j : Nat) (u : Value) : w.grownBy (w.setCell ⟨g, j, none⟩ u) (Option.some g) :=
  ⟨rfl, rfl, rfl, by simp, fun i hi hne => heap_setCell_other w ⟨g, j, none⟩ i u (fun e => hne (by simp [e]))⟩
end Lay
end Go.Proofs.Ytifbmkcfgpfefaa
