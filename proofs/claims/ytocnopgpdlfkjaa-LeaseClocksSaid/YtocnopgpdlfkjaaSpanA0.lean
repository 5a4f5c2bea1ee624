/- Spans: how they lie. -/
import Derived.Test.YtocnopgpdlfkjaaRepI
import Derived.Test.YtocnopgpdlfkjaaSpanM
import Derived.BigQuiet
import Derived.IntWalk
import Derived.Deep.RegionWith
namespace Go.Proofs.Ytocnopgpdlfkjaa.Sp
open Go.RowKit Go.Proofs.Ytocnopgpdlfkjaa
set_option linter.unusedVariables false

def LSpan : Lay Span := Lay.pair (Lay.int .i64) (Lay.int .i64)
theorem span_cells {w : World} {cs : List Value} {x : Span} (h : LSpan.R w cs x) : cs = [.int .i64 x.1, .int .i64 x.2] ∧ (Lit.int .i64 x.1).wf = true ∧ (Lit.int .i64 x.2).wf = true := by
  obtain ⟨a, b, rfl, ⟨rfl, hw⟩, ⟨rfl, hw2⟩⟩ := h
  exact ⟨rfl, hw, hw2⟩
theorem span_at {w : World} {p : Option Addr} {n : Nat} {l : List Span} (h : LSpan.Row w p n l) {j : Nat} {x : Span} (hj : l[j]? = some x) :
    ∃ b off, p = some ⟨b, off, none⟩ ∧ w.cell? ⟨b, off + j * 2, none⟩ = some (.int .i64 x.1) ∧ w.cell? ⟨b, off + j * 2 + 1, none⟩ = some (.int .i64 x.2) ∧ (Lit.int .i64 x.1).wf = true ∧ (Lit.int .i64 x.2).wf = true := by
  obtain ⟨b, off, y, cs, rfl, hy, hr, hc⟩ := h.get (j := j) (by rw [← h.1]; exact (List.getElem?_eq_some_iff.1 hj).1)
  obtain rfl : x = y := by simpa [hj] using hy
  obtain ⟨rfl, h1, h2⟩ := span_cells hr
  exact ⟨b, off, rfl, hc 0 _ rfl, hc 1 _ rfl, h1, h2⟩
theorem get_of {β : Type} (l : List β) (j : Nat) (h : j < l.length) : ∃ x, l[j]? = some x := ⟨_, List.getElem?_eq_getElem h⟩

end Go.Proofs.Ytocnopgpdlfkjaa.Sp
