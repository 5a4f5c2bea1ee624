/- A region that draws its order, whose operations read, and whose callees may make memory: one walk in the text's order, in every world that has grown from a first one. -/
import Derived.Test.YtifbmkcfgpfefaaBase
import Derived.BigQuiet
namespace Go.Proofs.Ytifbmkcfgpfefaa
open Go.RowKit
set_option linter.unusedVariables false

/-- a world that has grown from w0 -/
structure Gr (w0 : World) where
  w : World
  h : Ext w0 w
instance (w0 : World) : Nonempty (Gr w0) := ⟨⟨w0, Ext.refl _⟩⟩
theorem wp_region_grown {P : Program} {id : Nat} {Q : Exit → Act → World → Prop} {a : Act} {w0 w : World} {l : List Oper} (hx : Ext w0 w) (hm : P.follows .mixedOrders = true) (hB : Region.lexB .any l.toArray = true)
    (h : wpQuiet P l.toArray (fun w' => ∃ g : Gr w0, w' = g.w) (fun a' => ∀ g : Gr w0, Q .normal a' g.w) l a) : (Code.region id l.toArray true).wp P Q a w := by
  refine wp_region_quiet (C := fun w' => ∃ g : Gr w0, w' = g.w) hm hB ⟨⟨w.drew, Ext.drew hx⟩, rfl⟩ ?_
  have e : (fun a' => ∀ w', (∃ g : Gr w0, w' = g.w) → Q .normal a' w') = (fun a' => ∀ g : Gr w0, Q .normal a' g.w) := by
    funext a'
    apply propext
    exact ⟨fun k g => k _ ⟨g, rfl⟩, fun k w' ⟨g, hg⟩ => hg ▸ k g⟩
  rw [e]
  simpa using h
theorem Gr.of {P : Program} {f : FuncId} {args : Array Value} {w0 : World} {g : Gr w0} {v : Value} (c : Calls P f args g.w fun e w' => e = .returned v ∧ Ext g.w w') : Calls P f args g.w fun e w'' => e = .returned v ∧ ∃ g' : Gr w0, w'' = g'.w :=
  c.mono fun _ w' h => ⟨h.1, ⟨w', Ext.trans g.h h.2⟩, rfl⟩
theorem Gr.cell {w0 : World} (g : Gr w0) {a : Addr} {v : Value} (h : w0.cell? a = some v) : g.w.cell? a = some v := g.h.cell h
end Go.Proofs.Ytifbmkcfgpfefaa
