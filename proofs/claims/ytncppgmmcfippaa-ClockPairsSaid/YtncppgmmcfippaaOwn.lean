/- Slices that the call itself makes: ints. -/
import Derived.Test.YtncppgmmcfippaaBase
import Derived.Deep.AppendLies
import Derived.Deep.RegionHeld3
import Derived.Deep.RegionWith
import Derived.Deep.QuietTactic
import Derived.BigQuiet
import Derived.StillTailTactics
namespace Go.Proofs.Ytncppgmmcfippaa
open Go.RowKit
set_option linter.unusedVariables false

theorem add0 (b j : Nat) : (⟨b, 0, none⟩ : Addr).add j = ⟨b, 0 + j, none⟩ := by unfold Addr.add; split <;> simp_all

/-- what the call owns reads as a row -/
theorem rowI_of_own {k : IntKind} {w : World} {base : Nat} {e : TypeId} {v : Value} {n : Nat} {zs : List Int} (h : w.ownsRow base e 1 v n (zs.map (Value.int k))) (hn : n ≤ 9223372036854775807) :
    ∃ p c, v = .slice p n c ∧ RowI k w p n zs := by
  have hl : zs.length = n := by simpa using h.1
  by_cases h0 : 0 < n
  · obtain ⟨g, cap, rfl, _, _⟩ := h.form h0
    refine ⟨_, _, rfl, hl, hn, fun _ => ⟨g, 0, rfl, fun j hj => ?_⟩⟩
    have := h.cells (g := g) rfl j (.int k (at0 zs j)) (by
      simp only [List.getElem?_map, at0, List.getD_eq_getElem?_getD]
      rw [List.getElem?_eq_getElem (by omega)]; rfl)
    rw [add0] at this
    exact this
  · rcases h.2 with ⟨rfl, _⟩ | ⟨g, cap, cur, rfl, _⟩
    · exact ⟨_, _, by rw [show n = 0 by omega], hl, hn, fun k => absurd k h0⟩
    · exact ⟨_, _, rfl, hl, hn, fun k => absurd k h0⟩

theorem own_drewN {w : World} {base : Nat} {e : TypeId} {size : Nat} {v : Value} {n : Nat} {xs : List Value} (h : w.ownsRow base e size v n xs) (q : Nat) : (w.drewN q).ownsRow base e size v n xs := h
theorem at0_append_last (l : List Int) (z : Int) : at0 (l ++ [z]) l.length = z := by simp [at0]
theorem at0_append_old (l : List Int) (z : Int) (j : Nat) (h : j < l.length) : at0 (l ++ [z]) j = at0 l j := by simp [at0, List.getElem?_append, h]

theorem below_drewN {B : Nat} {a w : World} (h : Below B a w) (q : Nat) : Below B a (w.drewN q) := ⟨h.os, h.tape, h.output, h.size, h.block⟩
/-- an own block lies from B on, whatever was appended -/
theorem below_grown {B : Nat} {a w w' : World} {v : Value} {e : TypeId} {size n : Nat} {xs : List Value} (h : Below B a w) (hB : B ≤ a.heap.size) (hg : w.grownBy w' v.ownBlock) (hown : w.ownsRow B e size v n xs) : Below B a w' :=
  h.grown hg (Nat.le_trans hB h.size) fun k hk => (hown.lt k hk).1

/-- a callee that leaves the world alone, inside a region that only reads: the first such region, and a later one -/
theorem quietA {P : Program} {f : FuncId} {args : Array Value} {w : World} {n : Nat} {v : Value}
    (c : Calls P f args (w.drewN n) fun e w' => e = .returned v ∧ w.drewN n = w') : Calls P f args (w.drewN n) fun e w' => e = .returned v ∧ ∃ m, w' = w.drewN m :=
  c.mono fun _ _ h => ⟨h.1, n, h.2.symm⟩
theorem quietB {P : Program} {f : FuncId} {args : Array Value} {w : World} {k n : Nat} {v : Value}
    (c : Calls P f args (w.drewN (k + n)) fun e w' => e = .returned v ∧ w.drewN (k + n) = w') : Calls P f args (w.drewN (k + n)) fun e w' => e = .returned v ∧ ∃ m, w' = w.drewN (k + m) :=
  c.mono fun _ _ h => ⟨h.1, n, h.2.symm⟩

/-- a literal's slice is the call's own -/
theorem own_lit (w : World) (cs : Array Value) (e : TypeId) (base n size : Nat) (hb : base ≤ w.heap.size) (h : cs.size = n * size) (hm : n ≤ maxLen) :
    (w.alloc (.cells cs e)).ownsRow base e size (.slice (some ⟨w.heap.size, 0, none⟩) n n) n cs.toList :=
  ⟨by simp [h], .inr ⟨_, n, cs, rfl, hb, heap_alloc_new w _, Nat.le_refl _, hm, h, List.take_of_length_le (by simp [h])⟩⟩
end Go.Proofs.Ytncppgmmcfippaa
