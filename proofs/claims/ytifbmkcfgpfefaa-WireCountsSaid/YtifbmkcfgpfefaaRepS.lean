/- Slices of slices: a[lo:hi], a[lo:], a[:hi], as facts for every world, and what they read as. -/
import Derived.Test.YtifbmkcfgpfefaaRepI
namespace Go.Proofs.Ytifbmkcfgpfefaa
open Go.RowKit
set_option linter.unusedVariables false

def cutP (p : Option Addr) (c lo size : Nat) : Option Addr := if c = lo then p else p.map (·.add (lo * size))
section
variable {P : Program} {t e : TypeId} (ht : P.underlying t = some (.slice e)) {size : Nat} (hs : (P.info? e).map (·.size) = some size)
include ht hs
theorem run_cut (p : Option Addr) (n c lo hi : Nat) (x y : Int) (hx : x = (lo : Int)) (hy : y = (hi : Int)) (h1 : lo ≤ hi) (h2 : hi ≤ c) (w : World) :
    (Instr.slice t (.slice p n c) (some (.int .i64 x)) (some (.int .i64 y)) none).run P w = .ok (.slice (cutP p c lo size) (hi - lo) (c - lo)) w := by
  obtain ⟨i, hi', hz⟩ := Option.map_eq_some_iff.1 hs
  subst hx hy
  simp [Instr.slice, run_underlying ht, Instr.sliceBounds, run_sliceBound, sizeOf, typeInfo, hi', h1, h2, hz, cutP]
theorem run_cut_from (p : Option Addr) (n c lo : Nat) (x : Int) (hx : x = (lo : Int)) (h1 : lo ≤ n) (h2 : n ≤ c) (w : World) :
    (Instr.slice t (.slice p n c) (some (.int .i64 x)) none none).run P w = .ok (.slice (cutP p c lo size) (n - lo) (c - lo)) w := by
  obtain ⟨i, hi', hz⟩ := Option.map_eq_some_iff.1 hs
  subst hx
  simp [Instr.slice, run_underlying ht, Instr.sliceBounds, run_sliceBound, sizeOf, typeInfo, hi', h1, hz, cutP]
theorem run_cut_to (p : Option Addr) (n c hi : Nat) (y : Int) (hy : y = (hi : Int)) (h2 : hi ≤ c) (hp : Pl p c) (w : World) :
    (Instr.slice t (.slice p n c) none (some (.int .i64 y)) none).run P w = .ok (.slice p hi c) w := by
  obtain ⟨i, hi', hz⟩ := Option.map_eq_some_iff.1 hs
  subst hy
  by_cases h0 : c = 0
  · subst h0
    obtain rfl : hi = 0 := by omega
    simp [Instr.slice, run_underlying ht, Instr.sliceBounds, run_sliceBound, sizeOf, typeInfo, hi']
  · obtain ⟨b, off, rfl⟩ := hp (by omega)
    have e0 : (⟨b, off, none⟩ : Addr).add 0 = ⟨b, off, none⟩ := by unfold Addr.add; split <;> simp_all
    simp [Instr.slice, run_underlying ht, Instr.sliceBounds, run_sliceBound, sizeOf, typeInfo, hi', h2, e0, h0]
end

theorem Lay.Row.cut {α : Type} {E : Lay α} {w : World} {p : Option Addr} {n c : Nat} {l : List α} (h : E.Row w p n l) (hnc : n ≤ c) (hp : Pl p c) (lo hi : Nat) (h1 : lo ≤ hi) (h2 : hi ≤ n) :
    E.Row w (cutP p c lo E.size) (hi - lo) ((l.drop lo).take (hi - lo)) := by
  by_cases h0 : lo < hi
  · obtain ⟨b, off, rfl⟩ := hp (by omega)
    have e : cutP (some ⟨b, off, none⟩) c lo E.size = some ⟨b, off + lo * E.size, none⟩ := by
      unfold cutP
      rw [if_neg (by omega), Option.map_some, addN]
    rw [e]
    exact h.sub lo (hi - lo) (by omega)
  · rw [show hi - lo = 0 by omega, List.take_zero]
    exact Lay.Row.nil E w _
theorem Lay.Row.cut_from {α : Type} {E : Lay α} {w : World} {p : Option Addr} {n c : Nat} {l : List α} (h : E.Row w p n l) (hnc : n ≤ c) (hp : Pl p c) (lo : Nat) (h1 : lo ≤ n) :
    E.Row w (cutP p c lo E.size) (n - lo) (l.drop lo) := by
  have := h.cut hnc hp lo n h1 (Nat.le_refl _)
  rwa [List.take_of_length_le (by rw [List.length_drop, h.1]; omega)] at this
theorem Pl.cut {p : Option Addr} {c : Nat} (h : Pl p c) (lo size : Nat) : Pl (cutP p c lo size) (c - lo) := by
  intro h0
  obtain ⟨b, off, rfl⟩ := h (by omega)
  refine ⟨b, off + lo * size, ?_⟩
  unfold cutP
  rw [if_neg (by omega), Option.map_some, addN]
end Go.Proofs.Ytifbmkcfgpfefaa
