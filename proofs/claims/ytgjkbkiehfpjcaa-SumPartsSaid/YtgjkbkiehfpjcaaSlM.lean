/- a[lo:hi] of a slice that came in, as a fact for every world. -/
import Derived.Test.YtgjkbkiehfpjcaaSlice
namespace Go.Proofs.Ytgjkbkiehfpjcaa
open Go.RowKit
set_option linter.unusedVariables false
theorem run_slice_mid {P : Program} {t e : TypeId} (ht : P.underlying t = some (.slice e)) (hs : (P.info? e).map (·.size) = some 1) (b off n c lo hi : Nat) (h1 : lo ≤ hi) (h2 : hi ≤ c) (h3 : lo < c) (x y : Int) (hx : x = (lo : Int)) (hy : y = (hi : Int)) (w : World) :
    (Instr.slice t (.slice (some ⟨b, off, none⟩) n c) (some (.int .i64 x)) (some (.int .i64 y)) none).run P w = .ok (.slice (some ⟨b, off + lo, none⟩) (hi - lo) (c - lo)) w := by
  obtain ⟨i, hi', hz⟩ := Option.map_eq_some_iff.1 hs
  subst hx hy
  have e0 : (⟨b, off, none⟩ : Addr).add lo = ⟨b, off + lo, none⟩ := by unfold Addr.add; split <;> simp_all
  simp [Instr.slice, run_underlying ht, Instr.sliceBounds, run_sliceBound, sizeOf, typeInfo, hi', h1, h2, hz, e0]
  intro h; omega
end Go.Proofs.Ytgjkbkiehfpjcaa
