/- Slices of slices that came in, whatever their place. -/
import Derived.Test.YtifbmkcfgpfefaaOwn
namespace Go.Proofs.Ytifbmkcfgpfefaa
open Go.RowKit
set_option linter.unusedVariables false

/-- a place that is plain, if there is room -/
def Pl (p : Option Addr) (c : Nat) : Prop := 0 < c → ∃ b off, p = some ⟨b, off, none⟩

theorem run_slice_to {P : Program} {t e : TypeId} (ht : P.underlying t = some (.slice e)) (hs : (P.info? e).map (·.size) = some 1) (p : Option Addr) (n c k : Nat) (hk : k ≤ c) (hp : Pl p c) (w : World) :
    (Instr.slice t (.slice p n c) none (some (.int .i64 k)) none).run P w = .ok (.slice p k c) w := by
  obtain ⟨i, hi, hz⟩ := Option.map_eq_some_iff.1 hs
  by_cases h0 : 0 < c
  · obtain ⟨b, off, rfl⟩ := hp h0
    have e0 : (⟨b, off, none⟩ : Addr).add 0 = ⟨b, off, none⟩ := by unfold Addr.add; split <;> simp_all
    have hc : ¬ c = 0 := by omega
    simp [Instr.slice, run_underlying ht, Instr.sliceBounds, run_sliceBound, sizeOf, typeInfo, hi, hk, e0, hc]
  · have hc : c = 0 := by omega
    subst hc
    have : k = 0 := by omega
    subst this
    simp [Instr.slice, run_underlying ht, Instr.sliceBounds, run_sliceBound, sizeOf, typeInfo, hi]
end Go.Proofs.Ytifbmkcfgpfefaa
