/- The statement on WireCounts: for every input the law answers true, and each argument reads afterwards as it read before. No condition. -/
import Derived.Test.YtifbmkcfgpfefaaFrame
import Derived.Test.YtifbmkcfgpfefaaWiU
namespace Go.Proofs.Ytifbmkcfgpfefaa.wireCounts
open Go.ChangeShapes Go.WideShapes Go.ChangeAt Go.RowKit Go.Proofs.Ytifbmkcfgpfefaa
open Go.ChangeMaps (open_string shut_string)
set_option linter.unusedVariables false
set_option maxRecDepth 100000 in
theorem lifted (os : Os) (started : os.Started) (H : Type) (enc : TypeId × Value → H) :
    ReturnsInHanded {} Try.checked os 4 .any (Rows.wireCountsSpec.pre6 enc Try.prog Try.f4 Rows.wireCountsRow.domain false) (Rows.wireCountsSpec.post enc Try.prog Try.f4 false true false false) := by
  refine law_lifted (tb := 4) os started H enc (by kernel_rfl) Try.func4 Try.underlying4 rfl (by kernel_rfl) rfl ?_
    (ChangeSpec.witness6 (enc := enc) (C := Try.checked) false ⟨#[], #[.slice none 0 0, .agg #[.int .i64 0, .int .i64 0, .int .i64 0, .slice none 0 0, .slice none 0 0]], []⟩ 8 (by kernel_rfl) (by kernel_rfl) (by kernel_rfl) (by kernel_rfl)) ?_
  · intro ds h
    match ds, h with
    | [d0, d1], _ => exact ⟨rfl, rfl, rfl⟩
  · intro W base args ds ps hval0 hA0 _
    have hval : ∀ (j : Nat) t v, Try.f4.params[j]? = some t → args[j]? = some v → Value.okWide Try.prog W .any base t v := hval0
    have hA : DataW.TrodAll enc Try.prog W 0 (fun _ => true) true Try.f4.params.toList args.toList ds ps := hA0
    rw [Try.params4] at hA hval
    clear hA0 hval0
    obtain ⟨v0, vs0, d0, ds0, p0, q0, hargs, rfl, rfl, h0, r0⟩ := trodAll_cons hA
    obtain ⟨v1, vs1, d1, ds1, p1, q1, rfl, rfl, rfl, h1, r1⟩ := trodAll_cons r0
    obtain ⟨rfl, rfl, rfl⟩ := trodAll_nil r1
    obtain rfl : args = #[v0, v1] := by cases args; simp_all
    obtain ⟨l0, a0, n0, c0, rfl, w0, f0, m0, g0⟩ := Lay.open_sl (E := Wi.LQA) Try.underlying38 Wi.opens_acts (hval 0 38 v0 rfl rfl) h0
    obtain ⟨cs1, y1, rfl, w1⟩ := Lay.open_agg (E := Wi.LMg) Try.underlying26 Wi.opens_mg (hval 1 26 v1 rfl rfl) h1
    exact (Wi.counts_walk (Lay.Sl.mk w0 f0 m0 g0) w1)

theorem proved : Rows.WireCountsSaid :=
  OpenClaim.holds_of_wide 4 Try.f4 rfl rfl rfl rfl rfl rfl rfl ⟨rfl, rfl, rfl, rfl, rfl⟩ rfl rfl rfl rfl rfl (by kernel_rfl) Try.func4 (by kernel_rfl)
    (of_decide_eq_true (by kernel_rfl)) (by unfold Func.isWrapper; first | (rw [if_pos (by decide +kernel)]; kernel_rfl) | (rw [if_neg (by decide +kernel)]; exact ⟨rfl, rfl⟩))
    (fun os started H enc _ => lifted os started H enc)
#print axioms proved
end Go.Proofs.Ytifbmkcfgpfefaa.wireCounts
