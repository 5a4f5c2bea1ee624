/- The statement on MendTells: for every input the law answers true, and each argument reads afterwards as it read before. No condition. -/
import Derived.Test.YtlbpgaoindkgbaaFrame
import Derived.Test.YtlbpgaoindkgbaaMeW
namespace Go.Proofs.Ytlbpgaoindkgbaa.mendTells
open Go.ChangeShapes Go.WideShapes Go.ChangeAt Go.RowKit Go.Proofs.Ytlbpgaoindkgbaa
open Go.ChangeMaps (open_string shut_string)
set_option linter.unusedVariables false
set_option maxRecDepth 100000 in
theorem lifted (os : Os) (started : os.Started) (H : Type) (enc : TypeId × Value → H) :
    ReturnsInHanded {} Try.checked os 3 .any (Rows.mendTellsSpec.pre6 enc Try.prog Try.f3 Rows.mendTellsRow.domain false) (Rows.mendTellsSpec.post enc Try.prog Try.f3 false true false false) := by
  refine law_lifted (tb := 4) os started H enc (by kernel_rfl) Try.func3 Try.underlying4 rfl (by kernel_rfl) rfl ?_
    (ChangeSpec.witness6 (enc := enc) (C := Try.checked) false ⟨#[], #[.slice none 0 0, .slice none 0 0, .int .i64 0], []⟩ 8 (by kernel_rfl) (by kernel_rfl) (by kernel_rfl) (by kernel_rfl)) ?_
  · intro ds h
    match ds, h with
    | [d0, d1, d2], _ => exact ⟨rfl, rfl, rfl⟩
  · intro W base args ds ps hval0 hA0 _
    have hval : ∀ (j : Nat) t v, Try.f3.params[j]? = some t → args[j]? = some v → Value.okWide Try.prog W .any base t v := hval0
    have hA : DataW.TrodAll enc Try.prog W 0 (fun _ => true) true Try.f3.params.toList args.toList ds ps := hA0
    rw [Try.params3] at hA hval
    clear hA0 hval0
    obtain ⟨v0, vs0, d0, ds0, p0, q0, hargs, rfl, rfl, h0, r0⟩ := trodAll_cons hA
    obtain ⟨v1, vs1, d1, ds1, p1, q1, rfl, rfl, rfl, h1, r1⟩ := trodAll_cons r0
    obtain ⟨v2, vs2, d2, ds2, p2, q2, rfl, rfl, rfl, h2, r2⟩ := trodAll_cons r1
    obtain ⟨rfl, rfl, rfl⟩ := trodAll_nil r2
    obtain rfl : args = #[v0, v1, v2] := by cases args; simp_all
    obtain ⟨l0, a0, n0, c0, rfl, w0, f0, m0, g0⟩ := Lay.open_sl (E := Me.LJb) Try.underlying22 Me.opens_jbs (hval 0 22 v0 rfl rfl) h0
    obtain ⟨l1, a1, n1, c1, rfl, w1, f1, m1, g1⟩ := Lay.open_sl (E := Me.LJb) Try.underlying22 Me.opens_jbs (hval 1 22 v1 rfl rfl) h1
    obtain ⟨x2, rfl, rfl, rfl, w2⟩ := open_int Try.underlying3 (hval 2 3 v2 rfl rfl) h2
    exact (Me.tells_walk (Lay.Sl.mk w0 f0 m0 g0) (Lay.Sl.mk w1 f1 m1 g1) w2)

theorem proved : Rows.MendTellsSaid :=
  OpenClaim.holds_of_wide 3 Try.f3 rfl rfl rfl rfl rfl rfl rfl ⟨rfl, rfl, rfl, rfl, rfl⟩ rfl rfl rfl rfl rfl (by kernel_rfl) Try.func3 (by kernel_rfl)
    (of_decide_eq_true (by kernel_rfl)) (by unfold Func.isWrapper; first | (rw [if_pos (by decide +kernel)]; kernel_rfl) | (rw [if_neg (by decide +kernel)]; exact ⟨rfl, rfl⟩))
    (fun os started H enc _ => lifted os started H enc)
#print axioms proved
end Go.Proofs.Ytlbpgaoindkgbaa.mendTells
