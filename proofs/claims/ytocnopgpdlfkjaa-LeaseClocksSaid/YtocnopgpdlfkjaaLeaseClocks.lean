/- The statement on LeaseClocks: for every input the law answers true, and each argument reads afterwards as it read before. No condition. -/
import Derived.Test.YtocnopgpdlfkjaaFrame
import Derived.Test.YtocnopgpdlfkjaaLeU
namespace Go.Proofs.Ytocnopgpdlfkjaa.leaseClocks
open Go.ChangeShapes Go.WideShapes Go.ChangeAt Go.RowKit Go.Proofs.Ytocnopgpdlfkjaa
open Go.ChangeMaps (open_string shut_string)
set_option linter.unusedVariables false
set_option maxRecDepth 100000 in
theorem lifted (os : Os) (started : os.Started) (H : Type) (enc : TypeId × Value → H) :
    ReturnsInHanded {} Try.checked os 8 .any (Rows.leaseClocksSpec.pre6 enc Try.prog Try.f8 Rows.leaseClocksRow.domain false) (Rows.leaseClocksSpec.post enc Try.prog Try.f8 false true false false) := by
  refine law_lifted (tb := 4) os started H enc (by kernel_rfl) Try.func8 Try.underlying4 rfl (by kernel_rfl) rfl ?_
    (ChangeSpec.witness6 (enc := enc) (C := Try.checked) false ⟨#[], #[.slice none 0 0, .slice none 0 0, .slice none 0 0, .int .u8 0, .bool false], []⟩ 8 (by kernel_rfl) (by kernel_rfl) (by kernel_rfl) (by kernel_rfl)) ?_
  · intro ds h
    match ds, h with
    | [d0, d1, d2, d3, d4], _ => exact ⟨rfl, rfl, rfl⟩
  · intro W base args ds ps hval0 hA0 _
    have hval : ∀ (j : Nat) t v, Try.f8.params[j]? = some t → args[j]? = some v → Value.okWide Try.prog W .any base t v := hval0
    have hA : DataW.TrodAll enc Try.prog W 0 (fun _ => true) true Try.f8.params.toList args.toList ds ps := hA0
    rw [Try.params8] at hA hval
    clear hA0 hval0
    obtain ⟨v0, vs0, d0, ds0, p0, q0, hargs, rfl, rfl, h0, r0⟩ := trodAll_cons hA
    obtain ⟨v1, vs1, d1, ds1, p1, q1, rfl, rfl, rfl, h1, r1⟩ := trodAll_cons r0
    obtain ⟨v2, vs2, d2, ds2, p2, q2, rfl, rfl, rfl, h2, r2⟩ := trodAll_cons r1
    obtain ⟨v3, vs3, d3, ds3, p3, q3, rfl, rfl, rfl, h3, r3⟩ := trodAll_cons r2
    obtain ⟨v4, vs4, d4, ds4, p4, q4, rfl, rfl, rfl, h4, r4⟩ := trodAll_cons r3
    obtain ⟨rfl, rfl, rfl⟩ := trodAll_nil r4
    obtain rfl : args = #[v0, v1, v2, v3, v4] := by cases args; simp_all
    obtain ⟨a0, n0, c0, z0, rfl, w0, f0, l0, m0, g0⟩ := open_rowI (k := .u16) Try.underlying51 Try.underlying48 (by kernel_rfl) (hval 0 51 v0 rfl rfl) h0
    obtain ⟨a1, n1, c1, z1, rfl, w1, f1, l1, m1, g1⟩ := open_rowI (k := .u16) Try.underlying51 Try.underlying48 (by kernel_rfl) (hval 1 51 v1 rfl rfl) h1
    obtain ⟨a2, n2, c2, z2, rfl, w2, f2, l2, m2, g2⟩ := open_rowI (k := .u16) Try.underlying51 Try.underlying48 (by kernel_rfl) (hval 2 51 v2 rfl rfl) h2
    obtain ⟨x3, rfl, rfl, rfl, w3⟩ := open_int Try.underlying5 (hval 3 5 v3 rfl rfl) h3
    obtain ⟨x4, rfl, rfl, rfl⟩ := open_bool Try.underlying4 (hval 4 4 v4 rfl rfl) h4
    exact (Ls.clocks_walk w0 w1 w2 f0 f1 f2 w3)

theorem proved : Rows.LeaseClocksSaid :=
  OpenClaim.holds_of_wide 8 Try.f8 rfl rfl rfl rfl rfl rfl rfl ⟨rfl, rfl, rfl, rfl, rfl⟩ rfl rfl rfl rfl rfl (by kernel_rfl) Try.func8 (by kernel_rfl)
    (of_decide_eq_true (by kernel_rfl)) (by unfold Func.isWrapper; first | (rw [if_pos (by decide +kernel)]; kernel_rfl) | (rw [if_neg (by decide +kernel)]; exact ⟨rfl, rfl⟩))
    (fun os started H enc _ => lifted os started H enc)
#print axioms proved
end Go.Proofs.Ytocnopgpdlfkjaa.leaseClocks
