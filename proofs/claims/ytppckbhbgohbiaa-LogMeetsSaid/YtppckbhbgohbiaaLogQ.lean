/- Logs: the walk of LogMeets. -/
import Derived.Test.YtppckbhbgohbiaaLogM
import Derived.Deep.RegionWith
namespace Go.Proofs.Ytppckbhbgohbiaa.Lg
open Go.RowKit Go.Proofs.Ytppckbhbgohbiaa
set_option linter.unusedVariables false

set_option maxRecDepth 100000 in
set_option maxHeartbeats 4000000 in
theorem meets_walk {p1 p2 : Option Addr} {n1 n2 c1 c2 : Nat} {l leader : List Ent} {w : World} (h1 : LEnt.Row w p1 n1 l) (k1 : n1 ≤ c1) (m1 : c1 ≤ 9223372036854775807) (g1 : Pl p1 c1) (h2 : LEnt.Row w p2 n2 leader) (k2 : n2 ≤ c2) (m2 : c2 ≤ 9223372036854775807) (g2 : Pl p2 c2) {fr to : Int} (wa : (Lit.int .u8 fr).wf = true) (wp : (Lit.int .u8 to).wf = true) :
    Calls Try.prog 6 #[.slice p1 n1 c1, .slice p2 n2 c2, .int .u8 fr, .int .u8 to] w fun e w' => e = .returned (.bool true) ∧ Ext w w' := by
  have b1 := bd_u8 wa
  have b2 := bd_u8 wp
  have H1 := Lib.hid h1
  have H2 := Lib.hid h2
  have G1 := Lib.hid g1
  have G2 := Lib.hid g2
  have hx : Ext w w := Ext.refl _
  clear h1 h2 g1 g2 wa wp
  go_enter Try.func6, Try.ntmps6
  go_wp2_with fail
  refine (head_any _).mono ?_
  rintro e w1 ⟨rfl, hx1⟩
  replace hx := Ext.trans hx hx1
  clear hx1
  go_wp2_with fail
  refine (small_any _ _ _ _ _ (H1.out.ext hx)).mono ?_
  rintro e w1 ⟨B, rfl, hb, hx1⟩
  replace hx := Ext.trans hx hx1
  clear hx1
  cases B
  · clear hb
    go_wp2
    go_ret
    exact ⟨rfl, hx⟩
  have hs1 : n1 ≤ 60 := by have := (hb.1 rfl).1; rw [H1.out.1] at this; exact this
  clear hb
  go_wp2_with fail
  refine (small_any _ _ _ _ _ (H2.out.ext hx)).mono ?_
  rintro e w1 ⟨B, rfl, hb, hx1⟩
  replace hx := Ext.trans hx hx1
  clear hx1
  cases B
  · clear hb
    go_wp2
    go_ret
    exact ⟨rfl, hx⟩
  have hs2 : n2 ≤ 60 := by have := (hb.1 rfl).1; rw [H2.out.1] at this; exact this
  clear hb
  go_wp2_with fail
  refine (meet_any _ _ _ _ _ _ _ _ _ (H1.out.ext hx) (H2.out.ext hx)).mono ?_
  rintro e w1 ⟨B, rfl, hb, hx1⟩
  replace hx := Ext.trans hx hx1
  clear hx1
  cases B
  · clear hb
    go_wp2
    go_ret
    exact ⟨rfl, hx⟩
  have HME : Hid (MeetP l leader) := Lib.hid (hb.1 rfl)
  clear hb
  obtain ⟨P, hP⟩ : ∃ P : Nat, fr % ((n2 : Int) + 1) = (P : Int) := ⟨(fr % ((n2 : Int) + 1)).toNat, by have := Int.emod_nonneg fr (show (n2 : Int) + 1 ≠ 0 by omega); omega⟩
  have hPn : P ≤ n2 := by have := Int.emod_lt_of_pos fr (show 0 < (n2 : Int) + 1 by omega); omega
  obtain ⟨K, hK⟩ : ∃ K : Nat, to % ((n2 : Int) - (P : Int) + 1) = (K : Int) := ⟨(to % ((n2 : Int) - (P : Int) + 1)).toNat, by have := Int.emod_nonneg to (show (n2 : Int) - (P : Int) + 1 ≠ 0 by omega); omega⟩
  have hKn : P + K ≤ n2 := by have := Int.emod_lt_of_pos to (show 0 < (n2 : Int) - (P : Int) + 1 by omega); omega
  have q1 : ¬ ((n2 : Int) + 1 = 0) := by omega
  have q2 : ¬ ((n2 : Int) - (P : Int) + 1 = 0) := by omega
  have HMP := Lib.hid (fun hf => meets_put HME.out (p := P) (q := P + K) (by omega) (by rw [H2.out.1]; exact hKn) hf)
  have sl1 : ∀ w, (Instr.slice 22 (.slice p2 n2 c2) (some (.int .i64 (P : Int))) (some (.int .i64 ((P : Int) + (K : Int)))) none).run Try.prog w = .ok (.slice (cutP p2 c2 P LEnt.size) (P + K - P) (c2 - P)) w := fun w => run_cut Try.underlying22 info_size _ _ _ _ (P + K) _ _ rfl (by omega) (by omega) (by omega) w
  have HR1 : Hid (LEnt.Row w (cutP p2 c2 P LEnt.size) (P + K - P) ((leader.drop P).take (P + K - P)) ∧ Pl (cutP p2 c2 P LEnt.size) (c2 - P)) := Lib.hid ⟨H2.out.cut k2 G2.out P (P + K) (by omega) hKn, Pl.cut G2.out _ _⟩
  rw [show P + K - P = K by omega] at sl1 HR1
  generalize cutP p2 c2 P LEnt.size = Z at sl1 HR1
  have HPK : Hid (P + K - P = K) := Lib.hid (by omega)
  have k0 : (0 : Int) ≤ (P : Int) := by omega
  have HT : Hid (∀ w', Ext w w' → Calls Try.prog 22 #[.slice p2 n2 c2, .int .i64 P] w' fun e w'' => e = .returned (.int .i64 (termOf leader P)) ∧ w' = w'') := Lib.hid fun w' h => rterm_any _ _ _ _ _ (H2.out.ext h) P (by omega) (by omega)
  obtain ⟨T, hT⟩ : ∃ T, termOf leader P = T := ⟨_, rfl⟩
  have HT2 := Lib.hid hT
  rw [hT] at HT HMP
  clear hT
  have hxx : Ext w w1.drew := Ext.drew hx
  have HKc : Hid (K ≤ c2 - P ∧ c2 - P ≤ 9223372036854775807) := Lib.hid (by omega)
  by_cases hf : fitsB l P T = true
  · obtain ⟨M1, M2, M3⟩ := HMP.out hf
    rw [HPK.out] at M1 M2 M3
    have HM1 := Lib.hid M1
    have HM2 := Lib.hid M2
    have HM3 := Lib.hid M3
    have HF := Lib.hid hf
    clear hf M1 M2 M3
    go_wp2
    go_region_held3 (fun w' => Ext w w') (exact hxx) (first | (go_at_call 22; refine (HT.out _ hxx).mono ?_; rintro e w' ⟨rfl, rfl⟩) | (go_at_call 12; refine (put_s (H1.out.ext hxx) (HR1.out.1.ext hxx) k1 HKc.out.1 m1 HKc.out.2 G1.out HR1.out.2 (by omega) (by omega) P T HF.out).mono ?_; rintro e w2 ⟨⟨zA, nA, sA, rfl, hA, kA, mA, gA, bA⟩, hx2⟩; replace hxx := Ext.trans hxx hx2; clear hx2))
    have HA := Lib.hid hA
    have GA := Lib.hid gA
    have hnA : P + K ≤ nA := by have := HM2.out; rw [hA.1] at this; exact this
    generalize putL l P ((leader.drop P).take K) = A at HA HM1 HM2 HM3
    have sl2 : ∀ w, (Instr.slice 22 (.slice zA nA sA) none (some (.int .i64 ((P : Int) + (K : Int)))) none).run Try.prog w = .ok (.slice zA (P + K) sA) w := fun w => run_cut_to Try.underlying22 info_size _ _ _ (P + K) _ (by omega) (by omega) GA.out w
    have sl3 : ∀ w, (Instr.slice 22 (.slice p2 n2 c2) none (some (.int .i64 ((P : Int) + (K : Int)))) none).run Try.prog w = .ok (.slice p2 (P + K) c2) w := fun w => run_cut_to Try.underlying22 info_size _ _ _ (P + K) _ (by omega) (by omega) G2.out w
    have HRA : Hid (LEnt.Row w2 zA (P + K) (A.take (P + K))) := Lib.hid (HA.out.pre _ hnA)
    have HRL : Hid (LEnt.Row w2 p2 (P + K) (leader.take (P + K))) := Lib.hid ((H2.out.ext hxx).pre _ hKn)
    have HL2 : Hid (LEnt.Row w2 p2 n2 leader) := Lib.hid (H2.out.ext hxx)
    have hyy : Ext w2 w2.drew := Ext.drew (Ext.refl _)
    replace hx := hxx
    clear hA gA hxx HR1 HT sl1 HMP
    go_wp2
    go_region_held3 (fun w' => Ext w2 w') (exact hyy) (first | (go_at_call 23; refine (meet_any _ _ _ _ _ _ _ _ _ (HA.out.ext hyy) (HL2.out.ext hyy)).mono ?_; rintro e w3 ⟨B, rfl, hb, hx2⟩; obtain rfl : B = true := hb.2 HM1.out; replace hyy := Ext.trans hyy hx2; clear hx2 hb) | (go_at_call 21; refine (same_any _ _ _ _ _ _ _ _ _ (HRA.out.ext hyy) (HRL.out.ext hyy)).mono ?_; rintro e w4 ⟨rfl, hx2⟩; rw [decide_eq_true HM3.out]; replace hyy := Ext.trans hyy hx2; clear hx2))
    replace hx := Ext.trans hx hyy
    go_wp2
    go_ret
    exact ⟨rfl, hx⟩
  · have hf0 : fitsB l P T = false := by simpa using hf
    have HF := Lib.hid hf0
    clear hf hf0 HMP
    go_wp2
    go_region_held3 (fun w' => Ext w w') (exact hxx) (first | (go_at_call 22; refine (HT.out _ hxx).mono ?_; rintro e w' ⟨rfl, rfl⟩) | (go_at_call 12; refine (put_not _ _ _ _ _ _ (H1.out.ext hxx) _ _ HF.out).mono ?_; rintro e w' ⟨rfl, rfl⟩))
    go_wp2_with fail
    refine (HT.out _ hxx).mono ?_
    rintro e w' ⟨rfl, rfl⟩
    go_wp2_with fail
    refine (fits_any _ _ _ _ _ (H1.out.ext hxx) _ _).mono ?_
    rintro e w' ⟨rfl, rfl⟩
    rw [HF.out]
    go_wp2
    go_ret
    exact ⟨rfl, hxx⟩
end Go.Proofs.Ytppckbhbgohbiaa.Lg
