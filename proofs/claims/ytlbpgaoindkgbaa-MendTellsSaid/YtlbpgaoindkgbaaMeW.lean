/- Jobs: all as the document says. -/
import Derived.Test.YtlbpgaoindkgbaaMeV
namespace Go.Proofs.Ytlbpgaoindkgbaa.Me
open Go.RowKit Go.Proofs.Ytlbpgaoindkgbaa Go.Sort
set_option linter.unusedVariables false

def RStepsR (w0 : World) (T b N : Int) (v i : Value) (wr : World) : Prop := ∃ (j : Nat) (M : List Jb), i = .int .i64 j ∧ (j : Int) ≤ N ∧ Hid (LJb.Sl wr v M) ∧ Hid (QOk M) ∧ Hid (totI M = max 0 (T - (j : Int) * b)) ∧ Hid (M.length ≤ 40) ∧ Hid (Ext w0 wr)
theorem qok_both {L : List Jb} (h : QOk L) : ∀ y ∈ L, 1 ≤ y.l ∧ y.l ≤ 65 := fun y hy => may_l (h.1 y hy)
set_option maxRecDepth 100000 in
set_option maxHeartbeats 4000000 in
theorem rsteps_v (u : Value) (L : List Jb) (b : Int) (w : World) (hu : LJb.Sl w u L) (hq : QOk L) (hn : L.length ≤ 40) (hb : (Lit.int .i64 b).wf = true) : Calls Try.prog 21 #[u, .int .i64 b] w fun e w' => e = .returned (.int .i64 (stepsI L b)) ∧ Ext w w' := by
  have HQ := Lib.hid hq
  have HU := Lib.hid hu
  have HN := Lib.hid hn
  have HWB := Lib.hid hb
  obtain ⟨p, n, c, rfl, hl, _, _, _⟩ := hu
  have HNL : Hid (L.length = n) := Lib.hid hl.1
  have hn63 := hl.2.1
  clear hl hq hn hb
  by_cases h0 : n = 0
  · have hL : L = [] := List.eq_nil_of_length_eq_zero (by rw [HNL.out, h0])
    have e : Hid (stepsI L b = 0) := Lib.hid (by rw [hL]; rfl)
    clear hL
    subst h0
    go_enter Try.func21, Try.ntmps21
    go_wp2
    go_ret
    exact ⟨by rw [e.out]; rfl, Ext.refl _⟩
  have hn0 : ((n : Int) == 0) = false := by simp; omega
  have HT0 : Hid (¬ totI L = 0) := Lib.hid (fun e => h0 (by rw [← HNL.out, qok_zero HQ.out e]; rfl))
  by_cases h1 : b < 1
  · have hd1 : decide (b < 1) = true := decide_eq_true h1
    have e : Hid (stepsI L b = -1) := Lib.hid (by unfold stepsI; rw [if_neg HT0.out, if_pos h1])
    clear h1 h0
    go_enter Try.func21, Try.ntmps21
    go_wp2
    go_ret
    exact ⟨by rw [e.out]; rfl, Ext.refl _⟩
  have hd1 : decide (b < 1) = false := decide_eq_false h1
  have hb0 : 1 ≤ b := by omega
  obtain ⟨N, hN⟩ : ∃ N, stepsI L b = N := ⟨_, rfl⟩
  have HNF : Hid (0 ≤ N ∧ N ≤ totI L ∧ (N - 1) * b < totI L ∧ totI L ≤ N * b) := Lib.hid (steps_facts (by have := tot_bd HQ.out.small; omega) hb0 (by rw [← hN]; rfl))
  have HNN := Lib.hid hN
  have HTB : Hid (totI L ≤ 2600) := Lib.hid (by have := tot_bd HQ.out.small; have := HN.out; omega)
  obtain ⟨T, hT⟩ : ∃ T, totI L = T := ⟨_, rfl⟩
  have HT := Lib.hid hT
  rw [hT] at HNF HTB
  clear hN hT h0 h1
  go_enter Try.func21, Try.ntmps21
  go_wp2
  go_loopw [0, 5, 6, 7] (fun v i _ _ wr => RStepsR w T b N v i wr) (fun _ i _ _ _ => (N - intOf i).toNat)
  case atStart => exact ⟨0, L, rfl, HNF.out.1, HU, HQ, Lib.hid (by rw [HT.out]; simp; have := HNF.out; omega), HN, Lib.hid (Ext.refl _)⟩
  case round =>
    obtain ⟨j, M, rfl, hj, HM, HQM, HTM, HNM, HXR⟩ := hrel
    have HM1 := HM
    obtain ⟨pm, nm, cm, rfl, hrm, _, _, _⟩ := HM1.out
    have HNMM : Hid (M.length = nm) := Lib.hid hrm.1
    clear hrm HM1
    by_cases hz : nm = 0
    · subst hz
      have hM : M = [] := List.eq_nil_of_length_eq_zero HNMM.out
      have hjN : (j : Int) = N := by
        by_cases h : (j : Int) < N
        · have h1 := below_mul hb0 h HNF.out.2.2.1
          have h2 := HTM.out
          rw [hM] at h2
          simp [totI] at h2
          omega
        · omega
      have e : Hid (stepsI L b = (j : Int)) := Lib.hid (by rw [HNN.out, hjN])
      clear hM hjN
      go_wp2
      go_ret
      exact ⟨by rw [e.out]; rfl, HXR.out⟩
    · have hlt : (j : Int) < N := by
        have h3 : ¬ totI M = 0 := fun e => hz (by rw [← HNMM.out, qok_zero HQM.out e]; rfl)
        have h4 := HTM.out
        have h5 := HNF.out.2.2.2
        by_cases h : (j : Int) < N
        · exact h
        · have : (j : Int) = N := by omega
          rw [this] at h4
          omega
      have hn2 : (0 : Int) < (nm : Int) := by omega
      have HPOS : Hid (0 < T - (j : Int) * b) := Lib.hid (by have := below_mul hb0 hlt HNF.out.2.2.1; omega)
      have HJB : Hid (((j + 1 : Nat) : Int) * b = (j : Int) * b + b) := Lib.hid (by push_cast; rw [Int.add_mul]; omega)
      have hNb : N ≤ 2600 := by have := HNF.out.2.1; have := HTB.out; omega
      go_wp2_with fail
      refine (rstep_v _ M b b _ HM.out (qok_both HQM.out) (by have := HNM.out; omega) HWB.out (by omega)).mono ?_
      rintro e w6 ⟨⟨v3, v4, rfl, hs, hs2⟩, hx9⟩
      have HS := Lib.hid hs
      have HQ1 : Hid (QOk (stepL M b).1) := Lib.hid (qok_step HQM.out (by omega))
      have HN1 : Hid ((stepL M b).1.length ≤ 40) := Lib.hid (by have := step_len M b; have := HNM.out; omega)
      have HX6 := Lib.hid (Ext.trans HXR.out hx9)
      clear hs hs2 hx9
      go_wp2
      go_roundw
      case rel => exact ⟨j + 1, (stepL M b).1, by go_num, by omega, HS, HQ1, Lib.hid (by rw [step_tot HQM.out.small (by omega), HTM.out, HJB.out]; have := HPOS.out; omega), HN1, HX6⟩
      case measure => simp [intOf]; omega
set_option maxRecDepth 100000 in
set_option maxHeartbeats 4000000 in
theorem tells_walk {u v : Value} {l k : List Jb} {bud : Int} {w : World} (hu : LJb.Sl w u l) (hv : LJb.Sl w v k) (hb : (Lit.int .i64 bud).wf = true) : Calls Try.prog 3 #[u, v, .int .i64 bud] w fun e w' => e = .returned (.bool true) ∧ Ext w w' := by
  obtain ⟨R, hR⟩ : ∃ R, R = max bud 0 := ⟨_, rfl⟩
  have HR := Lib.hid hR
  have HWB := Lib.hid hb
  have HX := Lib.hid hu
  have HY := Lib.hid hv
  have hz : Ext w w := Ext.refl _
  clear hb hu hv hR
  go_enter Try.func3, Try.ntmps3
  go_wp2_with fail
  refine (head_v _).mono ?_
  rintro e w1 ⟨rfl, hx9⟩
  replace HX := Lib.hid (HX.out.ext hx9)
  replace HY := Lib.hid (HY.out.ext hx9)
  replace hz := Ext.trans hz hx9
  clear hx9
  go_wp2_with fail
  refine (few_any _ l _ HX.out).mono ?_
  rintro e w2 ⟨⟨v1, rfl, hs⟩, hx9⟩
  replace HX := Lib.hid (HX.out.ext hx9)
  replace HY := Lib.hid (HY.out.ext hx9)
  replace hz := Ext.trans hz hx9
  clear hx9
  obtain ⟨A, hA⟩ : ∃ A, l.take 40 = A := ⟨_, rfl⟩
  have HNA : Hid (A.length ≤ 40) := Lib.hid (by rw [← hA]; simp; omega)
  rw [hA] at hs
  have HA := Lib.hid hs
  clear hs hA
  go_wp2_with fail
  refine (few_any _ k _ HY.out).mono ?_
  rintro e w3 ⟨⟨v2, rfl, hs⟩, hx9⟩
  replace HX := Lib.hid (HX.out.ext hx9)
  replace HY := Lib.hid (HY.out.ext hx9)
  replace HA := Lib.hid (HA.out.ext hx9)
  replace hz := Ext.trans hz hx9
  clear hx9
  obtain ⟨B, hB⟩ : ∃ B, k.take 40 = B := ⟨_, rfl⟩
  have HNB : Hid (B.length ≤ 40) := Lib.hid (by rw [← hB]; simp; omega)
  rw [hB] at hs
  have HB := Lib.hid hs
  clear hs hB
  go_wp2_with fail
  refine (rorder_v _ _ _ HA.out (by have := HNA.out; omega)).mono ?_
  rintro e w4 ⟨⟨v3, rfl, hs⟩, hx9⟩
  replace HX := Lib.hid (HX.out.ext hx9)
  replace HY := Lib.hid (HY.out.ext hx9)
  replace HA := Lib.hid (HA.out.ext hx9)
  replace HB := Lib.hid (HB.out.ext hx9)
  replace hz := Ext.trans hz hx9
  clear hx9
  obtain ⟨L, hL⟩ : ∃ L, ordL A = L := ⟨_, rfl⟩
  have HQL : Hid (QOk L) := Lib.hid (by rw [← hL]; exact qok_ord _)
  have HNL : Hid (L.length ≤ 40) := Lib.hid (by rw [← hL]; have := ord_le A; have := HNA.out; omega)
  have HOL := Lib.hid hL
  rw [hL] at hs
  have HL := Lib.hid hs
  clear hs hL
  go_wp2_with fail
  refine (rorder_v _ _ _ HB.out (by have := HNB.out; omega)).mono ?_
  rintro e w5 ⟨⟨v4, rfl, hs⟩, hx9⟩
  replace HX := Lib.hid (HX.out.ext hx9)
  replace HY := Lib.hid (HY.out.ext hx9)
  replace HA := Lib.hid (HA.out.ext hx9)
  replace HB := Lib.hid (HB.out.ext hx9)
  replace HL := Lib.hid (HL.out.ext hx9)
  replace hz := Ext.trans hz hx9
  clear hx9
  obtain ⟨M, hL⟩ : ∃ L, ordL B = L := ⟨_, rfl⟩
  have HQM : Hid (QOk M) := Lib.hid (by rw [← hL]; exact qok_ord _)
  have HNM : Hid (M.length ≤ 40) := Lib.hid (by rw [← hL]; have := ord_le B; have := HNB.out; omega)
  have HOM := Lib.hid hL
  rw [hL] at hs
  have HM := Lib.hid hs
  clear hs hL
  go_wp2_with fail
  refine (step_v _ L bud R _ HL.out HQL.out.small (by have := HNL.out; omega) HWB.out HR.out).mono ?_
  rintro e w6 ⟨⟨v5, v6, rfl, hs, hs2⟩, hx9⟩
  replace HX := Lib.hid (HX.out.ext hx9)
  replace HY := Lib.hid (HY.out.ext hx9)
  replace HA := Lib.hid (HA.out.ext hx9)
  replace HB := Lib.hid (HB.out.ext hx9)
  replace HL := Lib.hid (HL.out.ext hx9)
  replace HM := Lib.hid (HM.out.ext hx9)
  replace hz := Ext.trans hz hx9
  clear hx9
  have HP := Lib.hid hs
  have HE := Lib.hid hs2
  clear hs hs2
  go_wp2_with fail
  refine (rstep_v _ L bud R _ HL.out (qok_both HQL.out) (by have := HNL.out; omega) HWB.out HR.out).mono ?_
  rintro e w7 ⟨⟨v7, v8, rfl, hs, hs2⟩, hx9⟩
  replace HX := Lib.hid (HX.out.ext hx9)
  replace HY := Lib.hid (HY.out.ext hx9)
  replace HA := Lib.hid (HA.out.ext hx9)
  replace HB := Lib.hid (HB.out.ext hx9)
  replace HL := Lib.hid (HL.out.ext hx9)
  replace HM := Lib.hid (HM.out.ext hx9)
  replace HP := Lib.hid (HP.out.ext hx9)
  replace HE := Lib.hid (HE.out.ext hx9)
  replace hz := Ext.trans hz hx9
  clear hx9
  have HP2 := Lib.hid hs
  have HE2 := Lib.hid hs2
  clear hs hs2
  go_wp2_with fail
  refine (right_v _ A _ HA.out (by have := HNA.out; omega)).mono ?_
  rintro e w8 ⟨⟨b1, rfl, hb1⟩, hx9⟩
  replace HX := Lib.hid (HX.out.ext hx9)
  replace HY := Lib.hid (HY.out.ext hx9)
  replace HA := Lib.hid (HA.out.ext hx9)
  replace HB := Lib.hid (HB.out.ext hx9)
  replace HL := Lib.hid (HL.out.ext hx9)
  replace HM := Lib.hid (HM.out.ext hx9)
  replace HP := Lib.hid (HP.out.ext hx9)
  replace HE := Lib.hid (HE.out.ext hx9)
  replace HP2 := Lib.hid (HP2.out.ext hx9)
  replace HE2 := Lib.hid (HE2.out.ext hx9)
  replace hz := Ext.trans hz hx9
  clear hx9
  have HB1 := Lib.hid hb1
  clear hb1
  go_wp2_with fail
  refine (rright_v _ A _ HA.out (by have := HNA.out; omega)).mono ?_
  rintro e w9 ⟨⟨b2, rfl, hb2⟩, hx9⟩
  replace HX := Lib.hid (HX.out.ext hx9)
  replace HY := Lib.hid (HY.out.ext hx9)
  replace HA := Lib.hid (HA.out.ext hx9)
  replace HB := Lib.hid (HB.out.ext hx9)
  replace HL := Lib.hid (HL.out.ext hx9)
  replace HM := Lib.hid (HM.out.ext hx9)
  replace HP := Lib.hid (HP.out.ext hx9)
  replace HE := Lib.hid (HE.out.ext hx9)
  replace HP2 := Lib.hid (HP2.out.ext hx9)
  replace HE2 := Lib.hid (HE2.out.ext hx9)
  replace hz := Ext.trans hz hx9
  clear hx9
  obtain rfl : b2 = b1 := Bool.eq_iff_iff.2 (hb2.trans HB1.out.symm)
  clear hb2 HB1
  have hbb : (b2 == b2) = true := by cases b2 <;> rfl
  go_wp2_with fail
  refine (order_sl _ A _ HA.out (by have := HNA.out; omega)).mono ?_
  rintro e w10 ⟨⟨v9, rfl, hs⟩, hx9⟩
  replace HX := Lib.hid (HX.out.ext hx9)
  replace HY := Lib.hid (HY.out.ext hx9)
  replace HA := Lib.hid (HA.out.ext hx9)
  replace HB := Lib.hid (HB.out.ext hx9)
  replace HL := Lib.hid (HL.out.ext hx9)
  replace HM := Lib.hid (HM.out.ext hx9)
  replace HP := Lib.hid (HP.out.ext hx9)
  replace HE := Lib.hid (HE.out.ext hx9)
  replace HP2 := Lib.hid (HP2.out.ext hx9)
  replace HE2 := Lib.hid (HE2.out.ext hx9)
  replace hz := Ext.trans hz hx9
  clear hx9
  rw [HOL.out] at hs
  have HS1 := Lib.hid hs
  clear hs
  go_wp2_with fail
  refine (same_v _ _ _ _ _ HS1.out HL.out).mono ?_
  rintro e w11 ⟨rfl, hx9⟩
  replace HX := Lib.hid (HX.out.ext hx9)
  replace HY := Lib.hid (HY.out.ext hx9)
  replace HA := Lib.hid (HA.out.ext hx9)
  replace HB := Lib.hid (HB.out.ext hx9)
  replace HL := Lib.hid (HL.out.ext hx9)
  replace HM := Lib.hid (HM.out.ext hx9)
  replace HP := Lib.hid (HP.out.ext hx9)
  replace HE := Lib.hid (HE.out.ext hx9)
  replace HP2 := Lib.hid (HP2.out.ext hx9)
  replace HE2 := Lib.hid (HE2.out.ext hx9)
  replace HS1 := Lib.hid (HS1.out.ext hx9)
  replace hz := Ext.trans hz hx9
  clear hx9
  rw [decide_eq_true rfl]
  go_wp2_with fail
  refine (renew_v _ _ L M _ HL.out HM.out (by have := HNL.out; omega) (by have := HNM.out; omega)).mono ?_
  rintro e w12 ⟨⟨v10, rfl, hs⟩, hx9⟩
  replace HX := Lib.hid (HX.out.ext hx9)
  replace HY := Lib.hid (HY.out.ext hx9)
  replace HA := Lib.hid (HA.out.ext hx9)
  replace HB := Lib.hid (HB.out.ext hx9)
  replace HL := Lib.hid (HL.out.ext hx9)
  replace HM := Lib.hid (HM.out.ext hx9)
  replace HP := Lib.hid (HP.out.ext hx9)
  replace HE := Lib.hid (HE.out.ext hx9)
  replace HP2 := Lib.hid (HP2.out.ext hx9)
  replace HE2 := Lib.hid (HE2.out.ext hx9)
  replace HS1 := Lib.hid (HS1.out.ext hx9)
  replace hz := Ext.trans hz hx9
  clear hx9
  have HS2 := Lib.hid hs
  clear hs
  go_wp2_with fail
  refine (rrenew_v _ _ L M _ HL.out HM.out (by have := HNM.out; omega)).mono ?_
  rintro e w13 ⟨⟨v11, rfl, hs⟩, hx9⟩
  replace HX := Lib.hid (HX.out.ext hx9)
  replace HY := Lib.hid (HY.out.ext hx9)
  replace HA := Lib.hid (HA.out.ext hx9)
  replace HB := Lib.hid (HB.out.ext hx9)
  replace HL := Lib.hid (HL.out.ext hx9)
  replace HM := Lib.hid (HM.out.ext hx9)
  replace HP := Lib.hid (HP.out.ext hx9)
  replace HE := Lib.hid (HE.out.ext hx9)
  replace HP2 := Lib.hid (HP2.out.ext hx9)
  replace HE2 := Lib.hid (HE2.out.ext hx9)
  replace HS1 := Lib.hid (HS1.out.ext hx9)
  replace HS2 := Lib.hid (HS2.out.ext hx9)
  replace hz := Ext.trans hz hx9
  clear hx9
  have HS3 := Lib.hid hs
  clear hs
  go_wp2_with fail
  refine (same_v _ _ _ _ _ HS2.out HS3.out).mono ?_
  rintro e w14 ⟨rfl, hx9⟩
  replace HX := Lib.hid (HX.out.ext hx9)
  replace HY := Lib.hid (HY.out.ext hx9)
  replace HA := Lib.hid (HA.out.ext hx9)
  replace HB := Lib.hid (HB.out.ext hx9)
  replace HL := Lib.hid (HL.out.ext hx9)
  replace HM := Lib.hid (HM.out.ext hx9)
  replace HP := Lib.hid (HP.out.ext hx9)
  replace HE := Lib.hid (HE.out.ext hx9)
  replace HP2 := Lib.hid (HP2.out.ext hx9)
  replace HE2 := Lib.hid (HE2.out.ext hx9)
  replace HS1 := Lib.hid (HS1.out.ext hx9)
  replace HS2 := Lib.hid (HS2.out.ext hx9)
  replace HS3 := Lib.hid (HS3.out.ext hx9)
  replace hz := Ext.trans hz hx9
  clear hx9
  rw [decide_eq_true rfl]
  go_wp2_with fail
  refine (same_v _ _ _ _ _ HP.out HP2.out).mono ?_
  rintro e w15 ⟨rfl, hx9⟩
  replace HX := Lib.hid (HX.out.ext hx9)
  replace HY := Lib.hid (HY.out.ext hx9)
  replace HA := Lib.hid (HA.out.ext hx9)
  replace HB := Lib.hid (HB.out.ext hx9)
  replace HL := Lib.hid (HL.out.ext hx9)
  replace HM := Lib.hid (HM.out.ext hx9)
  replace HP := Lib.hid (HP.out.ext hx9)
  replace HE := Lib.hid (HE.out.ext hx9)
  replace HP2 := Lib.hid (HP2.out.ext hx9)
  replace HE2 := Lib.hid (HE2.out.ext hx9)
  replace HS1 := Lib.hid (HS1.out.ext hx9)
  replace HS2 := Lib.hid (HS2.out.ext hx9)
  replace HS3 := Lib.hid (HS3.out.ext hx9)
  replace hz := Ext.trans hz hx9
  clear hx9
  rw [decide_eq_true rfl]
  go_wp2_with fail
  refine (same_v _ _ _ _ _ HE.out HE2.out).mono ?_
  rintro e w16 ⟨rfl, hx9⟩
  replace HX := Lib.hid (HX.out.ext hx9)
  replace HY := Lib.hid (HY.out.ext hx9)
  replace HA := Lib.hid (HA.out.ext hx9)
  replace HB := Lib.hid (HB.out.ext hx9)
  replace HL := Lib.hid (HL.out.ext hx9)
  replace HM := Lib.hid (HM.out.ext hx9)
  replace HP := Lib.hid (HP.out.ext hx9)
  replace HE := Lib.hid (HE.out.ext hx9)
  replace HP2 := Lib.hid (HP2.out.ext hx9)
  replace HE2 := Lib.hid (HE2.out.ext hx9)
  replace HS1 := Lib.hid (HS1.out.ext hx9)
  replace HS2 := Lib.hid (HS2.out.ext hx9)
  replace HS3 := Lib.hid (HS3.out.ext hx9)
  replace hz := Ext.trans hz hx9
  clear hx9
  rw [decide_eq_true rfl]
  obtain ⟨st, hst⟩ : ∃ st, stepsI L bud = st := ⟨_, rfl⟩
  have HST := Lib.hid hst
  clear hst
  have hss : (st == st) = true := by simp
  go_wp2_with fail
  refine (steps_v _ L bud _ HL.out HQL.out.small (by have := HNL.out; omega) HWB.out).mono ?_
  rintro e w17 ⟨rfl, hx9⟩
  replace HX := Lib.hid (HX.out.ext hx9)
  replace HY := Lib.hid (HY.out.ext hx9)
  replace HA := Lib.hid (HA.out.ext hx9)
  replace HB := Lib.hid (HB.out.ext hx9)
  replace HL := Lib.hid (HL.out.ext hx9)
  replace HM := Lib.hid (HM.out.ext hx9)
  replace HP := Lib.hid (HP.out.ext hx9)
  replace HE := Lib.hid (HE.out.ext hx9)
  replace HP2 := Lib.hid (HP2.out.ext hx9)
  replace HE2 := Lib.hid (HE2.out.ext hx9)
  replace HS1 := Lib.hid (HS1.out.ext hx9)
  replace HS2 := Lib.hid (HS2.out.ext hx9)
  replace HS3 := Lib.hid (HS3.out.ext hx9)
  replace hz := Ext.trans hz hx9
  clear hx9
  rw [HST.out]
  go_wp2_with fail
  refine (rsteps_v _ L bud _ HL.out HQL.out HNL.out HWB.out).mono ?_
  rintro e w18 ⟨rfl, hx9⟩
  replace HX := Lib.hid (HX.out.ext hx9)
  replace HY := Lib.hid (HY.out.ext hx9)
  replace HA := Lib.hid (HA.out.ext hx9)
  replace HB := Lib.hid (HB.out.ext hx9)
  replace HL := Lib.hid (HL.out.ext hx9)
  replace HM := Lib.hid (HM.out.ext hx9)
  replace HP := Lib.hid (HP.out.ext hx9)
  replace HE := Lib.hid (HE.out.ext hx9)
  replace HP2 := Lib.hid (HP2.out.ext hx9)
  replace HE2 := Lib.hid (HE2.out.ext hx9)
  replace HS1 := Lib.hid (HS1.out.ext hx9)
  replace HS2 := Lib.hid (HS2.out.ext hx9)
  replace HS3 := Lib.hid (HS3.out.ext hx9)
  replace hz := Ext.trans hz hx9
  clear hx9
  rw [HST.out]
  go_wp2
  go_ret
  exact ⟨rfl, hz⟩
end Go.Proofs.Ytlbpgaoindkgbaa.Me
