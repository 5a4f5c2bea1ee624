/- Jobs: behind as many steps as are told none is left. -/
import Derived.Test.YtlbpgaoindkgbaaMeL
namespace Go.Proofs.Ytlbpgaoindkgbaa.Me
open Go.RowKit Go.Proofs.Ytlbpgaoindkgbaa Go.Sort
set_option linter.unusedVariables false

theorem step_tot : ∀ {L : List Jb} {r : Int}, SmallL L → 0 ≤ r → totI (stepL L r).1 = max 0 (totI L - r)
  | [], r, _, hr => by simp [stepL, totI]; omega
  | x :: m, r, h, hr => by
    have hx := h x (by simp)
    have hm : SmallL m := fun a ha => h a (by simp [ha])
    have hb := tot_bd hm
    by_cases hc : r < x.l
    · have e : stepL (x :: m) r = (setl x (x.l - r) :: m, []) := by show (if r < x.l then _ else _) = _; rw [if_pos hc]
      rw [e]
      show totI (setl x (x.l - r) :: m) = max 0 (totI (x :: m) - r)
      rw [tot_cons, tot_cons]
      show x.l - r + totI m = max 0 (x.l + totI m - r)
      omega
    · have e : stepL (x :: m) r = ((stepL m (r - x.l)).1, setl x 0 :: (stepL m (r - x.l)).2) := by show (if r < x.l then _ else _) = _; rw [if_neg hc]
      rw [e, tot_cons]
      show totI (stepL m (r - x.l)).1 = _
      rw [step_tot hm (by omega)]
      omega
theorem qok_zero {L : List Jb} (h : QOk L) (h0 : totI L = 0) : L = [] := by
  cases L with
  | nil => rfl
  | cons x m =>
    have hx := may_l (h.1 x (by simp))
    have hm : SmallL m := fun a ha => by have := may_l (h.1 a (by simp [ha])); omega
    have hb := tot_bd hm
    rw [tot_cons] at h0
    omega
theorem qok_pos {L : List Jb} (h : QOk L) (h0 : 0 < totI L) : 0 < L.length := by
  cases L with
  | nil => simp [totI] at h0
  | cons x m => simp
theorem steps_facts {T b : Int} (hT : 0 ≤ T) (hb : 1 ≤ b) {N : Int} (hN : N = if T = 0 then 0 else if b < 1 then -1 else if 0 < T % b then T / b + 1 else T / b) : 0 ≤ N ∧ N ≤ T ∧ (N - 1) * b < T ∧ T ≤ N * b := by
  by_cases h0 : T = 0
  · rw [if_pos h0] at hN
    subst hN h0
    refine ⟨by omega, by omega, by omega, by omega⟩
  rw [if_neg h0, if_neg (by omega)] at hN
  have e := Int.mul_ediv_add_emod T b
  have hr0 : 0 ≤ T % b := Int.emod_nonneg _ (by omega)
  have hr1 : T % b < b := Int.emod_lt_of_pos _ (by omega)
  have hq0 : 0 ≤ T / b := Int.ediv_nonneg hT (by omega)
  obtain ⟨q, hq⟩ : ∃ q, T / b = q := ⟨_, rfl⟩
  obtain ⟨r, hr⟩ : ∃ r, T % b = r := ⟨_, rfl⟩
  rw [hq] at hN e hq0
  rw [hr] at hN e hr0 hr1
  have hqb : q ≤ b * q := by
    have := Int.mul_le_mul_of_nonneg_right hb hq0
    omega
  have hc : q * b = b * q := Int.mul_comm q b
  by_cases h : 0 < r
  · rw [if_pos h] at hN
    have h1 : (N - 1) * b = q * b := by rw [hN, show q + 1 - 1 = q by omega]
    have h2 : N * b = q * b + b := by rw [hN, Int.add_mul]; omega
    refine ⟨by omega, by omega, by omega, by omega⟩
  · rw [if_neg h] at hN
    have h1 : (N - 1) * b = q * b - b := by rw [hN, Int.sub_mul]; omega
    have h2 : N * b = q * b := by rw [hN]
    refine ⟨by omega, by omega, by omega, by omega⟩
theorem below_mul {j N b T : Int} (hb : 1 ≤ b) (h : j < N) (h1 : (N - 1) * b < T) : j * b < T := by
  have := Int.mul_le_mul_of_nonneg_right (show j ≤ N - 1 by omega) (show 0 ≤ b by omega)
  omega
theorem mu8 {x : Int} (h : (Lit.int .u8 x).wf = true) : 0 ≤ x ∧ x ≤ 255 := by
  simp [Lit.wf, IntKind.min, IntKind.max, IntKind.signed, IntKind.bits] at h
  exact h
theorem total_e (u : Value) (l : List Jb) (w : World) (hu : LJb.Sl w u l) (hs : SmallL l) (hn : l.length ≤ 1000) : Calls Try.prog 22 #[u] w fun e w' => e = .returned (.int .i64 (totI l)) ∧ Ext w w' :=
  (total_any u l w hu hs hn).mono fun e w' h => ⟨h.1, h.2 ▸ Ext.refl _⟩
def EndR (w0 : World) (T b N : Int) (v i : Value) (wr : World) : Prop := ∃ (j : Nat) (M : List Jb), i = .int .i64 j ∧ (j : Int) ≤ N ∧ Hid (LJb.Sl wr v M) ∧ Hid (QOk M) ∧ Hid (totI M = max 0 (T - (j : Int) * b)) ∧ Hid (M.length ≤ 40) ∧ Ext w0 wr
set_option maxRecDepth 100000 in
set_option maxHeartbeats 4000000 in
theorem ends_walk {u : Value} {l : List Jb} {by_ : Int} {w : World} (hu : LJb.Sl w u l) (hb : (Lit.int .u8 by_).wf = true) : Calls Try.prog 6 #[u, .int .u8 by_] w fun e w' => e = .returned (.bool true) ∧ Ext w w' := by
  obtain ⟨i0, hi0, hzi0, hzi1, hzi2⟩ := info_parts info_job
  obtain ⟨y0, y1⟩ := mu8 hb
  have HX := Lib.hid hu
  have hz : Ext w w := Ext.refl _
  clear hu hb
  go_enter Try.func6, Try.ntmps6
  go_wp2_with fail
  refine (head_v _).mono ?_
  rintro e w1 ⟨rfl, hx9⟩
  replace HX := Lib.hid (HX.out.ext hx9)
  replace hz := Ext.trans hz hx9
  clear hx9
  go_wp2_with fail
  refine (few_any _ l _ HX.out).mono ?_
  rintro e w2 ⟨⟨v1, rfl, hs⟩, hx9⟩
  replace HX := Lib.hid (HX.out.ext hx9)
  replace hz := Ext.trans hz hx9
  clear hx9
  have HF := Lib.hid hs
  clear hs
  go_wp2_with fail
  refine (rorder_v _ _ _ HF.out (by simp; omega)).mono ?_
  rintro e w3 ⟨⟨v2, rfl, hs⟩, hx9⟩
  replace HX := Lib.hid (HX.out.ext hx9)
  replace HF := Lib.hid (HF.out.ext hx9)
  replace hz := Ext.trans hz hx9
  clear hx9
  obtain ⟨L, hL⟩ : ∃ L, ordL (l.take 40) = L := ⟨_, rfl⟩
  have HQ : Hid (QOk L) := Lib.hid (by rw [← hL]; exact qok_ord _)
  have HN : Hid (L.length ≤ 40) := Lib.hid (by rw [← hL]; exact ord40 l)
  rw [hL] at hs
  have HL := Lib.hid hs
  clear hs hL
  obtain ⟨b, hb⟩ : ∃ b, 1 + by_ = b := ⟨_, rfl⟩
  have hb0 : 1 ≤ b := by omega
  have hb1 : b ≤ 256 := by omega
  have HTB : Hid (0 ≤ totI L ∧ totI L ≤ 2600) := Lib.hid (by have := tot_bd HQ.out.small; have := HN.out; omega)
  obtain ⟨T, hT⟩ : ∃ T, totI L = T := ⟨_, rfl⟩
  have HT := Lib.hid hT
  rw [hT] at HTB
  clear hT
  obtain ⟨N, hN⟩ : ∃ N, stepsI L b = N := ⟨_, rfl⟩
  have HNF : Hid (0 ≤ N ∧ N ≤ T ∧ (N - 1) * b < T ∧ T ≤ N * b) := Lib.hid (steps_facts HTB.out.1 hb0 (by rw [← hN]; unfold stepsI; rw [HT.out]))
  have HNN := Lib.hid hN
  clear hN
  go_wp2_with fail
  refine (steps_v _ L b _ HL.out HQ.out.small (by have := HN.out; omega) (mi64 (by omega))).mono ?_
  rintro e w4 ⟨rfl, hx9⟩
  replace HX := Lib.hid (HX.out.ext hx9)
  replace HF := Lib.hid (HF.out.ext hx9)
  replace HL := Lib.hid (HL.out.ext hx9)
  replace hz := Ext.trans hz hx9
  clear hx9
  rw [HNN.out]
  go_wp2_with fail
  refine (total_e _ L _ HL.out HQ.out.small (by have := HN.out; omega)).mono ?_
  rintro e w5 ⟨rfl, hx9⟩
  replace HX := Lib.hid (HX.out.ext hx9)
  replace HF := Lib.hid (HF.out.ext hx9)
  replace HL := Lib.hid (HL.out.ext hx9)
  replace hz := Ext.trans hz hx9
  clear hx9
  rw [HT.out]
  obtain ⟨n0, n1, n2, n3⟩ := HNF.out
  obtain ⟨t0, t1⟩ := HTB.out
  have hm1 : -1000000 ≤ (N - 1) * b ∧ (N - 1) * b ≤ 1000000 := by
    have h1 := Int.mul_le_mul_of_nonneg_right (show -1 ≤ N - 1 by omega) (show 0 ≤ b by omega)
    have h3 : -1 * b = -b := by omega
    omega
  have hm2 : 0 ≤ N * b ∧ N * b ≤ 1000000 := by
    have h1 : (N - 1) * b = N * b - b := by rw [Int.sub_mul]; omega
    omega
  obtain ⟨P1, hP1⟩ : ∃ P, (N - 1) * b = P := ⟨_, rfl⟩
  obtain ⟨P2, hP2⟩ : ∃ P, N * b = P := ⟨_, rfl⟩
  have HP1 := Lib.hid hP1
  have HP2 := Lib.hid hP2
  rw [hP1] at hm1 n2
  rw [hP2] at hm2 n3
  have d1 : decide (N < 0) = false := decide_eq_false (by omega)
  have d2 : decide (T < N) = false := decide_eq_false (by omega)
  have d3 : decide (T ≤ P1) = false := decide_eq_false (by omega)
  have d4 : decide (P2 < T) = false := decide_eq_false (by omega)
  have HZ := Lib.hid hz
  have HLK := HL
  clear hz
  go_wp2
  go_loopw [10, 11, 12, 13] (fun v i _ _ wr => EndR w5 T b N v i wr) (fun _ i _ _ _ => (N - intOf i).toNat)
  case atStart => exact ⟨0, L, rfl, n0, HL, HQ, Lib.hid (by rw [HT.out]; simp; omega), HN, Ext.refl _⟩
  case round =>
    obtain ⟨j, M, rfl, hj, HM, HQM, HTM, HNM, hx⟩ := hrel
    have HXR := Lib.hid hx
    clear hx
    by_cases hlt : (j : Int) < N
    · have hjb := below_mul hb0 hlt HNF.out.2.2.1
      have hpos : 0 < M.length := qok_pos HQM.out (by rw [HTM.out]; omega)
      have HM1 := HM
      obtain ⟨pm, nm, cm, rfl, hrm, _, _, _⟩ := HM1.out
      have hnm : ((nm : Int) == 0) = false := by have := hrm.1; simp; omega
      have HJB : Hid (((j + 1 : Nat) : Int) * b = (j : Int) * b + b) := Lib.hid (by push_cast; rw [Int.add_mul]; omega)
      have HPOS : Hid (0 < T - (j : Int) * b) := Lib.hid (by omega)
      clear hrm HM1 hjb hpos hP1 hP2
      go_wp2_with fail
      refine (step_v _ M b b _ HM.out HQM.out.small (by have := HNM.out; omega) (mi64 (by omega)) (by omega)).mono ?_
      rintro e w6 ⟨⟨v3, v4, rfl, hs, hs2⟩, hx9⟩
      have HS := Lib.hid hs
      have HQ1 : Hid (QOk (stepL M b).1) := Lib.hid (qok_step HQM.out (by omega))
      have HN1 : Hid ((stepL M b).1.length ≤ 40) := Lib.hid (by have := step_len M b; have := HNM.out; omega)
      have HX6 := Lib.hid (Ext.trans HXR.out hx9)
      clear hs hs2 hx9
      go_wp2_with fail
      refine (rright_v _ _ _ HS.out (by have := HN1.out; omega)).mono ?_
      rintro e w7 ⟨⟨b1, rfl, hb1⟩, hx9⟩
      obtain rfl : b1 = true := hb1.2 HQ1.out.right
      have HS7 := Lib.hid (HS.out.ext hx9)
      have HX7 := Lib.hid (Ext.trans HX6.out hx9)
      clear hx9 hb1
      go_wp2
      go_roundw
      case rel => exact ⟨j + 1, (stepL M b).1, by go_num, by omega, HS7, HQ1, Lib.hid (by rw [step_tot HQM.out.small (by omega), HTM.out, HJB.out]; have := HPOS.out; omega), HN1, HX7.out⟩
      case measure => simp [intOf]; omega
    · have hjn : (j : Int) = N := by omega
      have hM0 : totI M = 0 := by rw [HTM.out, hjn]; have := HNF.out.2.2.2; omega
      obtain rfl : M = [] := qok_zero HQM.out hM0
      obtain ⟨pm, nm, cm, rfl, hrm, _, _, _⟩ := HM.out
      obtain rfl : nm = 0 := by have := hrm.1; simpa using this.symm
      have HL2 := Lib.hid (HLK.out.ext HXR.out)
      have HL3 := HL2
      obtain ⟨pl, nl, cl, rfl, hrl, _, _, _⟩ := HL3.out
      have HNL : Hid (L.length = nl) := Lib.hid hrl.1
      clear hrm hrl HL3 hM0 hjn hP1 hP2
      by_cases hl0 : nl = 0
      · subst hl0
        go_wp2
        go_ret
        exact ⟨rfl, Ext.trans HZ.out HXR.out⟩
      · have hl1 : ((nl : Int) == 0) = false := by simp; omega
        have HST : Hid (stepsI L (-b) = -1) := Lib.hid (by
          have h1 : 0 < T := by
            have h2 : L ≠ [] := fun e => hl0 (by rw [← HNL.out, e]; rfl)
            have h3 : ¬ totI L = 0 := fun e => h2 (qok_zero HQ.out e)
            rw [HT.out] at h3; omega
          unfold stepsI
          rw [HT.out, if_neg (by omega), if_pos (by omega)])
        go_wp2_with fail
        refine (steps_v _ L (-b) _ HL2.out HQ.out.small (by have := HN.out; omega) (mi64 (by omega))).mono ?_
        rintro e w8 ⟨rfl, hx9⟩
        rw [HST.out]
        have HX8 := Lib.hid (Ext.trans HXR.out hx9)
        clear hx9
        go_wp2
        go_ret
        exact ⟨rfl, Ext.trans HZ.out HX8.out⟩
end Go.Proofs.Ytlbpgaoindkgbaa.Me
