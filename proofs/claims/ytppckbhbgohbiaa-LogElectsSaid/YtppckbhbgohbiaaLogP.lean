/- Logs: what putting does; the walk of LogPut. -/
import Derived.Test.YtppckbhbgohbiaaLogK
import Derived.Deep.RegionHeld3
import Derived.Deep.RegionWith
namespace Go.Proofs.Ytppckbhbgohbiaa.Lg
open Go.RowKit Go.Proofs.Ytppckbhbgohbiaa
set_option linter.unusedVariables false

theorem agree_full : ∀ (l m : List Ent), m <+: l → agree l m = m.length
  | [], m, h => by
    obtain rfl : m = [] := by simpa using h
    rfl
  | x :: l, [], _ => by simp [agree]
  | x :: l, y :: m, h => by
    rw [List.cons_prefix_cons] at h
    have := agree_full l m h.2
    simp [agree, h.1, this]
theorem agree_take : ∀ (l m : List Ent), l.take (agree l m) = m.take (agree l m)
  | [], m => by simp [agree]
  | x :: l, [] => by simp [agree]
  | x :: l, y :: m => by
    unfold agree
    split
    · rename_i h
      simp [h, agree_take l m]
    · simp
/-- what was put stands there -/
theorem putL_prefix (l more : List Ent) (a : Nat) (ha : a ≤ l.length) : more <+: (putL l a more).drop a := by
  have ht := agree_take (l.drop a) more
  have hle := agree_le (l.drop a) more
  rw [List.length_drop] at hle
  unfold putL
  by_cases h : agree (l.drop a) more = more.length
  · rw [if_pos h]
    rw [h, List.take_length] at ht
    rw [← ht]
    exact List.take_prefix _ _
  · rw [if_neg h]
    rw [List.drop_append_of_le_length (by rw [List.length_take]; omega), List.drop_take, show a + agree (l.drop a) more - a = agree (l.drop a) more by omega, ht, List.take_append_drop]
    exact List.prefix_refl _
theorem putL_take (l more : List Ent) (a : Nat) (ha : a ≤ l.length) : (putL l a more).take a = l.take a := by
  have hle := agree_le (l.drop a) more
  rw [List.length_drop] at hle
  unfold putL
  by_cases h : agree (l.drop a) more = more.length
  · rw [if_pos h]
  · rw [if_neg h, List.take_append_of_le_length (by rw [List.length_take]; omega), List.take_take, Nat.min_eq_left (by omega)]
theorem putL_sub (l more : List Ent) (a : Nat) (ha : a ≤ l.length) : ((putL l a more).drop a).take more.length = more := (List.prefix_iff_eq_take.1 (putL_prefix l more a ha)).symm
theorem putL_long (l more : List Ent) (a : Nat) (ha : a ≤ l.length) : a + more.length ≤ (putL l a more).length := by
  have h1 := (putL_prefix l more a ha).length_le
  have h2 := congrArg List.length (putL_take l more a ha)
  rw [List.length_drop] at h1
  rw [List.length_take, List.length_take] at h2
  omega
theorem putL_of_prefix (l more : List Ent) (a : Nat) (h : more <+: l.drop a) : putL l a more = l := by
  unfold putL; rw [if_pos (agree_full _ _ h)]
theorem putL_again (l more : List Ent) (a k : Nat) (ha : a ≤ l.length) : putL (putL l a more) a (more.take k) = putL l a more :=
  putL_of_prefix _ _ _ ((List.take_prefix k more).trans (putL_prefix l more a ha))
theorem putL_same (l more : List Ent) (a : Nat) (ha : a ≤ l.length) (h : (putL l a more).length ≠ a + more.length) : putL l a more = l := by
  have hle := agree_le (l.drop a) more
  rw [List.length_drop] at hle
  unfold putL at h ⊢
  by_cases e : agree (l.drop a) more = more.length
  · rw [if_pos e]
  · rw [if_neg e] at h
    exfalso
    apply h
    simp
    omega
theorem termOf_take {l m : List Ent} {a : Nat} (h : l.take a = m.take a) (hl : a ≤ l.length) (hm : a ≤ m.length) : termOf l a = termOf m a := by
  cases a with
  | zero => rfl
  | succ i =>
    have e : ((i + 1 : Nat) : Int) = (i : Int) + 1 := by omega
    rw [e, termOf_succ, termOf_succ]
    have h2 := congrArg (·[i]?) h
    simp only [List.getElem?_take] at h2
    rw [if_pos (by omega), if_pos (by omega)] at h2
    rw [List.getD_eq_getElem?_getD, List.getD_eq_getElem?_getD, h2]
theorem fits_put {l : List Ent} (more : List Ent) (a : Nat) (ha : a ≤ l.length) : fitsB l a (termOf l a) = true ∧ fitsB (putL l a more) a (termOf l a) = true := by
  have h1 := putL_long l more a ha
  refine ⟨decide_eq_true ⟨by omega, by omega, rfl⟩, decide_eq_true ⟨by omega, by omega, ?_⟩⟩
  exact termOf_take (putL_take l more a ha) (by omega) ha

set_option maxRecDepth 100000 in
set_option maxHeartbeats 4000000 in
theorem put_walk {p1 p2 : Option Addr} {n1 n2 c1 c2 : Nat} {l more : List Ent} {w : World} (h1 : LEnt.Row w p1 n1 l) (k1 : n1 ≤ c1) (m1 : c1 ≤ 9223372036854775807) (g1 : Pl p1 c1) {at_ : Int} (wa : (Lit.int .u8 at_).wf = true) (h2 : LEnt.Row w p2 n2 more) (k2 : n2 ≤ c2) (m2 : c2 ≤ 9223372036854775807) (g2 : Pl p2 c2) {part : Int} (wp : (Lit.int .u8 part).wf = true) :
    Calls Try.prog 5 #[.slice p1 n1 c1, .int .u8 at_, .slice p2 n2 c2, .int .u8 part] w fun e w' => e = .returned (.bool true) ∧ Ext w w' := by
  have b1 := bd_u8 wa
  have b2 := bd_u8 wp
  have H1 := Lib.hid h1
  have H2 := Lib.hid h2
  have G1 := Lib.hid g1
  have G2 := Lib.hid g2
  have hx : Ext w w := Ext.refl _
  clear h1 h2 g1 g2 wa wp
  go_enter Try.func5, Try.ntmps5
  go_wp2_with fail
  refine (head_any _).mono ?_
  rintro e w1 ⟨rfl, hx1⟩
  replace hx := Ext.trans hx hx1
  clear hx1
  go_wp2_with fail
  refine (small_any _ _ _ _ _ (H1.out.ext hx)).mono ?_
  rintro e w1 ⟨B, rfl, hb, hx1⟩
  replace hx := Ext.trans hx hx1
  clear hx1
  cases B
  · clear hb
    go_wp2
    go_ret
    exact ⟨rfl, hx⟩
  have hs1 : n1 ≤ 60 := by have := (hb.1 rfl).1; rw [H1.out.1] at this; exact this
  clear hb
  go_wp2_with fail
  refine (small_any _ _ _ _ _ (H2.out.ext hx)).mono ?_
  rintro e w1 ⟨B, rfl, hb, hx1⟩
  replace hx := Ext.trans hx hx1
  clear hx1
  cases B
  · clear hb
    go_wp2
    go_ret
    exact ⟨rfl, hx⟩
  have hs2 : n2 ≤ 60 := by have := (hb.1 rfl).1; rw [H2.out.1] at this; exact this
  clear hb
  obtain ⟨P, hP⟩ : ∃ P : Nat, at_ % ((n1 : Int) + 1) = (P : Int) := ⟨(at_ % ((n1 : Int) + 1)).toNat, by have := Int.emod_nonneg at_ (show (n1 : Int) + 1 ≠ 0 by omega); omega⟩
  have hPn : P ≤ n1 := by have := Int.emod_lt_of_pos at_ (show 0 < (n1 : Int) + 1 by omega); omega
  obtain ⟨K, hK⟩ : ∃ K : Nat, part % ((n2 : Int) + 1) = (K : Int) := ⟨(part % ((n2 : Int) + 1)).toNat, by have := Int.emod_nonneg part (show (n2 : Int) + 1 ≠ 0 by omega); omega⟩
  have hKn : K ≤ n2 := by have := Int.emod_lt_of_pos part (show 0 < (n2 : Int) + 1 by omega); omega
  have q1 : ¬ ((n1 : Int) + 1 = 0) := by omega
  have q2 : ¬ ((n2 : Int) + 1 = 0) := by omega
  go_wp2_with fail
  refine (rterm_any _ _ _ _ _ (H1.out.ext hx) P (by omega) (by omega)).mono ?_
  rintro e w' ⟨rfl, rfl⟩
  have HF := Lib.hid (fits_put (l := l) more P (by rw [H1.out.1]; exact hPn))
  have HPL := Lib.hid (putL_long l more P (by rw [H1.out.1]; exact hPn))
  have HPT := Lib.hid (putL_take l more P (by rw [H1.out.1]; exact hPn))
  have HPS := Lib.hid (putL_sub l more P (by rw [H1.out.1]; exact hPn))
  have HPA := Lib.hid (fun k => putL_again l more P k (by rw [H1.out.1]; exact hPn))
  have HPE := Lib.hid (putL_same l more P (by rw [H1.out.1]; exact hPn))
  have HPN := Lib.hid (putL_length l more P)
  generalize termOf l P = T at HF ⊢
  go_wp2_with fail
  refine (put_s (H1.out.ext hx) (H2.out.ext hx) k1 k2 m1 m2 G1.out G2.out (by omega) (by omega) P T HF.out.1).mono ?_
  rintro e w1 ⟨⟨zA, nA, sA, rfl, hA, kA, mA, gA, bA⟩, hx1⟩
  replace hx := Ext.trans hx hx1
  clear hx1
  generalize putL l P more = A at hA HF HPL HPT HPS HPA HPE HPN
  have HA := Lib.hid hA
  have GA := Lib.hid gA
  have hnA : nA ≤ 120 := by have := HPN.out; rw [hA.1, H1.out.1, H2.out.1] at this; omega
  have hPA : P + n2 ≤ nA := by have := HPL.out; rw [hA.1, H2.out.1] at this; exact this
  clear hA gA
  have sl1 : ∀ w, (Instr.slice 22 (.slice zA nA sA) none (some (.int .i64 (P : Int))) none).run Try.prog w = .ok (.slice zA P sA) w := fun w => run_cut_to Try.underlying22 info_size _ _ _ _ _ rfl (by omega) GA.out w
  have sl2 : ∀ w, (Instr.slice 22 (.slice p1 n1 c1) none (some (.int .i64 (P : Int))) none).run Try.prog w = .ok (.slice p1 P c1) w := fun w => run_cut_to Try.underlying22 info_size _ _ _ _ _ rfl (by omega) G1.out w
  have sl3 : ∀ w, (Instr.slice 22 (.slice zA nA sA) (some (.int .i64 (P : Int))) (some (.int .i64 ((P : Int) + (n2 : Int)))) none).run Try.prog w = .ok (.slice (cutP zA sA P LEnt.size) (P + n2 - P) (sA - P)) w := fun w => run_cut Try.underlying22 info_size _ _ _ _ (P + n2) _ _ rfl (by omega) (by omega) (by omega) w
  rw [show P + n2 - P = n2 by omega] at sl3
  have HR3 : Hid (LEnt.Row w1 (cutP zA sA P LEnt.size) n2 more) := Lib.hid (by
    have := HA.out.cut kA GA.out P (P + n2) (by omega) hPA
    rw [show P + n2 - P = n2 by omega, ← H2.out.1, HPS.out, H2.out.1] at this
    exact this)
  generalize cutP zA sA P LEnt.size = Z at sl3 HR3
  have HR1 : Hid (LEnt.Row w1 zA P (l.take P)) := Lib.hid (by rw [← HPT.out]; exact HA.out.pre P (by omega))
  have HR2 : Hid (LEnt.Row w1 p1 P (l.take P)) := Lib.hid ((H1.out.ext hx).pre P (by omega))
  have HR4 : Hid (LEnt.Row w1 p2 n2 more) := Lib.hid (H2.out.ext hx)
  have HD1 : Hid (decide (l.take P = l.take P) = true) := Lib.hid (decide_eq_true rfl)
  have HD2 : Hid (decide (more = more) = true) := Lib.hid (decide_eq_true rfl)
  have hw1 : IntKind.i64.wrap ((P : Int) + (n2 : Int)) = (P : Int) + (n2 : Int) := IntWalk.i64_in _ (by omega)
  have d1 : decide ((nA : Int) < (P : Int) + (n2 : Int)) = false := decide_eq_false (by omega)
  have k0 : (0 : Int) ≤ (P : Int) := by omega
  have hxx : Ext w1 w1.drew := Ext.drew (Ext.refl _)
  go_wp2
  go_region_held3 (fun w' => Ext w1 w') (exact hxx) (first | (go_at_call_of 21 p1; go_loud (refine (same_any _ _ _ _ _ _ _ _ _ (HR1.out.ext hxx) (HR2.out.ext hxx)).mono ?_); rintro e w2 ⟨rfl, hx2⟩; rw [decide_eq_true rfl]; replace hxx := Ext.trans hxx hx2; clear hx2) | (go_at_call_of 21 p2; refine (same_any _ _ _ _ _ _ _ _ _ (HR3.out.ext hxx) (HR4.out.ext hxx)).mono ?_; rintro e w3 ⟨rfl, hx2⟩; rw [decide_eq_true rfl]; replace hxx := Ext.trans hxx hx2; clear hx2))
  replace HA := Lib.hid (HA.out.ext hxx)
  replace hx := Ext.trans hx hxx
  have HPA0 : Hid (putL A P more = A) := Lib.hid (by have := HPA.out more.length; rwa [List.take_length] at this)
  have HPK : Hid (putL A P (more.take K) = A) := Lib.hid (HPA.out K)
  have sl4 : ∀ w, (Instr.slice 22 (.slice p2 n2 c2) none (some (.int .i64 (K : Int))) none).run Try.prog w = .ok (.slice p2 K c2) w := fun w => run_cut_to Try.underlying22 info_size _ _ _ _ _ rfl (by omega) G2.out w
  have H4 : Hid (LEnt.Row w p2 K (more.take K)) := Lib.hid (H2.out.pre K (by omega))
  clear hxx HR1 HR2 HR3 HR4 HPA sl1 sl2 sl3 d1 hw1
  go_wp2_with fail
  refine (put_s HA.out (H2.out.ext hx) kA k2 mA m2 GA.out G2.out (by omega) (by omega) P T HF.out.2).mono ?_
  rintro e w1 ⟨⟨zB, nB, sB, rfl, hB, kB, mB, gB, bB⟩, hx1⟩
  replace HA := Lib.hid (HA.out.ext hx1)
  replace hx := Ext.trans hx hx1
  clear hx1
  rw [HPA0.out] at hB
  have HB := Lib.hid hB
  clear hB gB HPA0
  go_wp2_with fail
  refine (put_s HA.out (H4.out.ext hx) kA (by omega) mA m2 GA.out G2.out (by omega) (by omega) P T HF.out.2).mono ?_
  rintro e w1 ⟨⟨zC, nC, sC, rfl, hC, kC, mC, gC, bC⟩, hx1⟩
  replace HA := Lib.hid (HA.out.ext hx1)
  replace HB := Lib.hid (HB.out.ext hx1)
  replace hx := Ext.trans hx hx1
  clear hx1
  rw [HPK.out] at hC
  have HC := Lib.hid hC
  clear hC gC HPK
  go_wp2_with fail
  refine (same_any _ _ _ _ _ _ _ _ _ HB.out HA.out).mono ?_
  rintro e w1 ⟨rfl, hx1⟩
  rw [decide_eq_true rfl]
  replace HA := Lib.hid (HA.out.ext hx1)
  replace HB := Lib.hid (HB.out.ext hx1)
  replace HC := Lib.hid (HC.out.ext hx1)
  replace hx := Ext.trans hx hx1
  clear hx1
  go_wp2_with fail
  refine (same_any _ _ _ _ _ _ _ _ _ HC.out HA.out).mono ?_
  rintro e w1 ⟨rfl, hx1⟩
  rw [decide_eq_true rfl]
  replace HA := Lib.hid (HA.out.ext hx1)
  replace HB := Lib.hid (HB.out.ext hx1)
  replace HC := Lib.hid (HC.out.ext hx1)
  replace hx := Ext.trans hx hx1
  clear hx1
  have hw1 : IntKind.i64.wrap ((P : Int) + (n2 : Int)) = (P : Int) + (n2 : Int) := IntWalk.i64_in _ (by omega)
  by_cases he : nA = P + n2
  · have e1 : ((nA : Int) == (P : Int) + (n2 : Int)) = true := by simp; omega
    clear he
    go_wp2
    go_ret
    exact ⟨rfl, hx⟩
  · have e1 : ((nA : Int) == (P : Int) + (n2 : Int)) = false := by simp; omega
    have HE : Hid (A = l) := Lib.hid (HPE.out (by rw [HA.out.1, H2.out.1]; exact he))
    clear he
    go_wp2_with fail
    refine (same_any _ _ _ _ _ _ _ _ _ HA.out (H1.out.ext hx)).mono ?_
    rintro e w1 ⟨rfl, hx1⟩
    rw [decide_eq_true HE.out]
    replace HA := Lib.hid (HA.out.ext hx1)
    replace hx := Ext.trans hx hx1
    clear hx1
    go_wp2
    go_ret
    exact ⟨rfl, hx⟩
end Go.Proofs.Ytppckbhbgohbiaa.Lg
