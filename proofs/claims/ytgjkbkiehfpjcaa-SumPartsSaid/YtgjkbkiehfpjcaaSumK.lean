/- The walk of SumTells. -/
import Derived.Test.YtgjkbkiehfpjcaaSumJ
namespace Go.Proofs.Ytgjkbkiehfpjcaa.Sm
open Go.RowKit Go.Proofs.Ytgjkbkiehfpjcaa Go.Proofs.Ytgjkbkiehfpjcaa.Crc
set_option linter.unusedVariables false

set_option maxRecDepth 100000 in
set_option maxHeartbeats 2000000 in
theorem tells_walk {p q : Option Addr} {n c m d : Nat} {l : List Nat} {zs : List Int} {w : World} (hp : RowB w p n l) (hc : n ≤ c) (hq : RowI .i64 w q m zs) :
    Calls Try.prog 3 #[.slice p n c, .slice q m d] w fun e w' => e = .returned (.bool true) ∧ Ext w w' := by
  have HP := Lib.hid hp
  have HQ := Lib.hid hq
  have hn := hp.le
  have hm := hq.2.1
  clear hp hq
  by_cases h400 : n ≤ 400
  · by_cases h40 : m ≤ 40
    · have g1 : decide ((400 : Int) < (n : Int)) = false := decide_eq_false (by omega)
      have g2 : decide ((40 : Int) < (m : Int)) = false := decide_eq_false (by omega)
      go_enter Try.func3, Try.ntmps3
      go_wp2_with fail
      refine (head_any _).mono ?_
      rintro e w1 ⟨rfl, hx⟩
      go_wp2_with fail
      refine (of_any _ _ _ _ _ (HP.out.ext hx)).mono ?_
      rintro e w2 ⟨rfl, hx1⟩
      replace hx := Ext.trans hx hx1; clear hx1
      go_wp2_with fail
      refine (rof_any _ _ _ _ _ (HP.out.ext hx)).mono ?_
      rintro e w3 ⟨rfl, rfl⟩
      have ht : (((sum l : Nat) : Int) == ((sum l : Nat) : Int)) = true := by simp
      go_wp2_with fail
      clear ht
      refine (blocks_any _ _ _ _ _ (HP.out.ext hx) (by omega) hc).mono ?_
      rintro e w4 ⟨g, M, rfl, hown, hx1⟩
      have hln : (bsums l).length ≤ 1000000 := by rw [bsums_length, HP.out.length]; omega
      have hM : M = (bsums l).length := by simpa using hown.1.symm
      obtain ⟨p1, c1, hv1, hr1⟩ := rowI_of_own (k := .i64) (zs := bsums l) hown (by omega)
      simp only [Value.slice.injEq] at hv1
      obtain ⟨rfl, _, rfl⟩ := hv1
      have HR := Lib.hid hr1
      have HM := Lib.hid hM
      replace hx := Ext.trans hx hx1
      clear hx1 hr1 hown hM
      go_wp2_with fail
      refine (rblocks_any _ _ _ _ _ (HP.out.ext hx) (by omega) hc).mono ?_
      rintro e w5 ⟨⟨v, rfl, hown⟩, hx1⟩
      obtain ⟨p2, c2, rfl, hr2⟩ := rowI_of_own (k := .i64) (zs := bsums l) hown (by omega)
      have HR1 := Lib.hid (HR.out.ext hx1)
      have HR2 := Lib.hid hr2
      replace hx := Ext.trans hx hx1
      clear hx1 hr2 hown HR
      generalize (bsums l).length = M2 at HM HR2 ⊢
      go_wp2_with fail
      refine (rints_any _ _ _ _ _ _ _ _ _ HR1.out HR2.out).mono ?_
      rintro e w6 ⟨rfl, hx1⟩
      replace hx := Ext.trans hx hx1
      clear hx1
      rw [show decide (bsums l = bsums l) = true from decide_eq_true rfl]
      clear HR1 HR2 HM hln
      go_wp2_with fail
      refine (check_any _ _ _ _ _ _ _ _ _ (HP.out.ext hx) (HQ.out.ext hx) (by omega) hc).mono ?_
      rintro e w7 ⟨rfl, hx1⟩
      replace hx := Ext.trans hx hx1
      clear hx1
      go_wp2_with fail
      refine (rcheck_any _ _ _ _ _ _ _ _ _ (HP.out.ext hx) (HQ.out.ext hx) (by omega) hc).mono ?_
      rintro e w8 ⟨rfl, hx1⟩
      replace hx := Ext.trans hx hx1
      clear hx1
      have ht : (chk (bsums l) zs == chk (bsums l) zs) = true := by simp
      go_wp2
      go_ret
      exact ⟨rfl, hx⟩
    · have g1 : decide ((400 : Int) < (n : Int)) = false := decide_eq_false (by omega)
      have g2 : (40 : Int) < (m : Int) := by omega
      go_enter Try.func3, Try.ntmps3
      go_wp2_with fail
      refine (head_any _).mono ?_
      rintro e w1 ⟨rfl, hx⟩
      go_wp2
      go_ret
      exact ⟨rfl, hx⟩
  · have g1 : (400 : Int) < (n : Int) := by omega
    go_enter Try.func3, Try.ntmps3
    go_wp2_with fail
    refine (head_any _).mono ?_
    rintro e w1 ⟨rfl, hx⟩
    go_wp2
    go_ret
    exact ⟨rfl, hx⟩
end Go.Proofs.Ytgjkbkiehfpjcaa.Sm
