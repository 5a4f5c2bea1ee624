/- The walks of the clock statements: order, least. -/
import Derived.Test.YtncppgmmcfippaaClockE
namespace Go.Proofs.Ytncppgmmcfippaa.Clk
open Go.RowKit
set_option linter.unusedVariables false

theorem wt_pos (n : Int) (h0 : 0 < n) (h1 : n ≤ 1099511627776) : n < wt n := by unfold wt; split <;> omega
theorem us_lt (n : Int) (h0 : 0 < n) (h1 : n ≤ 1099511627776) : us n < n := by unfold us; omega
theorem wt_mono (n m : Int) (h0 : 0 ≤ n) (h : n ≤ m) : wt n ≤ wt m := by unfold wt; split <;> split <;> omega
theorem us_mono (n m : Int) (h0 : 0 ≤ n) (h : n ≤ m) : us n ≤ us m := by unfold us; omega
theorem us_wt (n : Int) (h0 : 0 ≤ n) (h1 : n ≤ 1099511627776) : n - 1 ≤ us (wt n) := by unfold wt us; split <;> omega
theorem wt0 : wt 0 = 0 := by decide
theorem us0 : us 0 = -1 := by decide

set_option maxHeartbeats 2000000 in
theorem order_walk {x y : Int} {w : World} (hx : (Lit.int .u64 x).wf = true) (hy : (Lit.int .u64 y).wf = true) :
    Calls Try.prog 7 #[.int .u64 x, .int .u64 y] w fun e w' => e = .returned (.bool true) ∧ Ext w w' := by
  obtain ⟨x0, x1⟩ := bd_u64 hx
  obtain ⟨y0, y1⟩ := bd_u64 hy
  clear hx hy
  have a := tm_bd x
  have b := tm_bd y
  obtain ⟨a0, a1⟩ := a
  obtain ⟨b0, b1⟩ := b
  have w1 := wt_bd _ a0 a1
  have u1 := us_bd _ a0 a1
  have uw := us_wt _ a0 a1
  obtain ⟨w10, w11⟩ := w1
  obtain ⟨u10, u11⟩ := u1
  by_cases hz : tm x = 0
  · have z1 : (tm x == 0) = true := by rw [hz]; rfl
    have z2 : (wt (tm x) != 0) = false := by rw [hz]; decide
    have z3 : (us (tm x) != -1) = false := by rw [hz]; decide
    have z4 : ¬ 0 < tm x := by omega
    clear hz
    by_cases hm : tm x ≤ tm y
    · have m1 := wt_mono _ _ a0 hm
      have m2 := us_mono _ _ a0 hm
      by_cases hw : 1099511627776 < wt (tm x)
      · have hx := Ext.refl w
        go_enter Try.func7, Try.ntmps7
        go_wp2_with (first | (go_at_call 9; refine (head_any _).mono ?_; rintro e w1 ⟨rfl, hx1⟩; replace hx := Ext.trans hx hx1; clear hx1) | (go_at_call 20; refine (time_any _ _ (by assumption) (by assumption)).mono ?_; rintro e w' ⟨rfl, rfl⟩) | (go_at_call 10; refine (least0_any _ _).mono ?_; rintro e w' ⟨rfl, rfl⟩) | (go_at_call 12; refine (most0_any _ _).mono ?_; rintro e w' ⟨rfl, rfl⟩) | (go_at_call 21; refine (between_any _ _ _ _ (by assumption) (by assumption) (by omega) (by omega) (by omega) (by omega)).mono ?_; rintro e w' ⟨rfl, rfl⟩) | (go_at_call 14; refine (wait_t _ _ (by assumption) (by assumption)).mono ?_; rintro e w2 ⟨rfl, hx2⟩; replace hx := Ext.trans hx hx2; clear hx2) | (go_at_call 16; refine (use_t _ _ (by assumption) (by assumption)).mono ?_; rintro e w3 ⟨rfl, hx3⟩; replace hx := Ext.trans hx hx3; clear hx3))
        all_goals (go_ret; exact ⟨rfl, hx⟩)
      · have hw' : wt (tm x) ≤ 1099511627776 := by omega
        have hx := Ext.refl w
        go_enter Try.func7, Try.ntmps7
        go_wp2_with (first | (go_at_call 9; refine (head_any _).mono ?_; rintro e w1 ⟨rfl, hx1⟩; replace hx := Ext.trans hx hx1; clear hx1) | (go_at_call 20; refine (time_any _ _ (by assumption) (by assumption)).mono ?_; rintro e w' ⟨rfl, rfl⟩) | (go_at_call 10; refine (least0_any _ _).mono ?_; rintro e w' ⟨rfl, rfl⟩) | (go_at_call 12; refine (most0_any _ _).mono ?_; rintro e w' ⟨rfl, rfl⟩) | (go_at_call 21; refine (between_any _ _ _ _ (by assumption) (by assumption) (by omega) (by omega) (by omega) (by omega)).mono ?_; rintro e w' ⟨rfl, rfl⟩) | (go_at_call 14; refine (wait_t _ _ (by assumption) (by assumption)).mono ?_; rintro e w2 ⟨rfl, hx2⟩; replace hx := Ext.trans hx hx2; clear hx2) | (go_at_call 16; refine (use_t _ _ (by assumption) (by assumption)).mono ?_; rintro e w3 ⟨rfl, hx3⟩; replace hx := Ext.trans hx hx3; clear hx3))
        all_goals (go_ret; exact ⟨rfl, hx⟩)
    · have hm' : tm y < tm x := by omega
      by_cases hw : 1099511627776 < wt (tm x)
      · have hx := Ext.refl w
        go_enter Try.func7, Try.ntmps7
        go_wp2_with (first | (go_at_call 9; refine (head_any _).mono ?_; rintro e w1 ⟨rfl, hx1⟩; replace hx := Ext.trans hx hx1; clear hx1) | (go_at_call 20; refine (time_any _ _ (by assumption) (by assumption)).mono ?_; rintro e w' ⟨rfl, rfl⟩) | (go_at_call 10; refine (least0_any _ _).mono ?_; rintro e w' ⟨rfl, rfl⟩) | (go_at_call 12; refine (most0_any _ _).mono ?_; rintro e w' ⟨rfl, rfl⟩) | (go_at_call 21; refine (between_any _ _ _ _ (by assumption) (by assumption) (by omega) (by omega) (by omega) (by omega)).mono ?_; rintro e w' ⟨rfl, rfl⟩) | (go_at_call 14; refine (wait_t _ _ (by assumption) (by assumption)).mono ?_; rintro e w2 ⟨rfl, hx2⟩; replace hx := Ext.trans hx hx2; clear hx2) | (go_at_call 16; refine (use_t _ _ (by assumption) (by assumption)).mono ?_; rintro e w3 ⟨rfl, hx3⟩; replace hx := Ext.trans hx hx3; clear hx3))
        all_goals (go_ret; exact ⟨rfl, hx⟩)
      · have hw' : wt (tm x) ≤ 1099511627776 := by omega
        have hx := Ext.refl w
        go_enter Try.func7, Try.ntmps7
        go_wp2_with (first | (go_at_call 9; refine (head_any _).mono ?_; rintro e w1 ⟨rfl, hx1⟩; replace hx := Ext.trans hx hx1; clear hx1) | (go_at_call 20; refine (time_any _ _ (by assumption) (by assumption)).mono ?_; rintro e w' ⟨rfl, rfl⟩) | (go_at_call 10; refine (least0_any _ _).mono ?_; rintro e w' ⟨rfl, rfl⟩) | (go_at_call 12; refine (most0_any _ _).mono ?_; rintro e w' ⟨rfl, rfl⟩) | (go_at_call 21; refine (between_any _ _ _ _ (by assumption) (by assumption) (by omega) (by omega) (by omega) (by omega)).mono ?_; rintro e w' ⟨rfl, rfl⟩) | (go_at_call 14; refine (wait_t _ _ (by assumption) (by assumption)).mono ?_; rintro e w2 ⟨rfl, hx2⟩; replace hx := Ext.trans hx hx2; clear hx2) | (go_at_call 16; refine (use_t _ _ (by assumption) (by assumption)).mono ?_; rintro e w3 ⟨rfl, hx3⟩; replace hx := Ext.trans hx hx3; clear hx3))
        all_goals (go_ret; exact ⟨rfl, hx⟩)
  · have z1 : (tm x == 0) = false := by simpa using hz
    have z4 : 0 < tm x := by omega
    have z5 := wt_pos _ z4 a1
    have z6 := us_lt _ z4 a1
    clear hz
    by_cases hm : tm x ≤ tm y
    · have m1 := wt_mono _ _ a0 hm
      have m2 := us_mono _ _ a0 hm
      by_cases hw : 1099511627776 < wt (tm x)
      · have hx := Ext.refl w
        go_enter Try.func7, Try.ntmps7
        go_wp2_with (first | (go_at_call 9; refine (head_any _).mono ?_; rintro e w1 ⟨rfl, hx1⟩; replace hx := Ext.trans hx hx1; clear hx1) | (go_at_call 20; refine (time_any _ _ (by assumption) (by assumption)).mono ?_; rintro e w' ⟨rfl, rfl⟩) | (go_at_call 10; refine (least0_any _ _).mono ?_; rintro e w' ⟨rfl, rfl⟩) | (go_at_call 12; refine (most0_any _ _).mono ?_; rintro e w' ⟨rfl, rfl⟩) | (go_at_call 21; refine (between_any _ _ _ _ (by assumption) (by assumption) (by omega) (by omega) (by omega) (by omega)).mono ?_; rintro e w' ⟨rfl, rfl⟩) | (go_at_call 14; refine (wait_t _ _ (by assumption) (by assumption)).mono ?_; rintro e w2 ⟨rfl, hx2⟩; replace hx := Ext.trans hx hx2; clear hx2) | (go_at_call 16; refine (use_t _ _ (by assumption) (by assumption)).mono ?_; rintro e w3 ⟨rfl, hx3⟩; replace hx := Ext.trans hx hx3; clear hx3))
        all_goals (go_ret; exact ⟨rfl, hx⟩)
      · have hw' : wt (tm x) ≤ 1099511627776 := by omega
        have hx := Ext.refl w
        go_enter Try.func7, Try.ntmps7
        go_wp2_with (first | (go_at_call 9; refine (head_any _).mono ?_; rintro e w1 ⟨rfl, hx1⟩; replace hx := Ext.trans hx hx1; clear hx1) | (go_at_call 20; refine (time_any _ _ (by assumption) (by assumption)).mono ?_; rintro e w' ⟨rfl, rfl⟩) | (go_at_call 10; refine (least0_any _ _).mono ?_; rintro e w' ⟨rfl, rfl⟩) | (go_at_call 12; refine (most0_any _ _).mono ?_; rintro e w' ⟨rfl, rfl⟩) | (go_at_call 21; refine (between_any _ _ _ _ (by assumption) (by assumption) (by omega) (by omega) (by omega) (by omega)).mono ?_; rintro e w' ⟨rfl, rfl⟩) | (go_at_call 14; refine (wait_t _ _ (by assumption) (by assumption)).mono ?_; rintro e w2 ⟨rfl, hx2⟩; replace hx := Ext.trans hx hx2; clear hx2) | (go_at_call 16; refine (use_t _ _ (by assumption) (by assumption)).mono ?_; rintro e w3 ⟨rfl, hx3⟩; replace hx := Ext.trans hx hx3; clear hx3))
        all_goals (go_ret; exact ⟨rfl, hx⟩)
    · have hm' : tm y < tm x := by omega
      by_cases hw : 1099511627776 < wt (tm x)
      · have hx := Ext.refl w
        go_enter Try.func7, Try.ntmps7
        go_wp2_with (first | (go_at_call 9; refine (head_any _).mono ?_; rintro e w1 ⟨rfl, hx1⟩; replace hx := Ext.trans hx hx1; clear hx1) | (go_at_call 20; refine (time_any _ _ (by assumption) (by assumption)).mono ?_; rintro e w' ⟨rfl, rfl⟩) | (go_at_call 10; refine (least0_any _ _).mono ?_; rintro e w' ⟨rfl, rfl⟩) | (go_at_call 12; refine (most0_any _ _).mono ?_; rintro e w' ⟨rfl, rfl⟩) | (go_at_call 21; refine (between_any _ _ _ _ (by assumption) (by assumption) (by omega) (by omega) (by omega) (by omega)).mono ?_; rintro e w' ⟨rfl, rfl⟩) | (go_at_call 14; refine (wait_t _ _ (by assumption) (by assumption)).mono ?_; rintro e w2 ⟨rfl, hx2⟩; replace hx := Ext.trans hx hx2; clear hx2) | (go_at_call 16; refine (use_t _ _ (by assumption) (by assumption)).mono ?_; rintro e w3 ⟨rfl, hx3⟩; replace hx := Ext.trans hx hx3; clear hx3))
        all_goals (go_ret; exact ⟨rfl, hx⟩)
      · have hw' : wt (tm x) ≤ 1099511627776 := by omega
        have hx := Ext.refl w
        go_enter Try.func7, Try.ntmps7
        go_wp2_with (first | (go_at_call 9; refine (head_any _).mono ?_; rintro e w1 ⟨rfl, hx1⟩; replace hx := Ext.trans hx hx1; clear hx1) | (go_at_call 20; refine (time_any _ _ (by assumption) (by assumption)).mono ?_; rintro e w' ⟨rfl, rfl⟩) | (go_at_call 10; refine (least0_any _ _).mono ?_; rintro e w' ⟨rfl, rfl⟩) | (go_at_call 12; refine (most0_any _ _).mono ?_; rintro e w' ⟨rfl, rfl⟩) | (go_at_call 21; refine (between_any _ _ _ _ (by assumption) (by assumption) (by omega) (by omega) (by omega) (by omega)).mono ?_; rintro e w' ⟨rfl, rfl⟩) | (go_at_call 14; refine (wait_t _ _ (by assumption) (by assumption)).mono ?_; rintro e w2 ⟨rfl, hx2⟩; replace hx := Ext.trans hx hx2; clear hx2) | (go_at_call 16; refine (use_t _ _ (by assumption) (by assumption)).mono ?_; rintro e w3 ⟨rfl, hx3⟩; replace hx := Ext.trans hx hx3; clear hx3))
        all_goals (go_ret; exact ⟨rfl, hx⟩)
end Go.Proofs.Ytncppgmmcfippaa.Clk
