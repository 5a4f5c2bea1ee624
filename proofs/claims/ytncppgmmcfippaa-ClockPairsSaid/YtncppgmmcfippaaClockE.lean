/- The walks of the clock statements: bounds, waits, order. -/
import Derived.Test.YtncppgmmcfippaaClockD
namespace Go.Proofs.Ytncppgmmcfippaa.Clk
open Go.RowKit
set_option linter.unusedVariables false

theorem tm_bd (n : Int) : 0 ≤ tm n ∧ tm n ≤ 1099511627776 := by unfold tm; omega

theorem lohi (a : Int) (h0 : 0 ≤ a) (h1 : a ≤ 2199023255552) : 0 ≤ lo (tt a) ∧ lo (tt a) ≤ a ∧ a ≤ hi (tt a) ∧ a - lo (tt a) ≤ a / 1000 + 1 ∧ hi (tt a) - a ≤ a / 1000 + 1 ∧ hi (tt a) ≤ 2300000000000 := by
  unfold lo hi tt; omega
theorem lohi_mono (a b : Int) (h : a ≤ b) : lo (tt a) ≤ lo (tt b) ∧ hi (tt a) ≤ hi (tt b) := by
  unfold lo hi tt; omega
theorem lohi_add (a b : Int) (h0 : 0 ≤ a) (h1 : a ≤ 1099511627776) (k0 : 0 ≤ b) (k1 : b ≤ 1099511627776) : lo (tt a) + lo (tt b) ≤ lo (tt (a + b)) ∧ hi (tt (a + b)) ≤ hi (tt a) + hi (tt b) := by
  unfold lo hi tt; omega

set_option maxHeartbeats 1000000 in
theorem bounds_walk {x y : Int} {w : World} (hx : (Lit.int .u64 x).wf = true) (hy : (Lit.int .u64 y).wf = true) :
    Calls Try.prog 4 #[.int .u64 x, .int .u64 y] w fun e w' => e = .returned (.bool true) ∧ Ext w w' := by
  obtain ⟨x0, x1⟩ := bd_u64 hx
  obtain ⟨y0, y1⟩ := bd_u64 hy
  clear hx hy
  have a := tm_bd x
  have b := tm_bd y
  obtain ⟨a0, a1⟩ := a
  obtain ⟨b0, b1⟩ := b
  obtain ⟨p1, p2, p3, p4, p5, p6⟩ := lohi (tm x) a0 (by omega)
  obtain ⟨q1, q2, q3, q4, q5, q6⟩ := lohi (tm y) b0 (by omega)
  obtain ⟨r1, r2⟩ := lohi_add (tm x) (tm y) a0 a1 b0 b1
  by_cases hab : tm x ≤ tm y
  · obtain ⟨s1, s2⟩ := lohi_mono _ _ hab
    go_enter Try.func4, Try.ntmps4
    go_wp2_with (first | (go_at_call 9; refine (head_any _).mono ?_; rintro e w1 ⟨rfl, hx⟩) | (go_at_call 20; refine (time_any _ _ (by assumption) (by assumption)).mono ?_; rintro e w' ⟨rfl, rfl⟩) | (go_at_call 10; refine (least0_any _ _).mono ?_; rintro e w' ⟨rfl, rfl⟩) | (go_at_call 12; refine (most0_any _ _).mono ?_; rintro e w' ⟨rfl, rfl⟩))
    go_ret
    exact ⟨rfl, by assumption⟩
  · have hba : tm y < tm x := by omega
    go_enter Try.func4, Try.ntmps4
    go_wp2_with (first | (go_at_call 9; refine (head_any _).mono ?_; rintro e w1 ⟨rfl, hx⟩) | (go_at_call 20; refine (time_any _ _ (by assumption) (by assumption)).mono ?_; rintro e w' ⟨rfl, rfl⟩) | (go_at_call 10; refine (least0_any _ _).mono ?_; rintro e w' ⟨rfl, rfl⟩) | (go_at_call 12; refine (most0_any _ _).mono ?_; rintro e w' ⟨rfl, rfl⟩))
    go_ret
    exact ⟨rfl, by assumption⟩

theorem btw_bd (a b n : Int) (h : a ≤ b) (h0 : 0 ≤ n) : a ≤ btw a b n ∧ btw a b n ≤ b := by
  unfold btw
  split
  · omega
  · have m1 := Int.emod_nonneg n (show b - a + 1 ≠ 0 by omega)
    have m2 := Int.emod_lt_of_pos n (show 0 < b - a + 1 by omega)
    omega

theorem wt_bd (n : Int) (h0 : 0 ≤ n) (h1 : n ≤ 1099511627776) : 0 ≤ wt n ∧ wt n ≤ 1200000000000 := by unfold wt; split <;> omega
theorem us_bd (n : Int) (h0 : 0 ≤ n) (h1 : n ≤ 1099511627776) : -1 ≤ us n ∧ us n ≤ n := by unfold us; omega
theorem aa_tm (x : Int) : aa (tm x) = tm x := by unfold aa tm; omega

/-- who waited has waited enough -/
theorem wait_enough (n s a b : Int) (h0 : 0 ≤ n) (h1 : n ≤ 1099511627776) (s0 : 0 ≤ s) (s1 : s ≤ 2199023255552) (ha : a ≤ hi s) (hb : lo s ≤ b) (hw : wt n ≤ a) : n ≤ b := by
  have k : sh (wt n) ≤ s := by
    have w := wt_bd n h0 h1
    unfold hi at ha; unfold sh; split <;> omega
  have k2 : n ≤ lo (sh (wt n)) := of_decide_eq_true ((wt_least n h0 h1).2.2.2 (by have := wt_bd n h0 h1; omega))
  unfold lo at k2 hb; omega

theorem use_enough (n s a b : Int) (h0 : 0 ≤ n) (h1 : n ≤ 1099511627776) (s0 : 0 ≤ s) (s1 : s ≤ 2199023255552) (ha : lo s ≤ a) (hb : b ≤ hi s) (hu : a ≤ us n) : b ≤ n := by
  have k : s ≤ 1000 * n / 1001 := by unfold us at hu; unfold lo at ha; omega
  unfold hi at hb; omega

theorem aa_id {n : Int} (h0 : 0 ≤ n) (h1 : n ≤ 1099511627776) : aa n = n := by unfold aa; omega
theorem wait_t (n : Int) (w : World) (h0 : 0 ≤ n) (h1 : n ≤ 1099511627776) :
    Calls Try.prog 14 #[.int .i64 n] w fun e w' => e = .returned (.int .i64 (wt n)) ∧ Ext w w' := by
  have h := wait_any n w
  rwa [aa_id h0 h1] at h
theorem use_t (n : Int) (w : World) (h0 : 0 ≤ n) (h1 : n ≤ 1099511627776) :
    Calls Try.prog 16 #[.int .i64 n] w fun e w' => e = .returned (.int .i64 (us n)) ∧ Ext w w' := by
  have h := use_any n w
  rwa [aa_id h0 h1] at h

set_option maxHeartbeats 1000000 in
theorem waits_walk {x r o q : Int} {w : World} (hx : (Lit.int .u64 x).wf = true) (hr : (Lit.int .u64 r).wf = true) (ho : (Lit.int .u64 o).wf = true) (hq : (Lit.int .u64 q).wf = true) :
    Calls Try.prog 5 #[.int .u64 x, .int .u64 r, .int .u64 o, .int .u64 q] w fun e w' => e = .returned (.bool true) ∧ Ext w w' := by
  obtain ⟨x0, x1⟩ := bd_u64 hx
  obtain ⟨r0, r1⟩ := bd_u64 hr
  obtain ⟨o0, o1⟩ := bd_u64 ho
  obtain ⟨q0, q1⟩ := bd_u64 hq
  clear hx hr ho hq
  have a := tm_bd x
  have b := tm_bd r
  obtain ⟨a0, a1⟩ := a
  obtain ⟨b0, b1⟩ := b
  have tt1 := tt_bd (tm r)
  obtain ⟨p1, p2, p3, p4, p5, p6⟩ := lohi (tm r) b0 (by omega)
  have d1 := btw_bd (lo (tt (tm r))) (hi (tt (tm r))) o (by omega) o0
  have d2 := btw_bd (lo (tt (tm r))) (hi (tt (tm r))) q (by omega) q0
  have W := wait_enough (aa (tm x)) (tt (tm r)) (btw (lo (tt (tm r))) (hi (tt (tm r))) o) (btw (lo (tt (tm r))) (hi (tt (tm r))) q) (by rw [aa_tm]; omega) (by rw [aa_tm]; omega) tt1.1 tt1.2 d1.2 d2.1
  have U := use_enough (aa (tm x)) (tt (tm r)) (btw (lo (tt (tm r))) (hi (tt (tm r))) o) (btw (lo (tt (tm r))) (hi (tt (tm r))) q) (by rw [aa_tm]; omega) (by rw [aa_tm]; omega) tt1.1 tt1.2 d1.1 d2.2
  rw [aa_tm] at W U
  have e := aa_tm x
  have E := Lib.hid e
  clear e tt1 d1 d2
  by_cases c1 : wt (tm x) ≤ btw (lo (tt (tm r))) (hi (tt (tm r))) o
  · have W1 := W c1
    clear W
    by_cases c2 : btw (lo (tt (tm r))) (hi (tt (tm r))) o ≤ us (tm x)
    · have U1 := U c2
      clear U
      have hx := Ext.refl w
      go_enter Try.func5, Try.ntmps5
      go_wp2_with (first | (go_at_call 9; refine (head_any _).mono ?_; rintro e w1 ⟨rfl, hx1⟩; replace hx := Ext.trans hx hx1; clear hx1) | (go_at_call 20; refine (time_any _ _ (by assumption) (by assumption)).mono ?_; rintro e w' ⟨rfl, rfl⟩) | (go_at_call 10; refine (least0_any _ _).mono ?_; rintro e w' ⟨rfl, rfl⟩) | (go_at_call 12; refine (most0_any _ _).mono ?_; rintro e w' ⟨rfl, rfl⟩) | (go_at_call 21; refine (between_any _ _ _ _ (by assumption) (by assumption) (by omega) (by omega) (by omega) (by omega)).mono ?_; rintro e w' ⟨rfl, rfl⟩) | (go_at_call 14; refine (wait_t _ _ (by assumption) (by assumption)).mono ?_; rintro e w2 ⟨rfl, hx2⟩; replace hx := Ext.trans hx hx2; clear hx2) | (go_at_call 16; refine (use_t _ _ (by assumption) (by assumption)).mono ?_; rintro e w3 ⟨rfl, hx3⟩; replace hx := Ext.trans hx hx3; clear hx3))
      go_ret
      exact ⟨rfl, hx⟩
    · clear U
      have c3 : us (tm x) < btw (lo (tt (tm r))) (hi (tt (tm r))) o := by omega
      have hx := Ext.refl w
      go_enter Try.func5, Try.ntmps5
      go_wp2_with (first | (go_at_call 9; refine (head_any _).mono ?_; rintro e w1 ⟨rfl, hx1⟩; replace hx := Ext.trans hx hx1; clear hx1) | (go_at_call 20; refine (time_any _ _ (by assumption) (by assumption)).mono ?_; rintro e w' ⟨rfl, rfl⟩) | (go_at_call 10; refine (least0_any _ _).mono ?_; rintro e w' ⟨rfl, rfl⟩) | (go_at_call 12; refine (most0_any _ _).mono ?_; rintro e w' ⟨rfl, rfl⟩) | (go_at_call 21; refine (between_any _ _ _ _ (by assumption) (by assumption) (by omega) (by omega) (by omega) (by omega)).mono ?_; rintro e w' ⟨rfl, rfl⟩) | (go_at_call 14; refine (wait_t _ _ (by assumption) (by assumption)).mono ?_; rintro e w2 ⟨rfl, hx2⟩; replace hx := Ext.trans hx hx2; clear hx2) | (go_at_call 16; refine (use_t _ _ (by assumption) (by assumption)).mono ?_; rintro e w3 ⟨rfl, hx3⟩; replace hx := Ext.trans hx hx3; clear hx3))
      go_ret
      exact ⟨rfl, hx⟩
  · clear W
    have c4 : btw (lo (tt (tm r))) (hi (tt (tm r))) o < wt (tm x) := by omega
    by_cases c2 : btw (lo (tt (tm r))) (hi (tt (tm r))) o ≤ us (tm x)
    · have U1 := U c2
      clear U
      have hx := Ext.refl w
      go_enter Try.func5, Try.ntmps5
      go_wp2_with (first | (go_at_call 9; refine (head_any _).mono ?_; rintro e w1 ⟨rfl, hx1⟩; replace hx := Ext.trans hx hx1; clear hx1) | (go_at_call 20; refine (time_any _ _ (by assumption) (by assumption)).mono ?_; rintro e w' ⟨rfl, rfl⟩) | (go_at_call 10; refine (least0_any _ _).mono ?_; rintro e w' ⟨rfl, rfl⟩) | (go_at_call 12; refine (most0_any _ _).mono ?_; rintro e w' ⟨rfl, rfl⟩) | (go_at_call 21; refine (between_any _ _ _ _ (by assumption) (by assumption) (by omega) (by omega) (by omega) (by omega)).mono ?_; rintro e w' ⟨rfl, rfl⟩) | (go_at_call 14; refine (wait_t _ _ (by assumption) (by assumption)).mono ?_; rintro e w2 ⟨rfl, hx2⟩; replace hx := Ext.trans hx hx2; clear hx2) | (go_at_call 16; refine (use_t _ _ (by assumption) (by assumption)).mono ?_; rintro e w3 ⟨rfl, hx3⟩; replace hx := Ext.trans hx hx3; clear hx3))
      go_ret
      exact ⟨rfl, hx⟩
    · clear U
      have c3 : us (tm x) < btw (lo (tt (tm r))) (hi (tt (tm r))) o := by omega
      have hx := Ext.refl w
      go_enter Try.func5, Try.ntmps5
      go_wp2_with (first | (go_at_call 9; refine (head_any _).mono ?_; rintro e w1 ⟨rfl, hx1⟩; replace hx := Ext.trans hx hx1; clear hx1) | (go_at_call 20; refine (time_any _ _ (by assumption) (by assumption)).mono ?_; rintro e w' ⟨rfl, rfl⟩) | (go_at_call 10; refine (least0_any _ _).mono ?_; rintro e w' ⟨rfl, rfl⟩) | (go_at_call 12; refine (most0_any _ _).mono ?_; rintro e w' ⟨rfl, rfl⟩) | (go_at_call 21; refine (between_any _ _ _ _ (by assumption) (by assumption) (by omega) (by omega) (by omega) (by omega)).mono ?_; rintro e w' ⟨rfl, rfl⟩) | (go_at_call 14; refine (wait_t _ _ (by assumption) (by assumption)).mono ?_; rintro e w2 ⟨rfl, hx2⟩; replace hx := Ext.trans hx hx2; clear hx2) | (go_at_call 16; refine (use_t _ _ (by assumption) (by assumption)).mono ?_; rintro e w3 ⟨rfl, hx3⟩; replace hx := Ext.trans hx hx3; clear hx3))
      go_ret
      exact ⟨rfl, hx⟩
end Go.Proofs.Ytncppgmmcfippaa.Clk
