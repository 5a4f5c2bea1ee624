/- The walks of the clock statements: bounds, waits, order. -/
import Derived.Test.YtncppgmmcfippaaClockD
namespace Go.Proofs.Ytncppgmmcfippaa.Clk
open Go.RowKit

theorem tm_bd (n : Int) : 0 ≤ tm n ∧ tm n ≤ 1099511627776 := by unfold tm; omega

theorem lohi (a : Int) (h0 : 0 ≤ a) (h1 : a ≤ 2199023255552) : 0 ≤ lo (tt a) ∧ lo (tt a) ≤ a ∧ a ≤ hi (tt a) ∧ a - lo (tt a) ≤ a / 1000 + 1 ∧ hi (tt a) - a ≤ a / 1000 + 1 ∧ hi (tt a) ≤ 2300000000000 := by
  unfold lo hi tt; omega
theorem lohi_mono (a b : Int) (h : a ≤ b) : lo (tt a) ≤ lo (tt b) ∧ hi (tt a) ≤ hi (tt b) := by
  unfold lo hi tt; omega
theorem lohi_add (a b : Int) (h0 : 0 ≤ a) (h1 : a ≤ 1099511627776) (k0 : 0 ≤ b) (k1 : b ≤ 1099511627776) : lo (tt a) + lo (tt b) ≤ lo (tt (a + b)) ∧ hi (tt (a + b)) ≤ hi (tt a) + hi (tt b) := by
  unfold lo hi tt; omega

set_option maxHeartbeats 1000000 in
theorem bounds_walk {x y : Int} {w : World} (hx : (Lit.int .u64 x).wf = true) (hy : (Lit.int .u64 y).wf = true) :
    Calls Try.prog 4 #[.int .u64 x, .int .u64 y] w fun e w' => e = .returned (.bool true) ∧ Ext w w' := by
  obtain ⟨x0, x1⟩ := bd_u64 hx
  obtain ⟨y0, y1⟩ := bd_u64 hy
  clear hx hy
  have a := tm_bd x
  have b := tm_bd y
  obtain ⟨a0, a1⟩ := a
  obtain ⟨b0, b1⟩ := b
  obtain ⟨p1, p2, p3, p4, p5, p6⟩ := lohi (tm x) a0 (by omega)
  obtain ⟨q1, q2, q3, q4, q5, q6⟩ := lohi (tm y) b0 (by omega)
  obtain ⟨r1, r2⟩ := lohi_add (tm x) (tm y) a0 a1 b0 b1
  by_cases hab : tm x ≤ tm y
  · obtain ⟨s1, s2⟩ := lohi_mono _ _ hab
    go_enter Try.func4, Try.ntmps4
    go_wp2_with (first | (go_at_call 9; refine (head_any _).mono ?_; rintro e w1 ⟨rfl, hx⟩) | (go_at_call 20; refine (time_any _ _ (by assumption) (by assumption)).mono ?_; rintro e w' ⟨rfl, rfl⟩) | (go_at_call 10; refine (least0_any _ _).mono ?_; rintro e w' ⟨rfl, rfl⟩) | (go_at_call 12; refine (most0_any _ _).mono ?_; rintro e w' ⟨rfl, rfl⟩))
    go_ret
    exact ⟨rfl, by assumption⟩
  · have hba : tm y < tm x := by omega
    go_enter Try.func4, Try.ntmps4
    go_wp2_with (first | (go_at_call 9; refine (head_any _).mono ?_; rintro e w1 ⟨rfl, hx⟩) | (go_at_call 20; refine (time_any _ _ (by assumption) (by assumption)).mono ?_; rintro e w' ⟨rfl, rfl⟩) | (go_at_call 10; refine (least0_any _ _).mono ?_; rintro e w' ⟨rfl, rfl⟩) | (go_at_call 12; refine (most0_any _ _).mono ?_; rintro e w' ⟨rfl, rfl⟩))
    go_ret
    exact ⟨rfl, by assumption⟩
end Go.Proofs.Ytncppgmmcfippaa.Clk
