/- The reference's Wait (clocks). -/
import Derived.Test.YtocnopgpdlfkjaaClockB0
namespace Go.Proofs.Ytocnopgpdlfkjaa.Clk
open Go.RowKit
set_option linter.unusedVariables false

theorem wt_bd (n : Int) (h0 : 0 ≤ n) (h1 : n ≤ 1099511627776) : 0 ≤ wt n ∧ wt n ≤ 1200000000000 := by unfold wt; split <;> omega
theorem tt_sh (r : Int) : tt (sh r) = sh r := by have := sh_bd r; unfold tt; omega
theorem sh_mono (x y : Int) (h : x ≤ y) : sh x ≤ sh y := by unfold sh; split <;> split <;> omega
theorem lo_mono (x y : Int) (h : x ≤ y) : lo x ≤ lo y := by unfold lo; omega
theorem wt_least' (n : Int) (h0 : 0 ≤ n) (h1 : n ≤ 1099511627776) : LeastOf (fun r => decide (n ≤ lo (sh r))) 0 2199023255552 (wt n) := by
  obtain ⟨a, b, c, d⟩ := wt_least n h0 h1
  have w := wt_bd n h0 h1
  exact ⟨a, by omega, c, fun _ => d (by omega)⟩

def wi (n m : Int) : Int := if n < 0 then 0 else if m < n then m else n
theorem wi_tt (n : Int) : wi n 2199023255552 = tt n := by unfold wi tt; split <;> (try split) <;> omega
theorem wi_aa (n : Int) : wi n 1099511627776 = aa n := by unfold wi aa; split <;> (try split) <;> omega

set_option maxHeartbeats 400000 in
theorem rwithin (n m : Int) (w : World) : Calls Try.prog 56 #[.int .i64 n, .int .i64 m] w fun e w' => e = .returned (.int .i64 (wi n m)) ∧ w = w' := by
  go_enter Try.func56, Try.ntmps56
  go_wp2
  all_goals (go_ret; exact ⟨ret_int (by unfold wi; split <;> (try split) <;> omega), rfl⟩)

set_option maxHeartbeats 400000 in
theorem rleast (n : Int) (w : World) : Calls Try.prog 57 #[.int .i64 n] w fun e w' => e = .returned (.int .i64 (lo (tt n))) ∧ w = w' := by
  have hb := tt_bd n
  obtain ⟨b0, b1⟩ := hb
  go_enter Try.func57, Try.ntmps57
  go_wp2_with (go_at_call 56; refine (rwithin _ _ _).mono ?_; rintro e w' ⟨rfl, rfl⟩; rw [wi_tt])
  go_ret
  exact ⟨rfl, rfl⟩

set_option maxHeartbeats 400000 in
theorem rmost (n : Int) (w : World) : Calls Try.prog 67 #[.int .i64 n] w fun e w' => e = .returned (.int .i64 (hi (tt n))) ∧ w = w' := by
  have hb := tt_bd n
  obtain ⟨b0, b1⟩ := hb
  go_enter Try.func67, Try.ntmps67
  go_wp2_with (go_at_call 56; refine (rwithin _ _ _).mono ?_; rintro e w' ⟨rfl, rfl⟩; rw [wi_tt])
  all_goals (go_ret; exact ⟨ret_int (by unfold hi; omega), rfl⟩)

theorem tt_id {n : Int} (h0 : 0 ≤ n) (h1 : n ≤ 2199023255552) : tt n = n := by unfold tt; omega

/-- what stands below, and from, a place -/
def Lo (p : Int → Bool) (x : Int) : Prop := ∀ z, 0 ≤ z → z < x → p z = false
def Hi (p : Int → Bool) (x T : Int) : Prop := x < T → p x = true

set_option maxHeartbeats 1000000 in
theorem rsoonest (r : Int) (w : World) : Calls Try.prog 58 #[.int .i64 r] w fun e w' => e = .returned (.int .i64 (sh r)) ∧ w = w' := by
  go_enter Try.func58, Try.ntmps58
  go_wp2
  go_loop [3, 4, 5] (fun s t _ => ∃ x y : Int, s = .int .i64 x ∧ t = .int .i64 y ∧ 0 ≤ x ∧ x ≤ y ∧ y ≤ 2199023255552 ∧ Lo (fun s => decide (r ≤ hi s)) x ∧ Hi (fun s => decide (r ≤ hi s)) y 2199023255552) (fun s t _ => (intOf t - intOf s).toNat)
  case atStart => exact ⟨0, _, rfl, rfl, by omega, by omega, by omega, by intro z; omega, by intro h; omega⟩
  case round =>
    obtain ⟨x, y, rfl, rfl, h1, h2, h3, h4, h5⟩ := hrel
    by_cases hlt : x < y
    · have E := Lib.hid (tt_id (n := (x + y) / 2) (by omega) (by omega))
      by_cases hp : r ≤ hi ((x + y) / 2)
      · go_wp2_with (go_at_call 67; refine (rmost _ _).mono ?_; rintro e w' ⟨rfl, rfl⟩; rw [E.out])
        go_round
        case rel => exact ⟨x, _, rfl, rfl, h1, by omega, by omega, h4, fun _ => decide_eq_true hp⟩
        case measure => simp [intOf]; omega
      · go_wp2_with (go_at_call 67; refine (rmost _ _).mono ?_; rintro e w' ⟨rfl, rfl⟩; rw [E.out])
        go_round
        case rel => exact ⟨_, y, rfl, rfl, by omega, by omega, h3, fun z hz hz' => decide_eq_false (fun k => by unfold hi at *; omega), h5⟩
        case measure => simp [intOf]; omega
    · obtain rfl : x = y := by omega
      have h6 : LeastOf (fun s => decide (r ≤ hi s)) 0 2199023255552 x := ⟨h1, h3, h4, h5⟩
      obtain rfl : x = sh r := h6.same (sh_least r)
      clear h4 h5 h6
      go_wp2
      go_ret
      exact ⟨rfl, rfl⟩

set_option maxHeartbeats 1000000 in
theorem rwait (n : Int) (w : World) : Calls Try.prog 36 #[.int .i64 n] w fun e w' => e = .returned (.int .i64 (wt (aa n))) ∧ w = w' := by
  obtain ⟨n0, n1⟩ := aa_bd n
  go_enter Try.func36, Try.ntmps36
  go_wp2_with (go_at_call 56; refine (rwithin _ _ _).mono ?_; rintro e w' ⟨rfl, rfl⟩; rw [wi_aa])
  go_loop [4, 5, 6] (fun s t _ => ∃ x y : Int, s = .int .i64 x ∧ t = .int .i64 y ∧ 0 ≤ x ∧ x ≤ y ∧ y ≤ 2199023255552 ∧ Lo (fun s => decide (aa n ≤ lo (sh s))) x ∧ Hi (fun s => decide (aa n ≤ lo (sh s))) y 2199023255552) (fun s t _ => (intOf t - intOf s).toNat)
  case atStart => exact ⟨0, _, rfl, rfl, by omega, by omega, by omega, by intro z; omega, by intro h; omega⟩
  case round =>
    obtain ⟨x, y, rfl, rfl, h1, h2, h3, h4, h5⟩ := hrel
    by_cases hlt : x < y
    · have E := Lib.hid (tt_sh ((x + y) / 2))
      by_cases hp : aa n ≤ lo (sh ((x + y) / 2))
      · go_wp2_with (first | (go_at_call 58; refine (rsoonest _ _).mono ?_; rintro e w' ⟨rfl, rfl⟩) | (go_at_call 57; refine (rleast _ _).mono ?_; rintro e w' ⟨rfl, rfl⟩; rw [E.out]))
        go_round
        case rel => exact ⟨x, _, rfl, rfl, h1, by omega, by omega, h4, fun _ => decide_eq_true hp⟩
        case measure => simp [intOf]; omega
      · go_wp2_with (first | (go_at_call 58; refine (rsoonest _ _).mono ?_; rintro e w' ⟨rfl, rfl⟩) | (go_at_call 57; refine (rleast _ _).mono ?_; rintro e w' ⟨rfl, rfl⟩; rw [E.out]))
        go_round
        case rel => exact ⟨_, y, rfl, rfl, by omega, by omega, h3, fun z hz hz' => decide_eq_false (fun k => by
          have := lo_mono _ _ (sh_mono z ((x + y) / 2) (by omega)); omega), h5⟩
        case measure => simp [intOf]; omega
    · obtain rfl : x = y := by omega
      have h6 : LeastOf (fun s => decide (aa n ≤ lo (sh s))) 0 2199023255552 x := ⟨h1, h3, h4, h5⟩
      obtain rfl : x = wt (aa n) := h6.same (wt_least' _ n0 n1)
      clear h4 h5 h6
      go_wp2
      go_ret
      exact ⟨rfl, rfl⟩
end Go.Proofs.Ytocnopgpdlfkjaa.Clk
