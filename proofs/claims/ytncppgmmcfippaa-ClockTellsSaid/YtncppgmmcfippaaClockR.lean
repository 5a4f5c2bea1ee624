/- The document's answer's functions: contracts. -/
import Derived.Test.YtncppgmmcfippaaClockF
namespace Go.Proofs.Ytncppgmmcfippaa.Clk
open Go.RowKit
set_option linter.unusedVariables false

def wi (n m : Int) : Int := if n < 0 then 0 else if m < n then m else n
theorem wi_tt (n : Int) : wi n 2199023255552 = tt n := by unfold wi tt; split <;> (try split) <;> omega
theorem wi_aa (n : Int) : wi n 1099511627776 = aa n := by unfold wi aa; split <;> (try split) <;> omega

set_option maxHeartbeats 400000 in
theorem rwithin (n m : Int) (w : World) : Calls Try.prog 25 #[.int .i64 n, .int .i64 m] w fun e w' => e = .returned (.int .i64 (wi n m)) ∧ w = w' := by
  go_enter Try.func25, Try.ntmps25
  go_wp2
  all_goals (go_ret; exact ⟨ret_int (by unfold wi; split <;> (try split) <;> omega), rfl⟩)

set_option maxHeartbeats 400000 in
theorem rleast (n : Int) (w : World) : Calls Try.prog 11 #[.int .i64 n] w fun e w' => e = .returned (.int .i64 (lo (tt n))) ∧ w = w' := by
  have hb := tt_bd n
  obtain ⟨b0, b1⟩ := hb
  go_enter Try.func11, Try.ntmps11
  go_wp2_with (go_at_call 25; refine (rwithin _ _ _).mono ?_; rintro e w' ⟨rfl, rfl⟩; rw [wi_tt])
  go_ret
  exact ⟨rfl, rfl⟩

set_option maxHeartbeats 400000 in
theorem rmost (n : Int) (w : World) : Calls Try.prog 13 #[.int .i64 n] w fun e w' => e = .returned (.int .i64 (hi (tt n))) ∧ w = w' := by
  have hb := tt_bd n
  obtain ⟨b0, b1⟩ := hb
  go_enter Try.func13, Try.ntmps13
  go_wp2_with (go_at_call 25; refine (rwithin _ _ _).mono ?_; rintro e w' ⟨rfl, rfl⟩; rw [wi_tt])
  all_goals (go_ret; exact ⟨ret_int (by unfold hi; omega), rfl⟩)

theorem tt_id {n : Int} (h0 : 0 ≤ n) (h1 : n ≤ 2199023255552) : tt n = n := by unfold tt; omega

/-- what stands below, and from, a place -/
def Lo (p : Int → Bool) (x : Int) : Prop := ∀ z, 0 ≤ z → z < x → p z = false
def Hi (p : Int → Bool) (x T : Int) : Prop := x < T → p x = true

set_option maxHeartbeats 1000000 in
theorem rsoonest (r : Int) (w : World) : Calls Try.prog 31 #[.int .i64 r] w fun e w' => e = .returned (.int .i64 (sh r)) ∧ w = w' := by
  go_enter Try.func31, Try.ntmps31
  go_wp2
  go_loop [3, 4, 5] (fun s t _ => ∃ x y : Int, s = .int .i64 x ∧ t = .int .i64 y ∧ 0 ≤ x ∧ x ≤ y ∧ y ≤ 2199023255552 ∧ Lo (fun s => decide (r ≤ hi s)) x ∧ Hi (fun s => decide (r ≤ hi s)) y 2199023255552) (fun s t _ => (intOf t - intOf s).toNat)
  case atStart => exact ⟨0, _, rfl, rfl, by omega, by omega, by omega, by intro z; omega, by intro h; omega⟩
  case round =>
    obtain ⟨x, y, rfl, rfl, h1, h2, h3, h4, h5⟩ := hrel
    by_cases hlt : x < y
    · have E := Lib.hid (tt_id (n := (x + y) / 2) (by omega) (by omega))
      by_cases hp : r ≤ hi ((x + y) / 2)
      · go_wp2_with (go_at_call 13; refine (rmost _ _).mono ?_; rintro e w' ⟨rfl, rfl⟩; rw [E.out])
        go_round
        case rel => exact ⟨x, _, rfl, rfl, h1, by omega, by omega, h4, fun _ => decide_eq_true hp⟩
        case measure => simp [intOf]; omega
      · go_wp2_with (go_at_call 13; refine (rmost _ _).mono ?_; rintro e w' ⟨rfl, rfl⟩; rw [E.out])
        go_round
        case rel => exact ⟨_, y, rfl, rfl, by omega, by omega, h3, fun z hz hz' => decide_eq_false (fun k => by unfold hi at *; omega), h5⟩
        case measure => simp [intOf]; omega
    · obtain rfl : x = y := by omega
      have h6 : LeastOf (fun s => decide (r ≤ hi s)) 0 2199023255552 x := ⟨h1, h3, h4, h5⟩
      obtain rfl : x = sh r := h6.same (sh_least r)
      clear h4 h5 h6
      go_wp2
      go_ret
      exact ⟨rfl, rfl⟩

set_option maxHeartbeats 1000000 in
theorem rlatest (r : Int) (w : World) (h0 : 0 ≤ r) : Calls Try.prog 35 #[.int .i64 r] w fun e w' => e = .returned (.int .i64 (lg r)) ∧ w = w' := by
  go_enter Try.func35, Try.ntmps35
  go_wp2
  go_loop [3, 4, 5] (fun s t _ => ∃ x y : Int, s = .int .i64 x ∧ t = .int .i64 y ∧ 0 ≤ x ∧ x ≤ y ∧ y ≤ 2199023255552 ∧ Lo (fun s => !decide (lo s ≤ r)) (x + 1) ∧ Hi (fun s => !decide (lo s ≤ r)) (y + 1) 2199023255553) (fun s t _ => (intOf t - intOf s).toNat)
  case atStart => exact ⟨0, _, rfl, rfl, by omega, by omega, by omega, fun z h k => by
    obtain rfl : z = 0 := by omega
    have : lo 0 ≤ r := by unfold lo; omega
    simp [this], by intro h; omega⟩
  case round =>
    obtain ⟨x, y, rfl, rfl, h1, h2, h3, h4, h5⟩ := hrel
    by_cases hlt : x < y
    · have E := Lib.hid (tt_id (n := (x + y + 1) / 2) (by omega) (by omega))
      by_cases hp : lo ((x + y + 1) / 2) ≤ r
      · go_wp2_with (go_at_call 11; refine (rleast _ _).mono ?_; rintro e w' ⟨rfl, rfl⟩; rw [E.out])
        go_round
        case rel => exact ⟨_, y, rfl, rfl, by omega, by omega, h3, fun z hz hz' => by
          have : lo z ≤ r := by unfold lo at *; omega
          simp [this], h5⟩
        case measure => simp [intOf]; omega
      · go_wp2_with (go_at_call 11; refine (rleast _ _).mono ?_; rintro e w' ⟨rfl, rfl⟩; rw [E.out])
        go_round
        case rel => exact ⟨x, _, rfl, rfl, h1, by omega, by omega, h4, fun _ => by
          rw [Int.sub_add_cancel]
          simp [hp]⟩
        case measure => simp [intOf]; omega
    · obtain rfl : x = y := by omega
      have h6 : LeastOf (fun s => !decide (lo s ≤ r)) 0 2199023255553 (x + 1) := ⟨by omega, by omega, h4, h5⟩
      have h7 : x + 1 = lg r + 1 := h6.same (lg_least r h0)
      obtain rfl : x = lg r := by omega
      clear h4 h5 h6 h7
      go_wp2
      go_ret
      exact ⟨rfl, rfl⟩
end Go.Proofs.Ytncppgmmcfippaa.Clk
