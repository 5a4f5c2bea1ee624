/- The document's answer's Wait, Use, Right; the walk of ClockTells. -/
import Derived.Test.YtncppgmmcfippaaClockR
import Derived.Test.YtncppgmmcfippaaClockC
namespace Go.Proofs.Ytncppgmmcfippaa.Clk
open Go.RowKit
set_option linter.unusedVariables false

theorem wt_least' (n : Int) (h0 : 0 ≤ n) (h1 : n ≤ 1099511627776) : LeastOf (fun r => decide (n ≤ lo (sh r))) 0 2199023255552 (wt n) := by
  obtain ⟨a, b, c, d⟩ := wt_least n h0 h1
  have w := wt_bd n h0 h1
  exact ⟨a, by omega, c, fun _ => d (by omega)⟩

theorem aa_bd' (n : Int) : 0 ≤ aa n ∧ aa n ≤ 1099511627776 := aa_bd n
theorem tt_sh (r : Int) : tt (sh r) = sh r := by have := sh_bd r; unfold tt; omega
theorem tt_lg (r : Int) (h : 0 ≤ r) : tt (lg r) = lg r := by have := lg_bd r h; unfold tt; omega
theorem sh_mono (x y : Int) (h : x ≤ y) : sh x ≤ sh y := by unfold sh; split <;> split <;> omega
theorem lg_mono (x y : Int) (h : x ≤ y) : lg x ≤ lg y := by unfold lg; omega
theorem lo_mono (x y : Int) (h : x ≤ y) : lo x ≤ lo y := by unfold lo; omega
theorem hi_mono (x y : Int) (h : x ≤ y) : hi x ≤ hi y := by unfold hi; omega

set_option maxHeartbeats 1000000 in
theorem rwait (n : Int) (w : World) : Calls Try.prog 15 #[.int .i64 n] w fun e w' => e = .returned (.int .i64 (wt (aa n))) ∧ w = w' := by
  obtain ⟨n0, n1⟩ := aa_bd n
  go_enter Try.func15, Try.ntmps15
  go_wp2_with (go_at_call 25; refine (rwithin _ _ _).mono ?_; rintro e w' ⟨rfl, rfl⟩; rw [wi_aa])
  go_loop [4, 5, 6] (fun s t _ => ∃ x y : Int, s = .int .i64 x ∧ t = .int .i64 y ∧ 0 ≤ x ∧ x ≤ y ∧ y ≤ 2199023255552 ∧ Lo (fun s => decide (aa n ≤ lo (sh s))) x ∧ Hi (fun s => decide (aa n ≤ lo (sh s))) y 2199023255552) (fun s t _ => (intOf t - intOf s).toNat)
  case atStart => exact ⟨0, _, rfl, rfl, by omega, by omega, by omega, by intro z; omega, by intro h; omega⟩
  case round =>
    obtain ⟨x, y, rfl, rfl, h1, h2, h3, h4, h5⟩ := hrel
    by_cases hlt : x < y
    · have E := Lib.hid (tt_sh ((x + y) / 2))
      by_cases hp : aa n ≤ lo (sh ((x + y) / 2))
      · go_wp2_with (first | (go_at_call 31; refine (rsoonest _ _).mono ?_; rintro e w' ⟨rfl, rfl⟩) | (go_at_call 11; refine (rleast _ _).mono ?_; rintro e w' ⟨rfl, rfl⟩; rw [E.out]))
        go_round
        case rel => exact ⟨x, _, rfl, rfl, h1, by omega, by omega, h4, fun _ => decide_eq_true hp⟩
        case measure => simp [intOf]; omega
      · go_wp2_with (first | (go_at_call 31; refine (rsoonest _ _).mono ?_; rintro e w' ⟨rfl, rfl⟩) | (go_at_call 11; refine (rleast _ _).mono ?_; rintro e w' ⟨rfl, rfl⟩; rw [E.out]))
        go_round
        case rel => exact ⟨_, y, rfl, rfl, by omega, by omega, h3, fun z hz hz' => decide_eq_false (fun k => by
          have := lo_mono _ _ (sh_mono z ((x + y) / 2) (by omega)); omega), h5⟩
        case measure => simp [intOf]; omega
    · obtain rfl : x = y := by omega
      have h6 : LeastOf (fun s => decide (aa n ≤ lo (sh s))) 0 2199023255552 x := ⟨h1, h3, h4, h5⟩
      obtain rfl : x = wt (aa n) := h6.same (wt_least' _ n0 n1)
      clear h4 h5 h6
      go_wp2
      go_ret
      exact ⟨rfl, rfl⟩

set_option maxHeartbeats 1000000 in
theorem ruse (n : Int) (w : World) : Calls Try.prog 17 #[.int .i64 n] w fun e w' => e = .returned (.int .i64 (us (aa n))) ∧ w = w' := by
  obtain ⟨n0, n1⟩ := aa_bd n
  have E0 := Lib.hid (tt_lg 0 (by omega))
  have l0 : hi (lg 0) = 2 := by decide
  have L0 := Lib.hid l0
  clear l0
  by_cases hc : aa n < hi (lg 0)
  · go_enter Try.func17, Try.ntmps17
    go_wp2_with (first | (go_at_call 25; refine (rwithin _ _ _).mono ?_; rintro e w' ⟨rfl, rfl⟩; rw [wi_aa]) | (go_at_call 35; refine (rlatest _ _ (by omega)).mono ?_; rintro e w' ⟨rfl, rfl⟩) | (go_at_call 13; refine (rmost _ _).mono ?_; rintro e w' ⟨rfl, rfl⟩; rw [E0.out]))
    go_ret
    exact ⟨ret_int (by rw [L0.out] at hc; unfold us; omega), rfl⟩
  · go_enter Try.func17, Try.ntmps17
    go_wp2_with (first | (go_at_call 25; refine (rwithin _ _ _).mono ?_; rintro e w' ⟨rfl, rfl⟩; rw [wi_aa]) | (go_at_call 35; refine (rlatest _ _ (by omega)).mono ?_; rintro e w' ⟨rfl, rfl⟩) | (go_at_call 13; refine (rmost _ _).mono ?_; rintro e w' ⟨rfl, rfl⟩; rw [E0.out]))
    go_loop [4, 5, 6] (fun s t _ => ∃ x y : Int, s = .int .i64 x ∧ t = .int .i64 y ∧ 0 ≤ x ∧ x ≤ y ∧ y ≤ 2199023255552 ∧ Lo (fun s => !decide (hi (lg s) ≤ aa n)) (x + 1) ∧ Hi (fun s => !decide (hi (lg s) ≤ aa n)) (y + 1) 2199023255553) (fun s t _ => (intOf t - intOf s).toNat)
    case atStart => exact ⟨0, _, rfl, rfl, by omega, by omega, by omega, fun z h k => by
      obtain rfl : z = 0 := by omega
      have : hi (lg 0) ≤ aa n := by omega
      simp [this], by intro h; omega⟩
    case round =>
      obtain ⟨x, y, rfl, rfl, h1, h2, h3, h4, h5⟩ := hrel
      by_cases hlt : x < y
      · have E := Lib.hid (tt_lg ((x + y + 1) / 2) (by omega))
        have hm : 0 ≤ (x + y + 1) / 2 := by omega
        by_cases hp : hi (lg ((x + y + 1) / 2)) ≤ aa n
        · go_wp2_with (first | (go_at_call 35; refine (rlatest _ _ (by assumption)).mono ?_; rintro e w' ⟨rfl, rfl⟩) | (go_at_call 13; refine (rmost _ _).mono ?_; rintro e w' ⟨rfl, rfl⟩; rw [E.out]))
          go_round
          case rel => exact ⟨_, y, rfl, rfl, by omega, by omega, h3, fun z hz hz' => by
            have : hi (lg z) ≤ aa n := by have := hi_mono _ _ (lg_mono z ((x + y + 1) / 2) (by omega)); omega
            simp [this], h5⟩
          case measure => simp [intOf]; omega
        · go_wp2_with (first | (go_at_call 35; refine (rlatest _ _ (by assumption)).mono ?_; rintro e w' ⟨rfl, rfl⟩) | (go_at_call 13; refine (rmost _ _).mono ?_; rintro e w' ⟨rfl, rfl⟩; rw [E.out]))
          go_round
          case rel => exact ⟨x, _, rfl, rfl, h1, by omega, by omega, h4, fun _ => by
            rw [Int.sub_add_cancel]
            simp [hp]⟩
          case measure => simp [intOf]; omega
      · obtain rfl : x = y := by omega
        have h6 : LeastOf (fun s => !decide (hi (lg s) ≤ aa n)) 0 2199023255553 (x + 1) := ⟨by omega, by omega, h4, h5⟩
        have h7 : x + 1 = us (aa n) + 1 := h6.same (us_least _ n0 n1)
        obtain rfl : x = us (aa n) := by omega
        clear h4 h5 h6 h7
        go_wp2
        go_ret
        exact ⟨rfl, rfl⟩

set_option maxHeartbeats 2000000 in
theorem rright (p q : Option Addr) (n m c d : Nat) (xs ys : List Int) (w : World) (hx : RowI .i64 w p n xs) (hy : RowI .i64 w q m ys) :
    Calls Try.prog 19 #[.slice p n c, .slice q m d] w (Tells (RightP xs ys) w) := by
  obtain ⟨hx1, hx2, hx3⟩ := hx
  obtain ⟨hy1, hy2, hy3⟩ := hy
  have HX1 := Lib.hid hx1
  have HY1 := Lib.hid hy1
  clear hx1 hy1
  have HX3 := Lib.hid hx3
  have HY3 := Lib.hid hy3
  clear hx3 hy3
  by_cases hnm : n = m
  · subst hnm
    go_enter Try.func19, Try.ntmps19
    go_wp2
    go_loop [5] (fun t => ∃ k : Nat, t = .int .i64 k ∧ k ≤ n ∧ Hid (∀ i, i < k → OkAt xs ys i)) (fun t => n - (intOf t).toNat)
    case atStart => exact ⟨0, rfl, Nat.zero_le _, Lib.hid (by intro i h; omega)⟩
    case round =>
      obtain ⟨k, rfl, hk, h1⟩ := hrel
      by_cases hlt : k < n
      · obtain ⟨b, off, rfl, hcx⟩ := HX3.out (by omega)
        obtain ⟨b', off', rfl, hcy⟩ := HY3.out (by omega)
        have cx := hcx k hlt
        have cy := hcy k hlt
        clear hcx hcy
        by_cases hok : OkAt xs ys k
        · obtain ⟨o1, o2, o3, o4⟩ := hok
          go_wp2
          go_round
          case rel => exact ⟨k + 1, by go_num, by omega, Lib.hid (fun i hi => by
            by_cases e : i = k
            · subst e; exact ⟨o1, o2, o3, o4⟩
            · exact h1.out i (by omega))⟩
          case measure => simp [intOf]; omega
        · go_wp2
          all_goals first
            | (exfalso; apply hok; exact ⟨by omega, by omega, by omega, by omega⟩)
            | (go_ret; exact Tells.no (fun h => hok (h.2.1 k (by rw [HX1.out]; exact hlt))) (Ext.refl _))
      · obtain rfl : k = n := by omega
        go_wp2
        go_loopw [6, 7, 8, 9] (fun t _ _ _ wr => ∃ l : Nat, t = .int .i64 l ∧ l ≤ k ∧ Hid (∀ i j, i < l → j < i → OkTo xs ys i j) ∧ Ext w wr) (fun t _ _ _ _ => k - (intOf t).toNat)
        case atStart => exact ⟨0, rfl, Nat.zero_le _, Lib.hid (by intro i j h; omega), Ext.refl _⟩
        case round =>
          obtain ⟨i, rfl, hi, h2, hw⟩ := hrel
          by_cases hik : i < k
          · obtain ⟨b, off, rfl, hcx⟩ := HX3.out (by omega)
            obtain ⟨b', off', rfl, hcy⟩ := HY3.out (by omega)
            have HCX := Lib.hid hcx
            have HCY := Lib.hid hcy
            clear hcx hcy
            go_wp2
            go_loopw [7, 8, 9] (fun t _ _ wr => ∃ l : Nat, t = .int .i64 l ∧ l ≤ i ∧ Hid (∀ j, j < l → OkTo xs ys i j) ∧ Ext w wr) (fun t _ _ _ => i - (intOf t).toNat)
            case atStart => exact ⟨0, rfl, Nat.zero_le _, Lib.hid (by intro j h; omega), hw⟩
            case round =>
              obtain ⟨l, rfl, hl, h3, hw2⟩ := hrel
              by_cases hli : l < i
              · have cxi := hw2.cell (HCX.out i hik)
                have cyi := hw2.cell (HCY.out i hik)
                have cxl := hw2.cell (HCX.out l (by omega))
                have cyl := hw2.cell (HCY.out l (by omega))
                obtain ⟨q1, q2, q3, q4⟩ := h1.out l (by omega)
                obtain ⟨o1, o2, o3, o4⟩ := h1.out i hik
                by_cases c1 : at0 xs l ≤ at0 xs i
                · go_wp2
                  go_quiet (fail)
                  go_wp2
                  go_quiet (fail)
                  go_wp2_with (first | (go_at_call 11; refine (rleast _ _).mono ?_; rintro e w' ⟨rfl, rfl⟩) | (go_at_call 13; refine (rmost _ _).mono ?_; rintro e w' ⟨rfl, rfl⟩))
                  all_goals first
                    | (go_ret; exact Tells.no (fun h => by have := h.2.2 i l (by rw [HX1.out]; exact hik) hli; unfold OkTo at this; omega) (Ext.drewN hw2 _))
                    | (go_roundw
                       case rel => exact ⟨l + 1, by go_num, by omega, Lib.hid (fun j hj => by
                         by_cases e : j = l
                         · subst e; unfold OkTo; omega
                         · exact h3.out j (by omega)), Ext.drewN hw2 _⟩
                       case measure => simp [intOf]; omega)
                · go_wp2
                  go_quiet (fail)
                  go_wp2
                  go_quiet (fail)
                  go_wp2
                  go_ret
                  exact Tells.no (fun h => by have := h.2.2 i l (by rw [HX1.out]; exact hik) hli; unfold OkTo at this; omega) (Ext.drewN hw2 _)
              · go_wp2
                go_roundw
                case rel => exact ⟨i + 1, by go_num, by omega, Lib.hid (fun i' j hi' hj => by
                  by_cases e : i' = i
                  · subst e; exact h3.out j (by omega)
                  · exact h2.out i' j (by omega) hj), hw2⟩
                case measure => simp [intOf]; omega
          · go_wp2
            go_ret
            have : i = k := by omega
            subst this
            exact Tells.yes ⟨by rw [HX1.out, HY1.out], fun j hj => h1.out j (by rw [← HX1.out]; exact hj), fun i' j hi' hj => h2.out i' j (by rw [← HX1.out]; exact hi') hj⟩ hw
  · go_enter Try.func19, Try.ntmps19
    go_wp2
    go_ret
    exact Tells.no (fun h => by rw [← HX1.out, ← HY1.out] at hnm; exact absurd h.1 hnm) (Ext.refl _)

set_option maxHeartbeats 2000000 in
theorem tells_walk {x : Int} {p q : Option Addr} {n m c d : Nat} {xs ys : List Int} {w : World} (hx : (Lit.int .i64 x).wf = true) (hp : RowI .i64 w p n xs) (hq : RowI .i64 w q m ys) :
    Calls Try.prog 3 #[.int .i64 x, .slice p n c, .slice q m d] w fun e w' => e = .returned (.bool true) ∧ Ext w w' := by
  have HP := Lib.hid hp
  have HQ := Lib.hid hq
  have hpb := hp.2.1
  have hqb := hq.2.1
  clear hx hp hq
  by_cases h1 : n ≤ 60 ∧ m ≤ 60
  · obtain ⟨g1, g2⟩ := h1
    have hx := Ext.refl w
    go_enter Try.func3, Try.ntmps3
    go_wp2_with (first | (go_at_call 9; refine (head_any _).mono ?_; rintro e w1 ⟨rfl, hx1⟩; replace hx := Ext.trans hx hx1; clear hx1) | (go_at_call 10; refine (least0_any _ _).mono ?_; rintro e w' ⟨rfl, rfl⟩) | (go_at_call 12; refine (most0_any _ _).mono ?_; rintro e w' ⟨rfl, rfl⟩) | (go_at_call 14; refine (wait_any _ _).mono ?_; rintro e w2 ⟨rfl, hx2⟩; replace hx := Ext.trans hx hx2; clear hx2) | (go_at_call 16; refine (use_any _ _).mono ?_; rintro e w3 ⟨rfl, hx3⟩; replace hx := Ext.trans hx hx3; clear hx3) | (go_at_call 11; refine (rleast _ _).mono ?_; rintro e w' ⟨rfl, rfl⟩) | (go_at_call 13; refine (rmost _ _).mono ?_; rintro e w' ⟨rfl, rfl⟩) | (go_at_call 15; refine (rwait _ _).mono ?_; rintro e w' ⟨rfl, rfl⟩) | (go_at_call 17; refine (ruse _ _).mono ?_; rintro e w' ⟨rfl, rfl⟩))
    refine (right_any _ _ _ _ _ _ xs ys _ (HP.out.ext hx) (HQ.out.ext hx)).mono ?_
    rintro e w4 ⟨b4, rfl, k4, hx4⟩
    replace hx := Ext.trans hx hx4
    have K4 := Lib.hid k4
    clear hx4 k4
    go_wp2_with fail
    refine (rright _ _ _ _ _ _ xs ys _ (HP.out.ext hx) (HQ.out.ext hx)).mono ?_
    rintro e w5 ⟨b5, rfl, k5, hx5⟩
    replace hx := Ext.trans hx hx5
    obtain rfl : b4 = b5 := by
      have k4 := K4.out
      cases b4 <;> cases b5 <;> simp_all
    clear hx5 k5
    go_wp2
    go_ret
    exact ⟨ret_bool (by simp), hx⟩
  · by_cases h2 : n ≤ 60
    · have h3 : 60 < m := by omega
      have hx := Ext.refl w
      go_enter Try.func3, Try.ntmps3
      go_wp2_with (go_at_call 9; refine (head_any _).mono ?_; rintro e w1 ⟨rfl, hx1⟩; replace hx := Ext.trans hx hx1; clear hx1)
      go_ret
      exact ⟨rfl, hx⟩
    · have h3 : 60 < n := by omega
      have hx := Ext.refl w
      go_enter Try.func3, Try.ntmps3
      go_wp2_with (go_at_call 9; refine (head_any _).mono ?_; rintro e w1 ⟨rfl, hx1⟩; replace hx := Ext.trans hx hx1; clear hx1)
      go_ret
      exact ⟨rfl, hx⟩
end Go.Proofs.Ytncppgmmcfippaa.Clk
