/- Jobs: may one be; which is ahead. -/
import Derived.Test.YtlbpgaoindkgbaaMeM
import Derived.BigQuiet
import Derived.IntWalk
import Derived.Deep.RegionHeld3
import Derived.Sort.Grow
namespace Go.Proofs.Ytlbpgaoindkgbaa.Me
open Go.RowKit Go.Proofs.Ytlbpgaoindkgbaa Go.Sort
set_option linter.unusedVariables false

theorem num_any (n : Int) (w : World) : Calls Try.prog 34 #[.int .i64 n] w fun e w' => e = .returned (.bool (numB n)) ∧ w = w' := by
  by_cases ha : 0 ≤ n
  · have da0 : decide (0 ≤ n) = true := decide_eq_true ha
    have Ha := Lib.hid ha
    clear ha
    by_cases hb : n ≤ 1099511627776
    · have db0 : decide (n ≤ 1099511627776) = true := decide_eq_true hb
      have Hb := Lib.hid hb
      clear hb
      have e : numB n = true := by
        have ga := Ha.out
        have gb := Hb.out
        unfold numB
        exact decide_eq_true (by omega)
      rw [e]
      clear e
      go_enter Try.func34, Try.ntmps34
      go_wp2
      go_ret
      exact ⟨rfl, rfl⟩
    · have db0 : decide (n ≤ 1099511627776) = false := decide_eq_false hb
      have Hb := Lib.hid hb
      clear hb
      have e : numB n = false := by
        have ga := Ha.out
        have gb := Hb.out
        unfold numB
        exact decide_eq_false (by omega)
      rw [e]
      clear e
      go_enter Try.func34, Try.ntmps34
      go_wp2
      go_ret
      exact ⟨rfl, rfl⟩
  · have da0 : decide (0 ≤ n) = false := decide_eq_false ha
    have Ha := Lib.hid ha
    clear ha
    have e : numB n = false := by
      have ga := Ha.out
      unfold numB
      exact decide_eq_false (by omega)
    rw [e]
    clear e
    go_enter Try.func34, Try.ntmps34
    go_wp2
    go_ret
    exact ⟨rfl, rfl⟩

set_option maxRecDepth 100000 in
set_option maxHeartbeats 4000000 in
theorem may_any (x : Jb) (w : World) : Calls Try.prog 28 #[.agg #[.int .i64 x.i, .int .i64 x.v, .int .i64 x.f, .int .i64 x.t, .int .i64 x.h, .int .i64 x.l]] w fun e w' => e = .returned (.bool (mayB x)) ∧ Ext w w' := by
  go_enter Try.func28, Try.ntmps28
  go_wp2_with (go_at_call 34; refine (num_any _ _).mono ?_; rintro e w1 ⟨rfl, rfl⟩)
  all_goals go_ret
  all_goals refine ⟨?_, Ext.alloc _ _⟩
  all_goals refine congrArg (fun b => Ending.returned (.bool b)) (Bool.eq_iff_iff.2 ?_)
  all_goals unfold mayB
  all_goals simp [numB] at *
  all_goals first | done | omega

set_option maxRecDepth 100000 in
set_option maxHeartbeats 4000000 in
theorem rmay_any (x : Jb) (w : World) : Calls Try.prog 24 #[.agg #[.int .i64 x.i, .int .i64 x.v, .int .i64 x.f, .int .i64 x.t, .int .i64 x.h, .int .i64 x.l]] w fun e w' => e = .returned (.bool (mayB x)) ∧ Ext w w' := by
  go_enter Try.func24, Try.ntmps24
  go_wp2
  all_goals go_ret
  all_goals refine ⟨?_, Ext.alloc _ _⟩
  all_goals refine congrArg (fun b => Ending.returned (.bool b)) (Bool.eq_iff_iff.2 ?_)
  all_goals unfold mayB
  all_goals simp at *
  all_goals first | done | omega

set_option maxRecDepth 100000 in
set_option maxHeartbeats 4000000 in
theorem ahead_any (x y : Jb) (w : World) : Calls Try.prog 26 #[.agg #[.int .i64 x.i, .int .i64 x.v, .int .i64 x.f, .int .i64 x.t, .int .i64 x.h, .int .i64 x.l], .agg #[.int .i64 y.i, .int .i64 y.v, .int .i64 y.f, .int .i64 y.t, .int .i64 y.h, .int .i64 y.l]] w fun e w' => e = .returned (.bool (aheadB x y)) ∧ Ext w w' := by
  by_cases ha : x.h = y.h
  · have da0 : (x.h != y.h) = false := by simp [ha]
    have Ha := Lib.hid ha
    clear ha
    by_cases hc : x.i = y.i
    · have dc0 : (x.i != y.i) = false := by simp [hc]
      have Hc := Lib.hid hc
      clear hc
      by_cases hg : x.t < y.t
      · have dg0 : decide (x.t < y.t) = true := decide_eq_true hg
        have Hg := Lib.hid hg
        clear hg
        have e : aheadB x y = true := by
          have ga := Ha.out
          have gc := Hc.out
          have gg := Hg.out
          unfold aheadB
          exact decide_eq_true (by omega)
        rw [e]
        clear e
        go_enter Try.func26, Try.ntmps26
        go_wp2
        go_ret
        exact ⟨rfl, Ext.trans (Ext.alloc _ _) (Ext.alloc _ _)⟩
      · have dg0 : decide (x.t < y.t) = false := decide_eq_false hg
        have Hg := Lib.hid hg
        clear hg
        have e : aheadB x y = false := by
          have ga := Ha.out
          have gc := Hc.out
          have gg := Hg.out
          unfold aheadB
          exact decide_eq_false (by omega)
        rw [e]
        clear e
        go_enter Try.func26, Try.ntmps26
        go_wp2
        go_ret
        exact ⟨rfl, Ext.trans (Ext.alloc _ _) (Ext.alloc _ _)⟩
    · have dc0 : (x.i != y.i) = true := by simp [hc]
      have Hc := Lib.hid hc
      clear hc
      by_cases hd : x.i < y.i
      · have dd0 : decide (x.i < y.i) = true := decide_eq_true hd
        have Hd := Lib.hid hd
        clear hd
        have e : aheadB x y = true := by
          have ga := Ha.out
          have gc := Hc.out
          have gd := Hd.out
          unfold aheadB
          exact decide_eq_true (by omega)
        rw [e]
        clear e
        go_enter Try.func26, Try.ntmps26
        go_wp2
        go_ret
        exact ⟨rfl, Ext.trans (Ext.alloc _ _) (Ext.alloc _ _)⟩
      · have dd0 : decide (x.i < y.i) = false := decide_eq_false hd
        have Hd := Lib.hid hd
        clear hd
        have e : aheadB x y = false := by
          have ga := Ha.out
          have gc := Hc.out
          have gd := Hd.out
          unfold aheadB
          exact decide_eq_false (by omega)
        rw [e]
        clear e
        go_enter Try.func26, Try.ntmps26
        go_wp2
        go_ret
        exact ⟨rfl, Ext.trans (Ext.alloc _ _) (Ext.alloc _ _)⟩
  · have da0 : (x.h != y.h) = true := by simp [ha]
    have Ha := Lib.hid ha
    clear ha
    by_cases hb : x.h < y.h
    · have db0 : decide (x.h < y.h) = true := decide_eq_true hb
      have Hb := Lib.hid hb
      clear hb
      have e : aheadB x y = true := by
        have ga := Ha.out
        have gb := Hb.out
        unfold aheadB
        exact decide_eq_true (by omega)
      rw [e]
      clear e
      go_enter Try.func26, Try.ntmps26
      go_wp2
      go_ret
      exact ⟨rfl, Ext.trans (Ext.alloc _ _) (Ext.alloc _ _)⟩
    · have db0 : decide (x.h < y.h) = false := decide_eq_false hb
      have Hb := Lib.hid hb
      clear hb
      have e : aheadB x y = false := by
        have ga := Ha.out
        have gb := Hb.out
        unfold aheadB
        exact decide_eq_false (by omega)
      rw [e]
      clear e
      go_enter Try.func26, Try.ntmps26
      go_wp2
      go_ret
      exact ⟨rfl, Ext.trans (Ext.alloc _ _) (Ext.alloc _ _)⟩

theorem target_any (x : Jb) (w : World) : Calls Try.prog 29 #[.agg #[.int .i64 x.i, .int .i64 x.v, .int .i64 x.f, .int .i64 x.t, .int .i64 x.h, .int .i64 x.l]] w fun e w' => e = .returned (.agg #[.int .i64 x.i, .int .i64 x.t]) ∧ Ext w w' := by
  go_enter Try.func29, Try.ntmps29
  go_wp2
  refine bodyPost_ret (v := .agg #[.int .i64 x.i, .int .i64 x.t]) (results_cell_row rfl _ _ (w.heap.size + 1) 46 #[.int .i64 x.i, .int .i64 x.t] (0, 0) _ rfl (by have := heap_alloc_new (w.alloc (.cells #[.int .i64 x.i, .int .i64 x.v, .int .i64 x.f, .int .i64 x.t, .int .i64 x.h, .int .i64 x.l] 33)) (.cells #[.int .i64 x.i, .int .i64 x.t] 46); simpa using this) Try.underlying46 rfl (by kernel_rfl)) rfl ⟨rfl, ?_⟩
  exact Ext.trans (Ext.alloc _ _) (Ext.alloc _ _)

theorem or_any (p : Option Addr) (n c : Nat) (xs : List Int) (w : World) (h : RowI .i64 w p n xs) : Calls Try.prog 35 #[.slice p n c] w fun e w' => e = .returned (.int .i64 (orl xs)) ∧ w = w' := by
  have HP := Lib.hid h
  have hn := h.2.1
  have HL := Lib.hid h.1
  clear h
  go_enter Try.func35, Try.ntmps35
  go_wp2
  go_loopw [5, 8] (fun _ i wr => ∃ k : Nat, i = .int .i64 k ∧ k ≤ n ∧ Hid (∀ j, j < k → at0 xs j = 0) ∧ w = wr) (fun _ i _ => n - (intOf i).toNat)
  case atStart => exact ⟨0, rfl, Nat.zero_le _, Lib.hid (by intro j h; omega), rfl⟩
  case round =>
    obtain ⟨k, rfl, hk, h1, rfl⟩ := hrel
    by_cases hlt : k < n
    · obtain ⟨b, off, rfl, hcx⟩ := HP.out.2.2 (by omega)
      have cx := hcx k hlt
      clear hcx
      obtain ⟨v, hv⟩ : ∃ v, at0 xs k = v := ⟨_, rfl⟩
      have HV := Lib.hid hv
      rw [hv] at cx
      clear hv
      by_cases h0 : v = 0
      · have HV0 : Hid (at0 xs k = 0) := Lib.hid (by rw [HV.out, h0])
        subst h0
        go_wp2
        go_roundw
        case rel => exact ⟨k + 1, by go_num, by omega, Lib.hid (fun j hj => by
          by_cases e : j = k
          · subst e; exact HV0.out
          · exact h1.out j (by omega)), by first | rfl | trivial⟩
        case measure => simp [intOf]; omega
      · have hb : (v != 0) = true := by simp [h0]
        have e : Hid (orl xs = v) := Lib.hid (by rw [orl_at h1.out (by rw [HL.out]; exact hlt) (by rw [HV.out]; exact h0), HV.out])
        go_wp2
        go_ret
        exact ⟨by rw [e.out]; rfl, rfl⟩
    · obtain rfl : k = n := by omega
      have e : Hid (orl xs = 0) := Lib.hid (orl_none (by rw [HL.out]; exact h1.out))
      go_wp2
      go_ret
      exact ⟨by rw [e.out]; rfl, rfl⟩
end Go.Proofs.Ytlbpgaoindkgbaa.Me
