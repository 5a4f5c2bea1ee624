/- The walk of ClockLeast. -/
import Derived.Test.YtncppgmmcfippaaClockF
namespace Go.Proofs.Ytncppgmmcfippaa.Clk
open Go.RowKit
set_option linter.unusedVariables false

/-- at this real time a clock may show v, and another one less than n -/
def LateAt (n v r : Int) : Prop := 0 ≤ r ∧ lo (tt r) ≤ v ∧ v ≤ hi (tt r) ∧ lo (tt r) < n
def SoonAt (n v r : Int) : Prop := 0 ≤ r ∧ lo (tt r) ≤ v ∧ v ≤ hi (tt r) ∧ n < hi (tt r)

theorem late_is (n : Int) (h0 : 0 < n) (h1 : n ≤ 1099511627776) : ∃ d : Int, -5 ≤ d ∧ d ≤ 5 ∧ LateAt n (wt n - 1) (wt n - 1 - (wt n - 1) / 1001 + d) := by
  have a := wt_pos n h0 h1
  have b := wt_bd n (by omega) h1
  have c := sh_bd (wt n - 1)
  have l : ¬ n ≤ lo (sh (wt n - 1)) := of_decide_eq_false ((wt_least n (by omega) h1).2.2.1 (wt n - 1) (by omega) (by omega))
  have t : tt (sh (wt n - 1)) = sh (wt n - 1) := by unfold tt; omega
  refine ⟨sh (wt n - 1) - (wt n - 1 - (wt n - 1) / 1001), ?_, ?_, ?_⟩
  · unfold sh; split <;> omega
  · unfold sh; split <;> omega
  · rw [show wt n - 1 - (wt n - 1) / 1001 + (sh (wt n - 1) - (wt n - 1 - (wt n - 1) / 1001)) = sh (wt n - 1) by omega]
    have g : wt n - 1 ≤ hi (sh (wt n - 1)) := by
      generalize wt n = m at *
      unfold hi sh; split <;> omega
    have k : lo (sh (wt n - 1)) ≤ wt n - 1 := by omega
    exact ⟨c.1, by rw [t]; omega, by rw [t]; omega, by rw [t]; omega⟩

theorem soon_is (n : Int) (h0 : 0 ≤ n) (h1 : n ≤ 1099511627776) : ∃ d : Int, -5 ≤ d ∧ d ≤ 5 ∧ SoonAt n (us n + 1) (us n + 1 + (us n + 1) / 999 + d) := by
  have a := us_bd n h0 h1
  have c := lg_bd (us n + 1) (by omega)
  have l : n < hi (lg (us n + 1)) := by
    have := (us_least n h0 h1).2.2.2 (by omega)
    simpa using this
  have t : tt (lg (us n + 1)) = lg (us n + 1) := by unfold tt; omega
  refine ⟨lg (us n + 1) - (us n + 1 + (us n + 1) / 999), ?_, ?_, ?_⟩
  · unfold lg; omega
  · unfold lg; omega
  · rw [show us n + 1 + (us n + 1) / 999 + (lg (us n + 1) - (us n + 1 + (us n + 1) / 999)) = lg (us n + 1) by omega]
    have k : lo (lg (us n + 1)) ≤ us n + 1 := by
      generalize us n = m at *
      unfold lo lg; omega
    have g : us n + 1 ≤ hi (lg (us n + 1)) := by
      generalize us n = m at *
      unfold hi lg; omega
    exact ⟨c.1, by rw [t]; omega, by rw [t]; omega, by rw [t]; omega⟩

/-- what the loop holds of its two bools -/
def Seen (P : Int → Prop) (b : Value) (d : Int) : Prop := ∃ x : Bool, b = .bool x ∧ ∀ z, -5 ≤ z → z < d → P z → x = true
theorem Seen.start (P : Int → Prop) (x : Bool) : Seen P (.bool x) (-5) := ⟨x, rfl, fun z h k => by omega⟩
theorem Seen.hit {P : Int → Prop} {d : Int} : Seen P (.bool true) d := ⟨true, rfl, fun _ _ _ _ => rfl⟩
theorem Seen.miss {P : Int → Prop} {x : Bool} {d : Int} (h : ∀ z, -5 ≤ z → z < d → P z → x = true) (n : ¬ P d) : Seen P (.bool x) (d + 1) :=
  ⟨x, rfl, fun z h1 h2 hp => by
    by_cases e : z = d
    · subst e; exact absurd hp n
    · exact h z h1 (by omega) hp⟩

set_option maxHeartbeats 4000000 in
theorem least_zero {x : Int} {w : World} (x0 : 0 ≤ x) (x1 : x < 18446744073709551616) (hz : tm x = 0) :
    Calls Try.prog 6 #[.int .u64 x] w fun e w' => e = .returned (.bool true) ∧ Ext w w' := by
  have a := tm_bd x
  obtain ⟨a0, a1⟩ := a
  have b1 := wt_bd _ a0 a1
  have b2 := us_bd _ a0 a1
  obtain ⟨b10, b11⟩ := b1
  obtain ⟨b20, b21⟩ := b2
  have z1 : (tm x == 0) = true := by rw [hz]; rfl
  have ZW : Hid (wt (tm x) = 0) := by rw [hz]; exact Lib.hid (by decide)
  have ZU : Hid (us (tm x) = -1) := by rw [hz]; exact Lib.hid (by decide)
  have HZ := Lib.hid hz
  clear hz
  have hx := Ext.refl w
  go_enter Try.func6, Try.ntmps6
  go_wp2_with (first | (go_at_call 9; refine (head_any _).mono ?_; rintro e w1 ⟨rfl, hx1⟩; replace hx := Ext.trans hx hx1; clear hx1) | (go_at_call 20; refine (time_any _ _ (by assumption) (by assumption)).mono ?_; rintro e w' ⟨rfl, rfl⟩) | (go_at_call 10; refine (least0_any _ _).mono ?_; rintro e w' ⟨rfl, rfl⟩) | (go_at_call 12; refine (most0_any _ _).mono ?_; rintro e w' ⟨rfl, rfl⟩) | (go_at_call 21; refine (between_any _ _ _ _ (by assumption) (by assumption) (by omega) (by omega) (by omega) (by omega)).mono ?_; rintro e w' ⟨rfl, rfl⟩) | (go_at_call 14; refine (wait_t _ _ (by assumption) (by assumption)).mono ?_; rintro e w2 ⟨rfl, hx2⟩; rw [ZW.out]; replace hx := Ext.trans hx hx2; clear hx2) | (go_at_call 16; refine (use_t _ _ (by assumption) (by assumption)).mono ?_; rintro e w3 ⟨rfl, hx3⟩; rw [ZU.out]; replace hx := Ext.trans hx hx3; clear hx3))
  go_loopw [7, 8, 9, 10, 11] (fun p q t _ _ wr => ∃ d : Int, t = .int .i64 d ∧ -5 ≤ d ∧ d ≤ 6 ∧ Seen (fun d => LateAt (tm x) (-1) (-1 + d)) p d ∧ Seen (fun d => SoonAt (tm x) 0 d) q d ∧ Ext w wr) (fun _ _ t _ _ _ => (6 - intOf t).toNat)
  case atStart => exact ⟨-5, rfl, by omega, by omega, Seen.start _ _, Seen.start _ _, hx⟩
  case round =>
    obtain ⟨d, rfl, d0, d1, ⟨p, rfl, hp⟩, ⟨q, rfl, hq⟩, hw⟩ := hrel
    have HP := Lib.hid hp
    have HQ := Lib.hid hq
    clear hp hq
    by_cases hlt : d ≤ 5
    · go_wp2_with (first | (go_at_call 10; refine (least0_any _ _).mono ?_; rintro e w' ⟨rfl, rfl⟩) | (go_at_call 12; refine (most0_any _ _).mono ?_; rintro e w' ⟨rfl, rfl⟩))
      all_goals
        go_roundw
        case rel => exact ⟨d + 1, rfl, by omega, by omega, by first | exact Seen.hit | exact Seen.miss HP.out (fun h => by obtain ⟨k1, k2, k3, k4⟩ := h; omega), by first | exact Seen.hit | exact Seen.miss HQ.out (fun h => by obtain ⟨k1, k2, k3, k4⟩ := h; omega), hw⟩
        case measure => simp [intOf]; omega
    · have hd : d = 6 := by omega
      have eq : q = true := by
        obtain ⟨z, h1, h2, h3⟩ := soon_is _ a0 a1
        rw [ZU.out] at h3
        exact HQ.out z h1 (by omega) (by simpa using h3)
      subst eq
      clear hd
      go_wp2
      go_ret
      exact ⟨rfl, hw⟩

set_option maxHeartbeats 4000000 in
theorem least_pos {x : Int} {w : World} (x0 : 0 ≤ x) (x1 : x < 18446744073709551616) (hz : tm x ≠ 0) :
    Calls Try.prog 6 #[.int .u64 x] w fun e w' => e = .returned (.bool true) ∧ Ext w w' := by
  have a := tm_bd x
  obtain ⟨a0, a1⟩ := a
  have b1 := wt_bd _ a0 a1
  have b2 := us_bd _ a0 a1
  obtain ⟨b10, b11⟩ := b1
  obtain ⟨b20, b21⟩ := b2
  have z1 : (tm x == 0) = false := by simpa using hz
  have z2 : 0 < tm x := by omega
  have z5 := wt_pos _ z2 a1
  have HZ := Lib.hid hz
  clear hz
  have hx := Ext.refl w
  go_enter Try.func6, Try.ntmps6
  go_wp2_with (first | (go_at_call 9; refine (head_any _).mono ?_; rintro e w1 ⟨rfl, hx1⟩; replace hx := Ext.trans hx hx1; clear hx1) | (go_at_call 20; refine (time_any _ _ (by assumption) (by assumption)).mono ?_; rintro e w' ⟨rfl, rfl⟩) | (go_at_call 10; refine (least0_any _ _).mono ?_; rintro e w' ⟨rfl, rfl⟩) | (go_at_call 12; refine (most0_any _ _).mono ?_; rintro e w' ⟨rfl, rfl⟩) | (go_at_call 21; refine (between_any _ _ _ _ (by assumption) (by assumption) (by omega) (by omega) (by omega) (by omega)).mono ?_; rintro e w' ⟨rfl, rfl⟩) | (go_at_call 14; refine (wait_t _ _ (by assumption) (by assumption)).mono ?_; rintro e w2 ⟨rfl, hx2⟩; replace hx := Ext.trans hx hx2; clear hx2) | (go_at_call 16; refine (use_t _ _ (by assumption) (by assumption)).mono ?_; rintro e w3 ⟨rfl, hx3⟩; replace hx := Ext.trans hx hx3; clear hx3))
  go_loopw [7, 8, 9, 10, 11] (fun p q t _ _ wr => ∃ d : Int, t = .int .i64 d ∧ -5 ≤ d ∧ d ≤ 6 ∧ Seen (fun d => LateAt (tm x) (wt (tm x) - 1) ((wt (tm x) - 1) - (wt (tm x) - 1) / 1001 + d)) p d ∧ Seen (fun d => SoonAt (tm x) (us (tm x) + 1) ((us (tm x) + 1) + (us (tm x) + 1) / 999 + d)) q d ∧ Ext w wr) (fun _ _ t _ _ _ => (6 - intOf t).toNat)
  case atStart => exact ⟨-5, rfl, by omega, by omega, Seen.start _ _, Seen.start _ _, hx⟩
  case round =>
    obtain ⟨d, rfl, d0, d1, ⟨p, rfl, hp⟩, ⟨q, rfl, hq⟩, hw⟩ := hrel
    have HP := Lib.hid hp
    have HQ := Lib.hid hq
    clear hp hq
    by_cases hlt : d ≤ 5
    · go_wp2_with (first | (go_at_call 10; refine (least0_any _ _).mono ?_; rintro e w' ⟨rfl, rfl⟩) | (go_at_call 12; refine (most0_any _ _).mono ?_; rintro e w' ⟨rfl, rfl⟩))
      all_goals
        go_roundw
        case rel => exact ⟨d + 1, rfl, by omega, by omega, by first | exact Seen.hit | exact Seen.miss HP.out (fun h => by obtain ⟨k1, k2, k3, k4⟩ := h; omega), by first | exact Seen.hit | exact Seen.miss HQ.out (fun h => by obtain ⟨k1, k2, k3, k4⟩ := h; omega), hw⟩
        case measure => simp [intOf]; omega
    · have hd : d = 6 := by omega
      have ep : p = true := by
        obtain ⟨z, h1, h2, h3⟩ := late_is _ z2 a1
        exact HP.out z h1 (by omega) h3
      subst ep
      have eq : q = true := by
        obtain ⟨z, h1, h2, h3⟩ := soon_is _ a0 a1
        exact HQ.out z h1 (by omega) h3
      subst eq
      clear hd
      go_wp2
      go_ret
      exact ⟨rfl, hw⟩

theorem least_walk {x : Int} {w : World} (hx : (Lit.int .u64 x).wf = true) :
    Calls Try.prog 6 #[.int .u64 x] w fun e w' => e = .returned (.bool true) ∧ Ext w w' := by
  obtain ⟨x0, x1⟩ := bd_u64 hx
  by_cases hz : tm x = 0
  · exact least_zero x0 x1 hz
  · exact least_pos x0 x1 hz
end Go.Proofs.Ytncppgmmcfippaa.Clk
