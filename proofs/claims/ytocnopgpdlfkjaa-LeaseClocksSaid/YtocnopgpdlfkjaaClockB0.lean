/- Contracts of clock's searches: greatest, longest, Wait, Use. -/
import Derived.Test.YtocnopgpdlfkjaaClockA0
import Derived.Deep.RegionWith
namespace Go.Proofs.Ytocnopgpdlfkjaa.Clk
open Go.RowKit
set_option linter.unusedVariables false

theorem sh_bd (r : Int) : 0 ≤ sh r ∧ sh r ≤ 2199023255552 := by unfold sh; split <;> omega
theorem lg_bd (r : Int) (h : 0 ≤ r) : 0 ≤ lg r ∧ lg r ≤ 2199023255552 := by unfold lg; omega

set_option maxHeartbeats 400000 in
theorem waitC_any (r n : Int) (c : Addr) (w : World) (hc : w.cell? c = some (.int .i64 n)) :
    Calls Try.prog 45 #[.int .i64 r, .pointer (some c)] w fun e w' => e = .returned (.bool (decide (n ≤ lo (sh r)))) ∧ Ext w w' := by
  have hb := sh_bd r
  go_enter Try.func45, Try.ntmps45
  go_wp2
  go_region_with (first | (go_at_call 46; refine (shortest_any _ _).mono ?_; rintro e w' ⟨rfl, rfl⟩) | (go_at_call 47; refine (low_any _ _ hb.1 hb.2).mono ?_; rintro e w' ⟨rfl, rfl⟩))
  all_goals (go_wp2; go_ret; exact ⟨rfl, Ext.drew (Ext.refl _)⟩)

/-- how much of one's own is waited, and used: closed forms -/
def wt (n : Int) : Int := if n ≤ 0 then 0 else (1001 * ((1000 * n + 998) / 999 - 1) + 999) / 1000 + 1
def us (n : Int) : Int := 999 * (1000 * n / 1001 + 1) / 1000 - 1

theorem wt_least (n : Int) (h0 : 0 ≤ n) (h1 : n ≤ 1099511627776) : LeastOf (fun r => decide (n ≤ lo (sh r))) 0 4398046511104 (wt n) := by
  refine ⟨by unfold wt; split <;> omega, by unfold wt; split <;> omega, fun x h2 h3 => decide_eq_false ?_, fun h => decide_eq_true ?_⟩
  · have h4 : sh x < (1000 * n + 998) / 999 := by unfold sh; unfold wt at h3; split at h3 <;> split <;> omega
    unfold lo; omega
  · have h4 : (1000 * n + 998) / 999 ≤ sh (wt n) := by unfold sh; unfold wt at h ⊢; split at h <;> split <;> omega
    unfold lo; omega

theorem us_least (n : Int) (h0 : 0 ≤ n) (h1 : n ≤ 1099511627776) : LeastOf (fun r => !decide (hi (lg r) ≤ n)) 0 2199023255553 (us n + 1) := by
  refine ⟨by unfold us; omega, by unfold us; omega, fun x h2 h3 => ?_, fun h => ?_⟩
  · have h4 : lg x ≤ 1000 * n / 1001 := by unfold lg; unfold us at h3; omega
    have : hi (lg x) ≤ n := by unfold hi; omega
    simp [this]
  · have h4 : 1000 * n / 1001 < lg (us n + 1) := by unfold lg; unfold us at h ⊢; omega
    have : ¬ hi (lg (us n + 1)) ≤ n := by unfold hi; omega
    simp [this]

theorem aa_bd (n : Int) : 0 ≤ aa n ∧ aa n ≤ 1099511627776 := by unfold aa; omega
theorem enter45 : ∀ args w, (callFunc 45 args).run Try.prog w = .ok (.enter 45 args) w := enters_of Try.func45 (by kernel_rfl) rfl
set_option maxHeartbeats 400000 in
theorem wait_any (n : Int) (w : World) :
    Calls Try.prog 24 #[.int .i64 n] w fun e w' => e = .returned (.int .i64 (wt (aa n))) ∧ Ext w w' := by
  have hmf := makeFunc_run
  have hb := aa_bd n
  go_enter Try.func24, Try.ntmps24
  go_wp2_with (go_at_call 43; refine (asked_any _ _).mono ?_; rintro e w' ⟨rfl, rfl⟩)
  refine (leastR_any (fun r => decide (aa n ≤ lo (sh r))) 0 4398046511104 45 #[] #[.pointer (some ⟨w.heap.size, 0, none⟩)] Ext Ext.refl (fun _ _ _ => Ext.trans) _ (by omega) (by omega) (by omega) ?_ enter45 ?_).mono ?_
  · intro x y h k; have k := of_decide_eq_true k; refine decide_eq_true ?_
    have h1 : sh x ≤ sh y := by unfold sh; split <;> split <;> omega
    unfold lo at k ⊢; omega
  · intro x wr h0 h1 hx
    exact waitC_any x (aa n) ⟨w.heap.size, 0, none⟩ wr (hx.cell (new_cell _ _ _))
  · rintro e w' ⟨s, hs, rfl, hx⟩
    obtain rfl : s = wt (aa n) := hs.same (wt_least _ hb.1 hb.2)
    clear hs
    go_wp2
    go_ret
    exact ⟨rfl, (Ext.alloc _ _).trans hx⟩

theorem tt_bd (n : Int) : 0 ≤ tt n ∧ tt n ≤ 2199023255552 := by unfold tt; omega
set_option maxHeartbeats 400000 in
theorem least0_any (n : Int) (w : World) :
    Calls Try.prog 49 #[.int .i64 n] w fun e w' => e = .returned (.int .i64 (lo (tt n))) ∧ w = w' := by
  have hb := tt_bd n
  go_enter Try.func49, Try.ntmps49
  go_wp2_with (first | (go_at_call 63; refine (within_any _ _).mono ?_; rintro e w' ⟨rfl, rfl⟩) | (go_at_call 47; refine (low_any _ _ hb.1 hb.2).mono ?_; rintro e w' ⟨rfl, rfl⟩))
  go_ret
  exact ⟨rfl, rfl⟩
set_option maxHeartbeats 400000 in
theorem most0_any (n : Int) (w : World) :
    Calls Try.prog 50 #[.int .i64 n] w fun e w' => e = .returned (.int .i64 (hi (tt n))) ∧ w = w' := by
  have hb := tt_bd n
  go_enter Try.func50, Try.ntmps50
  go_wp2_with (first | (go_at_call 63; refine (within_any _ _).mono ?_; rintro e w' ⟨rfl, rfl⟩) | (go_at_call 64; refine (high_any _ _ hb.1 hb.2).mono ?_; rintro e w' ⟨rfl, rfl⟩))
  go_ret
  exact ⟨rfl, rfl⟩
end Go.Proofs.Ytocnopgpdlfkjaa.Clk
