/- Contracts of clock's searches: greatest, longest, Wait, Use. -/
import Derived.Test.YtncppgmmcfippaaClockA
import Derived.Deep.RegionWith
namespace Go.Proofs.Ytncppgmmcfippaa.Clk
open Go.RowKit
set_option linter.unusedVariables false

set_option maxHeartbeats 400000 in
theorem turnS_any (p : Int → Bool) (x : Int) (c : Addr) (fid : Nat) (first caps : Array Value) (w : World)
    (eg : ∀ args w, (callFunc fid args).run Try.prog w = .ok (.enter fid args) w)
    (hc : w.cell? c = some (.func (.func fid) first caps))
    (hF : Calls Try.prog fid (first.push (.int .i64 x) ++ caps) w fun e w' => e = .returned (.bool (p x)) ∧ Ext w w') :
    Calls Try.prog 41 #[.int .i64 x, .pointer (some c)] w fun e w' => e = .returned (.bool (!p x)) ∧ Ext w w' := by
  have HF := Lib.hid hF
  clear hF
  go_enter Try.func41, Try.ntmps41
  go_wp2_with fail
  refine HF.out.mono ?_
  rintro e w' ⟨rfl, hb'⟩
  go_wp2
  go_ret
  exact ⟨rfl, hb'⟩

theorem enter41 : ∀ args w, (callFunc 41 args).run Try.prog w = .ok (.enter 41 args) w := enters_of Try.func41 (by kernel_rfl) rfl

set_option maxHeartbeats 400000 in
theorem greatestS_any (p : Int → Bool) (a b : Int) (fid : Nat) (first caps : Array Value) (w : World) (ha : 0 ≤ a) (hab : a ≤ b) (hb : b ≤ 4398046511103)
    (hm : ∀ x y, x ≤ y → p y = true → p x = true) (eg : ∀ args w, (callFunc fid args).run Try.prog w = .ok (.enter fid args) w)
    (hF : ∀ x wr, a ≤ x → x ≤ b → Ext w wr → Calls Try.prog fid (first.push (.int .i64 x) ++ caps) wr fun e w' => e = .returned (.bool (p x)) ∧ Ext wr w') :
    Calls Try.prog 39 #[.int .i64 a, .int .i64 b, .func (.func fid) first caps] w fun e w' => ∃ r, LeastOf (fun x => !p x) a (b + 1) (r + 1) ∧ e = .returned (.int .i64 r) ∧ Ext w w' := by
  have HF := Lib.hid hF
  have HM := Lib.hid hm
  have HE := Lib.hid eg
  clear hF hm eg
  have hmf := makeFunc_run
  go_enter Try.func39, Try.ntmps39
  go_wp2_with fail
  refine (leastS_any (fun x => !p x) a (b + 1) 41 #[] #[.pointer (some ⟨w.heap.size, 0, none⟩)] Ext Ext.refl (fun _ _ _ => Ext.trans) _ (by omega) (by omega) (by omega) ?_ enter41 ?_).mono ?_
  · intro x y h k
    cases hy : p y
    · rfl
    · have hx : (!p x) = true := k
      rw [HM.out x y h hy] at hx; cases hx
  · intro x wr h0 h1 hx
    exact turnS_any p x ⟨w.heap.size, 0, none⟩ fid first caps wr HE.out (hx.cell (new_cell _ _ _)) (HF.out x wr h0 (by omega) ((Ext.alloc _ _).trans hx))
  · rintro e w' ⟨s, hs, rfl, hx⟩
    have hb1 : -1 ≤ s := by have := hs.1; omega
    have hb2 : s ≤ 4398046511104 := by have := hs.2.1; omega
    have HS := Lib.hid hs
    clear hs
    go_wp2
    go_ret
    exact ⟨s - 1, by have := HS.out; rwa [Int.sub_add_cancel], rfl, (Ext.alloc _ _).trans hx⟩

set_option maxHeartbeats 400000 in
theorem turnR_any (p : Int → Bool) (x : Int) (c : Addr) (fid : Nat) (first caps : Array Value) (w : World)
    (eg : ∀ args w, (callFunc fid args).run Try.prog w = .ok (.enter fid args) w)
    (hc : w.cell? c = some (.func (.func fid) first caps))
    (hF : Calls Try.prog fid (first.push (.int .i64 x) ++ caps) w fun e w' => e = .returned (.bool (p x)) ∧ Ext w w') :
    Calls Try.prog 38 #[.int .i64 x, .pointer (some c)] w fun e w' => e = .returned (.bool (!p x)) ∧ Ext w w' := by
  have HF := Lib.hid hF
  clear hF
  go_enter Try.func38, Try.ntmps38
  go_wp2_with fail
  refine HF.out.mono ?_
  rintro e w' ⟨rfl, hb'⟩
  go_wp2
  go_ret
  exact ⟨rfl, hb'⟩

theorem enter38 : ∀ args w, (callFunc 38 args).run Try.prog w = .ok (.enter 38 args) w := enters_of Try.func38 (by kernel_rfl) rfl

set_option maxHeartbeats 400000 in
theorem greatestR_any (p : Int → Bool) (a b : Int) (fid : Nat) (first caps : Array Value) (w : World) (ha : 0 ≤ a) (hab : a ≤ b) (hb : b ≤ 4398046511103)
    (hm : ∀ x y, x ≤ y → p y = true → p x = true) (eg : ∀ args w, (callFunc fid args).run Try.prog w = .ok (.enter fid args) w)
    (hF : ∀ x wr, a ≤ x → x ≤ b → Ext w wr → Calls Try.prog fid (first.push (.int .i64 x) ++ caps) wr fun e w' => e = .returned (.bool (p x)) ∧ Ext wr w') :
    Calls Try.prog 32 #[.int .i64 a, .int .i64 b, .func (.func fid) first caps] w fun e w' => ∃ r, LeastOf (fun x => !p x) a (b + 1) (r + 1) ∧ e = .returned (.int .i64 r) ∧ Ext w w' := by
  have HF := Lib.hid hF
  have HM := Lib.hid hm
  have HE := Lib.hid eg
  clear hF hm eg
  have hmf := makeFunc_run
  go_enter Try.func32, Try.ntmps32
  go_wp2_with fail
  refine (leastR_any (fun x => !p x) a (b + 1) 38 #[] #[.pointer (some ⟨w.heap.size, 0, none⟩)] Ext Ext.refl (fun _ _ _ => Ext.trans) _ (by omega) (by omega) (by omega) ?_ enter38 ?_).mono ?_
  · intro x y h k
    cases hy : p y
    · rfl
    · have hx : (!p x) = true := k
      rw [HM.out x y h hy] at hx; cases hx
  · intro x wr h0 h1 hx
    exact turnR_any p x ⟨w.heap.size, 0, none⟩ fid first caps wr HE.out (hx.cell (new_cell _ _ _)) (HF.out x wr h0 (by omega) ((Ext.alloc _ _).trans hx))
  · rintro e w' ⟨s, hs, rfl, hx⟩
    have hb1 : -1 ≤ s := by have := hs.1; omega
    have hb2 : s ≤ 4398046511104 := by have := hs.2.1; omega
    have HS := Lib.hid hs
    clear hs
    go_wp2
    go_ret
    exact ⟨s - 1, by have := HS.out; rwa [Int.sub_add_cancel], rfl, (Ext.alloc _ _).trans hx⟩

theorem enter40 : ∀ args w, (callFunc 40 args).run Try.prog w = .ok (.enter 40 args) w := enters_of Try.func40 (by kernel_rfl) rfl

set_option maxHeartbeats 400000 in
theorem longest_any (r : Int) (w : World) (h0 : 0 ≤ r) :
    Calls Try.prog 34 #[.int .i64 r] w fun e w' => e = .returned (.int .i64 (lg r)) ∧ Ext w w' := by
  have hmf := makeFunc_run
  go_enter Try.func34, Try.ntmps34
  go_wp2_with fail
  refine (greatestS_any (fun s => decide (lo s ≤ r)) 0 2199023255552 40 #[.int .i64 r] #[] w (by omega) (by omega) (by omega) ?_ enter40 ?_).mono ?_
  · intro x y h k; have k := of_decide_eq_true k; refine decide_eq_true ?_; unfold lo at k ⊢; omega
  · rintro x wr h0 h1 hx
    refine (passed_any r x wr h0 (by omega)).mono ?_
    rintro e w' ⟨rfl, rfl⟩
    exact ⟨rfl, Ext.refl _⟩
  · rintro e w' ⟨s, hs, rfl, hx⟩
    have hsl : s + 1 = lg r + 1 := hs.same (lg_least r h0)
    obtain rfl : s = lg r := by omega
    clear hs hsl
    go_wp2
    go_ret
    exact ⟨rfl, hx⟩

theorem sh_bd (r : Int) : 0 ≤ sh r ∧ sh r ≤ 2199023255552 := by unfold sh; split <;> omega
theorem lg_bd (r : Int) (h : 0 ≤ r) : 0 ≤ lg r ∧ lg r ≤ 2199023255552 := by unfold lg; omega

set_option maxHeartbeats 400000 in
theorem waitC_any (r n : Int) (c : Addr) (w : World) (hc : w.cell? c = some (.int .i64 n)) :
    Calls Try.prog 29 #[.int .i64 r, .pointer (some c)] w fun e w' => e = .returned (.bool (decide (n ≤ lo (sh r)))) ∧ Ext w w' := by
  have hb := sh_bd r
  go_enter Try.func29, Try.ntmps29
  go_wp2
  go_region_with (first | (go_at_call 30; refine (shortest_any _ _).mono ?_; rintro e w' ⟨rfl, rfl⟩) | (go_at_call 24; refine (low_any _ _ hb.1 hb.2).mono ?_; rintro e w' ⟨rfl, rfl⟩))
  all_goals (go_wp2; go_ret; exact ⟨rfl, Ext.drew (Ext.refl _)⟩)

set_option maxHeartbeats 400000 in
theorem useC_any (r n : Int) (c : Addr) (w : World) (h0 : 0 ≤ r) (hc : w.cell? c = some (.int .i64 n)) :
    Calls Try.prog 33 #[.int .i64 r, .pointer (some c)] w fun e w' => e = .returned (.bool (decide (hi (lg r) ≤ n))) ∧ Ext w w' := by
  have hb := lg_bd r h0
  go_enter Try.func33, Try.ntmps33
  go_wp2
  go_region_with (first | (go_at_call 34; refine (longest_any _ _ h0).mono ?_; rintro e w1 ⟨rfl, hx⟩; have hc1 := hx.cell (by exact hc)) | (go_at_call 26; refine (high_any _ _ hb.1 hb.2).mono ?_; rintro e w' ⟨rfl, rfl⟩))
  all_goals (go_wp2; go_ret; exact ⟨rfl, Ext.trans (Ext.drew (Ext.refl _)) (by assumption)⟩)

/-- how much of one's own is waited, and used: closed forms -/
def wt (n : Int) : Int := if n ≤ 0 then 0 else (1001 * ((1000 * n + 998) / 999 - 1) + 999) / 1000 + 1
def us (n : Int) : Int := 999 * (1000 * n / 1001 + 1) / 1000 - 1

theorem wt_least (n : Int) (h0 : 0 ≤ n) (h1 : n ≤ 1099511627776) : LeastOf (fun r => decide (n ≤ lo (sh r))) 0 4398046511104 (wt n) := by
  refine ⟨by unfold wt; split <;> omega, by unfold wt; split <;> omega, fun x h2 h3 => decide_eq_false ?_, fun h => decide_eq_true ?_⟩
  · have h4 : sh x < (1000 * n + 998) / 999 := by unfold sh; unfold wt at h3; split at h3 <;> split <;> omega
    unfold lo; omega
  · have h4 : (1000 * n + 998) / 999 ≤ sh (wt n) := by unfold sh; unfold wt at h ⊢; split at h <;> split <;> omega
    unfold lo; omega

theorem us_least (n : Int) (h0 : 0 ≤ n) (h1 : n ≤ 1099511627776) : LeastOf (fun r => !decide (hi (lg r) ≤ n)) 0 2199023255553 (us n + 1) := by
  refine ⟨by unfold us; omega, by unfold us; omega, fun x h2 h3 => ?_, fun h => ?_⟩
  · have h4 : lg x ≤ 1000 * n / 1001 := by unfold lg; unfold us at h3; omega
    have : hi (lg x) ≤ n := by unfold hi; omega
    simp [this]
  · have h4 : 1000 * n / 1001 < lg (us n + 1) := by unfold lg; unfold us at h ⊢; omega
    have : ¬ hi (lg (us n + 1)) ≤ n := by unfold hi; omega
    simp [this]

theorem aa_bd (n : Int) : 0 ≤ aa n ∧ aa n ≤ 1099511627776 := by unfold aa; omega
theorem enter29 : ∀ args w, (callFunc 29 args).run Try.prog w = .ok (.enter 29 args) w := enters_of Try.func29 (by kernel_rfl) rfl
theorem enter33 : ∀ args w, (callFunc 33 args).run Try.prog w = .ok (.enter 33 args) w := enters_of Try.func33 (by kernel_rfl) rfl

set_option maxHeartbeats 400000 in
theorem wait_any (n : Int) (w : World) :
    Calls Try.prog 14 #[.int .i64 n] w fun e w' => e = .returned (.int .i64 (wt (aa n))) ∧ Ext w w' := by
  have hmf := makeFunc_run
  have hb := aa_bd n
  go_enter Try.func14, Try.ntmps14
  go_wp2_with (go_at_call 27; refine (asked_any _ _).mono ?_; rintro e w' ⟨rfl, rfl⟩)
  refine (leastR_any (fun r => decide (aa n ≤ lo (sh r))) 0 4398046511104 29 #[] #[.pointer (some ⟨w.heap.size, 0, none⟩)] Ext Ext.refl (fun _ _ _ => Ext.trans) _ (by omega) (by omega) (by omega) ?_ enter29 ?_).mono ?_
  · intro x y h k; have k := of_decide_eq_true k; refine decide_eq_true ?_
    have h1 : sh x ≤ sh y := by unfold sh; split <;> split <;> omega
    unfold lo at k ⊢; omega
  · intro x wr h0 h1 hx
    exact waitC_any x (aa n) ⟨w.heap.size, 0, none⟩ wr (hx.cell (new_cell _ _ _))
  · rintro e w' ⟨s, hs, rfl, hx⟩
    obtain rfl : s = wt (aa n) := hs.same (wt_least _ hb.1 hb.2)
    clear hs
    go_wp2
    go_ret
    exact ⟨rfl, (Ext.alloc _ _).trans hx⟩

set_option maxHeartbeats 400000 in
theorem use_any (n : Int) (w : World) :
    Calls Try.prog 16 #[.int .i64 n] w fun e w' => e = .returned (.int .i64 (us (aa n))) ∧ Ext w w' := by
  have hmf := makeFunc_run
  have hb := aa_bd n
  go_enter Try.func16, Try.ntmps16
  go_wp2_with (go_at_call 27; refine (asked_any _ _).mono ?_; rintro e w' ⟨rfl, rfl⟩)
  refine (greatestR_any (fun r => decide (hi (lg r) ≤ aa n)) 0 2199023255552 33 #[] #[.pointer (some ⟨w.heap.size, 0, none⟩)] _ (by omega) (by omega) (by omega) ?_ enter33 ?_).mono ?_
  · intro x y h k; have k := of_decide_eq_true k; refine decide_eq_true ?_
    have h1 : lg x ≤ lg y := by unfold lg; omega
    unfold hi at k ⊢; omega
  · intro x wr h0 h1 hx
    exact useC_any x (aa n) ⟨w.heap.size, 0, none⟩ wr h0 (hx.cell (new_cell _ _ _))
  · rintro e w' ⟨s, hs, rfl, hx⟩
    have hsl : s + 1 = us (aa n) + 1 := hs.same (us_least _ hb.1 hb.2)
    obtain rfl : s = us (aa n) := by omega
    clear hs hsl
    go_wp2
    go_ret
    exact ⟨rfl, (Ext.alloc _ _).trans hx⟩

theorem tt_bd (n : Int) : 0 ≤ tt n ∧ tt n ≤ 2199023255552 := by unfold tt; omega
set_option maxHeartbeats 400000 in
theorem least0_any (n : Int) (w : World) :
    Calls Try.prog 10 #[.int .i64 n] w fun e w' => e = .returned (.int .i64 (lo (tt n))) ∧ w = w' := by
  have hb := tt_bd n
  go_enter Try.func10, Try.ntmps10
  go_wp2_with (first | (go_at_call 23; refine (within_any _ _).mono ?_; rintro e w' ⟨rfl, rfl⟩) | (go_at_call 24; refine (low_any _ _ hb.1 hb.2).mono ?_; rintro e w' ⟨rfl, rfl⟩))
  go_ret
  exact ⟨rfl, rfl⟩
set_option maxHeartbeats 400000 in
theorem most0_any (n : Int) (w : World) :
    Calls Try.prog 12 #[.int .i64 n] w fun e w' => e = .returned (.int .i64 (hi (tt n))) ∧ w = w' := by
  have hb := tt_bd n
  go_enter Try.func12, Try.ntmps12
  go_wp2_with (first | (go_at_call 23; refine (within_any _ _).mono ?_; rintro e w' ⟨rfl, rfl⟩) | (go_at_call 26; refine (high_any _ _ hb.1 hb.2).mono ?_; rintro e w' ⟨rfl, rfl⟩))
  go_ret
  exact ⟨rfl, rfl⟩
end Go.Proofs.Ytncppgmmcfippaa.Clk
