/- Contracts of clock's plain functions. -/
import Derived.Test.YtocnopgpdlfkjaaBase
namespace Go.Proofs.Ytocnopgpdlfkjaa.Clk
open Go.RowKit
set_option linter.unusedVariables false

def tt (n : Int) : Int := min (max n 0) 2199023255552
def aa (n : Int) : Int := min (max n 0) 1099511627776
def lo (s : Int) : Int := s * 999 / 1000
def hi (s : Int) : Int := (s * 1001 + 999) / 1000


set_option maxHeartbeats 400000 in
theorem within_any (n : Int) (w : World) :
    Calls Try.prog 63 #[.int .i64 n] w fun e w' => e = .returned (.int .i64 (tt n)) ∧ w = w' := by
  go_enter Try.func63, Try.ntmps63
  go_wp2
  all_goals (go_ret; exact ⟨ret_int (by simp only [tt]; omega), rfl⟩)

set_option maxHeartbeats 400000 in
theorem asked_any (n : Int) (w : World) :
    Calls Try.prog 43 #[.int .i64 n] w fun e w' => e = .returned (.int .i64 (aa n)) ∧ w = w' := by
  go_enter Try.func43, Try.ntmps43
  go_wp2
  all_goals (go_ret; exact ⟨ret_int (by simp only [aa]; omega), rfl⟩)

set_option maxHeartbeats 400000 in
theorem low_any (n : Int) (w : World) (h0 : 0 ≤ n) (h1 : n ≤ 2199023255552) :
    Calls Try.prog 47 #[.int .i64 n] w fun e w' => e = .returned (.int .i64 (lo n)) ∧ w = w' := by
  go_enter Try.func47, Try.ntmps47
  go_wp2
  go_ret
  exact ⟨rfl, rfl⟩

set_option maxHeartbeats 400000 in
theorem high_any (n : Int) (w : World) (h0 : 0 ≤ n) (h1 : n ≤ 2199023255552) :
    Calls Try.prog 64 #[.int .i64 n] w fun e w' => e = .returned (.int .i64 (hi n)) ∧ w = w' := by
  go_enter Try.func64, Try.ntmps64
  go_wp2
  go_ret
  exact ⟨ret_int (by simp only [hi]; omega), rfl⟩

set_option maxHeartbeats 400000 in
theorem reached_any (r n : Int) (w : World) (h0 : 0 ≤ n) (h1 : n ≤ 2199023255552) :
    Calls Try.prog 62 #[.int .i64 r, .int .i64 n] w fun e w' => e = .returned (.bool (decide (r ≤ hi n))) ∧ w = w' := by
  go_enter Try.func62, Try.ntmps62
  go_wp2_with (go_at_call 64; refine (high_any _ _ h0 h1).mono ?_; rintro e w' ⟨rfl, rfl⟩)
  go_ret
  exact ⟨rfl, rfl⟩

/-- what 'least' finds -/
def LeastOf (p : Int → Bool) (a b r : Int) : Prop := a ≤ r ∧ r ≤ b ∧ (∀ x, a ≤ x → x < r → p x = false) ∧ (r < b → p r = true)

set_option maxHeartbeats 400000 in
theorem leastS_any (p : Int → Bool) (a b : Int) (fid : Nat) (first caps : Array Value) (R : World → World → Prop) (hr : ∀ a, R a a) (ht : ∀ a b c, R a b → R b c → R a c) (w : World) (ha : -1 ≤ a) (hab : a ≤ b) (hb : b ≤ 4398046511104)
    (hm : ∀ x y, x ≤ y → p x = true → p y = true) (eg : ∀ args w, (callFunc fid args).run Try.prog w = .ok (.enter fid args) w)
    (hF : ∀ x wr, a ≤ x → x < b → R w wr → Calls Try.prog fid (first.push (.int .i64 x) ++ caps) wr fun e w' => e = .returned (.bool (p x)) ∧ R wr w') :
    Calls Try.prog 61 #[.int .i64 a, .int .i64 b, .func (.func fid) first caps] w fun e w' => ∃ r, LeastOf p a b r ∧ e = .returned (.int .i64 r) ∧ R w w' := by
  have HM := Lib.hid hm
  have HF := Lib.hid hF
  clear hm hF
  have HR := Lib.hid hr
  have HT := Lib.hid ht
  clear hr ht
  go_enter Try.func61, Try.ntmps61
  go_wp2
  go_loopw [0, 1, 7] (fun s t _ wr => ∃ x y : Int, s = .int .i64 x ∧ t = .int .i64 y ∧ a ≤ x ∧ x ≤ y ∧ y ≤ b ∧ Hid (∀ z, a ≤ z → z < x → p z = false) ∧ Hid (y < b → p y = true) ∧ R w wr) (fun s t _ _ => (intOf t - intOf s).toNat)
  case atStart => exact ⟨a, b, rfl, rfl, by omega, by omega, by omega, Lib.hid (by intro z; omega), Lib.hid (by omega), HR.out _⟩
  case round =>
    obtain ⟨x, y, rfl, rfl, h1, h2, h3, H4, H5, hbw⟩ := hrel
    by_cases hlt : x < y
    · go_wp2_with fail
      refine (HF.out _ wr (by omega) (by omega) hbw).mono ?_
      rintro e w' ⟨rfl, hb'⟩
      cases hp : p (x + (y - x) / 2)
      · have HP := Lib.hid hp
        clear hp
        go_wp2
        go_roundw
        case rel => exact ⟨_, _, rfl, rfl, by omega, by omega, by omega, Lib.hid (fun z hz hz' => by
          cases hpz : p z
          · rfl
          · exact absurd (HM.out z (x + (y - x) / 2) (by omega) hpz) (by rw [HP.out]; simp)), H5, HT.out _ _ _ hbw hb'⟩
        case measure => simp [intOf]; omega
      · have HP := Lib.hid hp
        clear hp
        go_wp2
        go_roundw
        case rel => exact ⟨_, _, rfl, rfl, by omega, by omega, by omega, H4, Lib.hid (fun _ => HP.out), HT.out _ _ _ hbw hb'⟩
        case measure => simp [intOf]; omega
    · go_wp2
      go_ret
      exact ⟨_, ⟨h1, by omega, H4.out, fun h => by rw [show x = y by omega]; exact H5.out (by omega)⟩, rfl, hbw⟩

set_option maxHeartbeats 400000 in
theorem leastR_any (p : Int → Bool) (a b : Int) (fid : Nat) (first caps : Array Value) (R : World → World → Prop) (hr : ∀ a, R a a) (ht : ∀ a b c, R a b → R b c → R a c) (w : World) (ha : -1 ≤ a) (hab : a ≤ b) (hb : b ≤ 4398046511104)
    (hm : ∀ x y, x ≤ y → p x = true → p y = true) (eg : ∀ args w, (callFunc fid args).run Try.prog w = .ok (.enter fid args) w)
    (hF : ∀ x wr, a ≤ x → x < b → R w wr → Calls Try.prog fid (first.push (.int .i64 x) ++ caps) wr fun e w' => e = .returned (.bool (p x)) ∧ R wr w') :
    Calls Try.prog 44 #[.int .i64 a, .int .i64 b, .func (.func fid) first caps] w fun e w' => ∃ r, LeastOf p a b r ∧ e = .returned (.int .i64 r) ∧ R w w' := by
  have HM := Lib.hid hm
  have HF := Lib.hid hF
  clear hm hF
  have HR := Lib.hid hr
  have HT := Lib.hid ht
  clear hr ht
  go_enter Try.func44, Try.ntmps44
  go_wp2
  go_loopw [0, 1, 7] (fun s t _ wr => ∃ x y : Int, s = .int .i64 x ∧ t = .int .i64 y ∧ a ≤ x ∧ x ≤ y ∧ y ≤ b ∧ Hid (∀ z, a ≤ z → z < x → p z = false) ∧ Hid (y < b → p y = true) ∧ R w wr) (fun s t _ _ => (intOf t - intOf s).toNat)
  case atStart => exact ⟨a, b, rfl, rfl, by omega, by omega, by omega, Lib.hid (by intro z; omega), Lib.hid (by omega), HR.out _⟩
  case round =>
    obtain ⟨x, y, rfl, rfl, h1, h2, h3, H4, H5, hbw⟩ := hrel
    by_cases hlt : x < y
    · go_wp2_with fail
      refine (HF.out _ wr (by omega) (by omega) hbw).mono ?_
      rintro e w' ⟨rfl, hb'⟩
      cases hp : p (x + (y - x) / 2)
      · have HP := Lib.hid hp
        clear hp
        go_wp2
        go_roundw
        case rel => exact ⟨_, _, rfl, rfl, by omega, by omega, by omega, Lib.hid (fun z hz hz' => by
          cases hpz : p z
          · rfl
          · exact absurd (HM.out z (x + (y - x) / 2) (by omega) hpz) (by rw [HP.out]; simp)), H5, HT.out _ _ _ hbw hb'⟩
        case measure => simp [intOf]; omega
      · have HP := Lib.hid hp
        clear hp
        go_wp2
        go_roundw
        case rel => exact ⟨_, _, rfl, rfl, by omega, by omega, by omega, H4, Lib.hid (fun _ => HP.out), HT.out _ _ _ hbw hb'⟩
        case measure => simp [intOf]; omega
    · go_wp2
      go_ret
      exact ⟨_, ⟨h1, by omega, H4.out, fun h => by rw [show x = y by omega]; exact H5.out (by omega)⟩, rfl, hbw⟩

theorem LeastOf.same {p : Int → Bool} {a b r s : Int} (h : LeastOf p a b r) (k : LeastOf p a b s) : r = s := by
  obtain ⟨h1, h2, h3, h4⟩ := h
  obtain ⟨k1, k2, k3, k4⟩ := k
  by_cases c : r < s
  · have := k3 r h1 c; rw [h4 (by omega)] at this; cases this
  · by_cases d : s < r
    · have := h3 s k1 d; rw [k4 (by omega)] at this; cases this
    · omega

def sh (r : Int) : Int := if r ≤ 0 then 0 else min 2199023255552 (1000 * (r - 1) / 1001 + 1)
def lg (r : Int) : Int := min 2199023255552 ((1000 * (r + 1) - 1) / 999)

theorem sh_least (r : Int) : LeastOf (fun s => decide (r ≤ hi s)) 0 2199023255552 (sh r) := by
  refine ⟨by unfold sh; split <;> omega, by unfold sh; split <;> omega, fun x h0 h1 => decide_eq_false ?_, fun h => decide_eq_true ?_⟩
  · unfold hi; unfold sh at h1; split at h1 <;> omega
  · unfold hi; unfold sh at h ⊢; split at h <;> omega

theorem lg_least (r : Int) (h : 0 ≤ r) : LeastOf (fun s => !decide (lo s ≤ r)) 0 2199023255553 (lg r + 1) := by
  refine ⟨by unfold lg; omega, by unfold lg; omega, fun x h0 h1 => ?_, fun h => ?_⟩
  · have : lo x ≤ r := by unfold lo; unfold lg at h1; omega
    simp [this]
  · have : ¬ lo (lg r + 1) ≤ r := by unfold lo; unfold lg at h ⊢; omega
    simp [this]

theorem enter62 : ∀ args w, (callFunc 62 args).run Try.prog w = .ok (.enter 62 args) w := enters_of Try.func62 (by kernel_rfl) rfl

set_option maxHeartbeats 400000 in
theorem shortest_any (r : Int) (w : World) :
    Calls Try.prog 46 #[.int .i64 r] w fun e w' => e = .returned (.int .i64 (sh r)) ∧ w = w' := by
  have hmf := makeFunc_run
  go_enter Try.func46, Try.ntmps46
  go_wp2_with fail
  refine (leastS_any (fun s => decide (r ≤ hi s)) 0 2199023255552 62 #[.int .i64 r] #[] Eq (fun _ => rfl) (fun _ _ _ h k => h.trans k) w (by omega) (by omega) (by omega) ?_ enter62 ?_).mono ?_
  · intro x y h k; have k := of_decide_eq_true k; refine decide_eq_true ?_; unfold hi at k ⊢; omega
  · rintro x wr h0 h1 rfl
    exact reached_any r x _ h0 (by omega)
  · rintro e w' ⟨s, hs, rfl, rfl⟩
    obtain rfl := hs.same (sh_least r)
    clear hs
    go_wp2
    go_ret
    exact ⟨rfl, rfl⟩
end Go.Proofs.Ytocnopgpdlfkjaa.Clk
