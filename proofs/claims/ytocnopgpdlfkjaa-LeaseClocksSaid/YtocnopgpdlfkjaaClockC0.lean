/- Contract of clock.Right. -/
import Derived.Test.YtocnopgpdlfkjaaClockB0
import Derived.Deep.RegionWith
import Derived.Deep.QuietTactic
import Derived.BigQuiet
namespace Go.Proofs.Ytocnopgpdlfkjaa.Clk
open Go.RowKit
set_option linter.unusedVariables false

/-- a reading is in range -/
def OkAt (xs ys : List Int) (i : Nat) : Prop := 0 ≤ at0 xs i ∧ at0 xs i ≤ 2199023255552 ∧ 0 ≤ at0 ys i ∧ at0 ys i ≤ 4398046511104
/-- two readings fit -/
def OkTo (xs ys : List Int) (i j : Nat) : Prop := at0 xs j ≤ at0 xs i ∧ lo (tt (at0 xs i - at0 xs j)) ≤ at0 ys i - at0 ys j ∧ at0 ys i - at0 ys j ≤ hi (tt (at0 xs i - at0 xs j))
def RightP (xs ys : List Int) : Prop := xs.length = ys.length ∧ (∀ i, i < xs.length → OkAt xs ys i) ∧ ∀ i j, i < xs.length → j < i → OkTo xs ys i j

set_option maxHeartbeats 1000000 in
theorem right_any (p q : Option Addr) (n m c d : Nat) (xs ys : List Int) (w : World) (hx : RowI .i64 w p n xs) (hy : RowI .i64 w q m ys) :
    Calls Try.prog 29 #[.slice p n c, .slice q m d] w (Tells (RightP xs ys) w) := by
  obtain ⟨hx1, hx2, hx3⟩ := hx
  obtain ⟨hy1, hy2, hy3⟩ := hy
  have HX1 := Lib.hid hx1
  have HY1 := Lib.hid hy1
  clear hx1 hy1
  have HX3 := Lib.hid hx3
  have HY3 := Lib.hid hy3
  clear hx3 hy3
  by_cases hnm : n = m
  · subst hnm
    go_enter Try.func29, Try.ntmps29
    go_wp2
    go_loopw [5, 6, 7, 8, 9, 17, 42, 43] (fun _ _ _ _ _ t _ _ wr => ∃ k : Nat, t = .int .i64 k ∧ k ≤ n ∧ Hid (∀ i, i < k → OkAt xs ys i) ∧ Hid (∀ i j, i < k → j < i → OkTo xs ys i j) ∧ Ext w wr) (fun _ _ _ _ _ t _ _ _ => n - (intOf t).toNat)
    case atStart => exact ⟨0, rfl, Nat.zero_le _, Lib.hid (by intro i h; omega), Lib.hid (by intro i j h; omega), Ext.refl _⟩
    case round =>
      obtain ⟨k, rfl, hk, h1, h2, hw⟩ := hrel
      by_cases hlt : k < n
      · obtain ⟨b, off, rfl, hcx⟩ := HX3.out (by omega)
        obtain ⟨b', off', rfl, hcy⟩ := HY3.out (by omega)
        have cx := hw.cell (hcx k hlt)
        have cy := hw.cell (hcy k hlt)
        have HCX := Lib.hid hcx
        have HCY := Lib.hid hcy
        clear hcx hcy
        by_cases hok : OkAt xs ys k
        · obtain ⟨o1, o2, o3, o4⟩ := hok
          go_wp2
          go_loopw [7, 8, 9, 43] (fun _ _ _ t wr => ∃ l : Nat, t = .int .i64 l ∧ l ≤ k ∧ Hid (∀ j, j < l → OkTo xs ys k j) ∧ Ext w wr) (fun _ _ _ t _ => k - (intOf t).toNat)
          case atStart => exact ⟨0, rfl, Nat.zero_le _, Lib.hid (by intro j h; omega), hw⟩
          case round =>
            obtain ⟨l, rfl, hl, h3, hw2⟩ := hrel
            by_cases hlk : l < k
            · have cyk := hw2.cell (HCY.out k hlt)
              have cyl := hw2.cell (HCY.out l (by omega))
              have cxl := hw2.cell (HCX.out l (by omega))
              obtain ⟨q1, q2, q3, q4⟩ := h1.out l hlk
              by_cases c1 : at0 xs l ≤ at0 xs k
              · go_wp2
                go_quiet (fail)
                go_wp2_with (first | (go_at_call 49; refine (least0_any _ _).mono ?_; rintro e w' ⟨rfl, rfl⟩) | (go_at_call 50; refine (most0_any _ _).mono ?_; rintro e w' ⟨rfl, rfl⟩))
                · go_ret
                  exact Tells.no (fun h => by have := h.2.2 k l (by rw [HX1.out]; exact hlt) hlk; unfold OkTo at this; omega) (Ext.drewN hw2 _)
                · go_roundw
                  case rel => exact ⟨l + 1, by go_num, by omega, Lib.hid (fun j hj => by
                    by_cases e : j = l
                    · subst e; unfold OkTo; omega
                    · exact h3.out j (by omega)), Ext.drewN hw2 _⟩
                  case measure => simp [intOf]; omega
                · go_ret
                  exact Tells.no (fun h => by have := h.2.2 k l (by rw [HX1.out]; exact hlt) hlk; unfold OkTo at this; omega) (Ext.drewN hw2 _)
              · go_wp2
                go_quiet (fail)
                go_wp2
                go_ret
                exact Tells.no (fun h => by have := h.2.2 k l (by rw [HX1.out]; exact hlt) hlk; unfold OkTo at this; omega) (Ext.drewN hw2 _)
            · go_wp2
              go_roundw
              case rel => exact ⟨k + 1, by go_num, by omega, Lib.hid (fun i hi => by
                by_cases e : i = k
                · subst e; exact ⟨o1, o2, o3, o4⟩
                · exact h1.out i (by omega)), Lib.hid (fun i j hi hj => by
                by_cases e : i = k
                · subst e; exact h3.out j (by omega)
                · exact h2.out i j (by omega) hj), hw2⟩
              case measure => simp [intOf]; omega
        · go_wp2
          all_goals first
            | (exfalso; apply hok; exact ⟨by omega, by omega, by omega, by omega⟩)
            | (go_ret; exact Tells.no (fun h => hok (h.2.1 k (by rw [HX1.out]; exact hlt))) hw)
      · go_wp2
        go_ret
        have : k = n := by omega
        subst this
        exact Tells.yes ⟨by rw [HX1.out, HY1.out], fun i hi => h1.out i (by rw [← HX1.out]; exact hi), fun i j hi hj => h2.out i j (by rw [← HX1.out]; exact hi) hj⟩ hw
  · go_enter Try.func29, Try.ntmps29
    go_wp2
    go_ret
    exact Tells.no (fun h => by rw [← HX1.out, ← HY1.out] at hnm; exact absurd h.1 hnm) (Ext.refl _)
end Go.Proofs.Ytocnopgpdlfkjaa.Clk
