/- Logs: the walk of LogNewer. -/
import Derived.Test.YtppckbhbgohbiaaLogK
namespace Go.Proofs.Ytppckbhbgohbiaa.Lg
open Go.RowKit Go.Proofs.Ytppckbhbgohbiaa
set_option linter.unusedVariables false

theorem newerB_of {l : List Ent} {n : Nat} (h : l.length = n) (t m : Int) : newerB l t m = decide (termOf l n < t ∨ (t = termOf l n ∧ (n : Int) ≤ m)) := by unfold newerB; rw [h]

set_option maxRecDepth 100000 in
set_option maxHeartbeats 4000000 in
theorem newer_walk {p1 p2 p3 : Option Addr} {n1 n2 n3 c1 c2 c3 : Nat} {l1 l2 l3 : List Ent} {w : World} (h1 : LEnt.Row w p1 n1 l1) (k1 : n1 ≤ c1) (m1 : c1 ≤ 9223372036854775807) (g1 : Pl p1 c1) (h2 : LEnt.Row w p2 n2 l2) (k2 : n2 ≤ c2) (m2 : c2 ≤ 9223372036854775807) (g2 : Pl p2 c2) (h3 : LEnt.Row w p3 n3 l3) (k3 : n3 ≤ c3) (m3 : c3 ≤ 9223372036854775807) (g3 : Pl p3 c3) :
    Calls Try.prog 7 #[.slice p1 n1 c1, .slice p2 n2 c2, .slice p3 n3 c3] w fun e w' => e = .returned (.bool true) ∧ Ext w w' := by
  have H1 := Lib.hid h1
  have H2 := Lib.hid h2
  have H3 := Lib.hid h3
  have hx : Ext w w := Ext.refl _
  clear h1 h2 h3 g1 g2 g3
  go_enter Try.func7, Try.ntmps7
  go_wp2_with fail
  refine (head_any _).mono ?_
  rintro e w1 ⟨rfl, hx1⟩
  replace hx := Ext.trans hx hx1
  clear hx1
  go_wp2_with fail
  refine (small_any _ _ _ _ _ (H1.out.ext hx)).mono ?_
  rintro e w1 ⟨B, rfl, hb, hx1⟩
  replace hx := Ext.trans hx hx1
  clear hx1
  cases B
  · clear hb
    go_wp2
    go_ret
    exact ⟨rfl, hx⟩
  have hs1 : n1 ≤ 60 := by have := (hb.1 rfl).1; rw [H1.out.1] at this; exact this
  clear hb
  go_wp2_with fail
  refine (small_any _ _ _ _ _ (H2.out.ext hx)).mono ?_
  rintro e w1 ⟨B, rfl, hb, hx1⟩
  replace hx := Ext.trans hx hx1
  clear hx1
  cases B
  · clear hb
    go_wp2
    go_ret
    exact ⟨rfl, hx⟩
  have hs2 : n2 ≤ 60 := by have := (hb.1 rfl).1; rw [H2.out.1] at this; exact this
  clear hb
  go_wp2_with fail
  refine (small_any _ _ _ _ _ (H3.out.ext hx)).mono ?_
  rintro e w1 ⟨B, rfl, hb, hx1⟩
  replace hx := Ext.trans hx hx1
  clear hx1
  cases B
  · clear hb
    go_wp2
    go_ret
    exact ⟨rfl, hx⟩
  have hs3 : n3 ≤ 60 := by have := (hb.1 rfl).1; rw [H3.out.1] at this; exact this
  clear hb
  go_wp2_with fail
  refine (rterm_any _ _ _ _ _ (H1.out.ext hx) n1 (by omega) (by omega)).mono ?_
  rintro e w' ⟨rfl, rfl⟩
  go_wp2_with fail
  refine (rterm_any _ _ _ _ _ (H2.out.ext hx) n2 (by omega) (by omega)).mono ?_
  rintro e w' ⟨rfl, rfl⟩
  go_wp2_with fail
  refine (rterm_any _ _ _ _ _ (H3.out.ext hx) n3 (by omega) (by omega)).mono ?_
  rintro e w' ⟨rfl, rfl⟩
  obtain ⟨x, hxx⟩ : ∃ x, termOf l1 n1 = x := ⟨_, rfl⟩
  obtain ⟨y, hyy⟩ : ∃ y, termOf l2 n2 = y := ⟨_, rfl⟩
  obtain ⟨z, hzz⟩ : ∃ z, termOf l3 n3 = z := ⟨_, rfl⟩
  have N1 : Hid (∀ t m, newerB l1 t m = decide (x < t ∨ (t = x ∧ (n1 : Int) ≤ m))) := Lib.hid fun t m => by rw [newerB_of H1.out.1, hxx]
  have N2 : Hid (∀ t m, newerB l2 t m = decide (y < t ∨ (t = y ∧ (n2 : Int) ≤ m))) := Lib.hid fun t m => by rw [newerB_of H2.out.1, hyy]
  rw [hxx, hyy, hzz]
  clear hxx hyy hzz
  by_cases P1 : x < y ∨ (y = x ∧ (n1 : Int) ≤ n2)
  · have E1 : Hid (newerB l1 y n2 = true) := Lib.hid (by rw [N1.out]; exact decide_eq_true P1)
    by_cases P3 : y < z ∨ (z = y ∧ (n2 : Int) ≤ n3)
    · have E3 : Hid (newerB l2 z n3 = true) := Lib.hid (by rw [N2.out]; exact decide_eq_true P3)
      have E4 : Hid (newerB l1 z n3 = true) := Lib.hid (by rw [N1.out]; exact decide_eq_true (by omega))
      clear P1 P3
      go_wp2_with fail
      refine (newer_any _ _ _ _ _ (H1.out.ext hx) _ _).mono ?_
      rintro e w' ⟨rfl, rfl⟩
      rw [E1.out]
      go_wp2_with fail
      refine (newer_any _ _ _ _ _ (H1.out.ext hx) _ _).mono ?_
      rintro e w' ⟨rfl, rfl⟩
      rw [E1.out]
      go_wp2_with fail
      refine (newer_any _ _ _ _ _ (H2.out.ext hx) _ _).mono ?_
      rintro e w' ⟨rfl, rfl⟩
      rw [E3.out]
      go_wp2_with fail
      refine (newer_any _ _ _ _ _ (H1.out.ext hx) _ _).mono ?_
      rintro e w' ⟨rfl, rfl⟩
      rw [E4.out]
      by_cases h0 : n1 = 0
      · have z0 : ((n1 : Int) == 0) = true := by simp [h0]
        have H0 := Lib.hid h0
        clear h0
        have E5 : Hid (newerB l1 x n1 = true) := Lib.hid (by rw [N1.out]; exact decide_eq_true (by omega))
        have E6 : Hid (newerB l1 x ((n1 : Int) + 1) = true) := Lib.hid (by rw [N1.out]; exact decide_eq_true (by omega))
        go_wp2_with fail
        refine (newer_any _ _ _ _ _ (H1.out.ext hx) _ _).mono ?_
        rintro e w' ⟨rfl, rfl⟩
        rw [E5.out]
        go_wp2_with fail
        refine (newer_any _ _ _ _ _ (H1.out.ext hx) _ _).mono ?_
        rintro e w' ⟨rfl, rfl⟩
        rw [E6.out]
        go_wp2
        go_ret
        exact ⟨rfl, hx⟩
      · have z0 : ((n1 : Int) == 0) = false := by simp; omega
        have z1 : 0 < n1 := by omega
        clear h0
        have E5 : Hid (newerB l1 x n1 = true) := Lib.hid (by rw [N1.out]; exact decide_eq_true (by omega))
        have E6 : Hid (newerB l1 x ((n1 : Int) + 1) = true) := Lib.hid (by rw [N1.out]; exact decide_eq_true (by omega))
        go_wp2_with fail
        refine (newer_any _ _ _ _ _ (H1.out.ext hx) _ _).mono ?_
        rintro e w' ⟨rfl, rfl⟩
        rw [E5.out]
        go_wp2_with fail
        refine (newer_any _ _ _ _ _ (H1.out.ext hx) _ _).mono ?_
        rintro e w' ⟨rfl, rfl⟩
        rw [E6.out]
        have E7 : Hid (newerB l1 x ((n1 : Int) - 1) = false) := Lib.hid (by rw [N1.out]; exact decide_eq_false (by omega))
        go_wp2_with fail
        refine (newer_any _ _ _ _ _ (H1.out.ext hx) _ _).mono ?_
        rintro e w' ⟨rfl, rfl⟩
        rw [E7.out]
        go_wp2
        go_ret
        exact ⟨rfl, hx⟩
    · have E3 : Hid (newerB l2 z n3 = false) := Lib.hid (by rw [N2.out]; exact decide_eq_false P3)
      clear P1 P3
      go_wp2_with fail
      refine (newer_any _ _ _ _ _ (H1.out.ext hx) _ _).mono ?_
      rintro e w' ⟨rfl, rfl⟩
      rw [E1.out]
      go_wp2_with fail
      refine (newer_any _ _ _ _ _ (H1.out.ext hx) _ _).mono ?_
      rintro e w' ⟨rfl, rfl⟩
      rw [E1.out]
      go_wp2_with fail
      refine (newer_any _ _ _ _ _ (H2.out.ext hx) _ _).mono ?_
      rintro e w' ⟨rfl, rfl⟩
      rw [E3.out]
      by_cases h0 : n1 = 0
      · have z0 : ((n1 : Int) == 0) = true := by simp [h0]
        have H0 := Lib.hid h0
        clear h0
        have E5 : Hid (newerB l1 x n1 = true) := Lib.hid (by rw [N1.out]; exact decide_eq_true (by omega))
        have E6 : Hid (newerB l1 x ((n1 : Int) + 1) = true) := Lib.hid (by rw [N1.out]; exact decide_eq_true (by omega))
        go_wp2_with fail
        refine (newer_any _ _ _ _ _ (H1.out.ext hx) _ _).mono ?_
        rintro e w' ⟨rfl, rfl⟩
        rw [E5.out]
        go_wp2_with fail
        refine (newer_any _ _ _ _ _ (H1.out.ext hx) _ _).mono ?_
        rintro e w' ⟨rfl, rfl⟩
        rw [E6.out]
        go_wp2
        go_ret
        exact ⟨rfl, hx⟩
      · have z0 : ((n1 : Int) == 0) = false := by simp; omega
        have z1 : 0 < n1 := by omega
        clear h0
        have E5 : Hid (newerB l1 x n1 = true) := Lib.hid (by rw [N1.out]; exact decide_eq_true (by omega))
        have E6 : Hid (newerB l1 x ((n1 : Int) + 1) = true) := Lib.hid (by rw [N1.out]; exact decide_eq_true (by omega))
        go_wp2_with fail
        refine (newer_any _ _ _ _ _ (H1.out.ext hx) _ _).mono ?_
        rintro e w' ⟨rfl, rfl⟩
        rw [E5.out]
        go_wp2_with fail
        refine (newer_any _ _ _ _ _ (H1.out.ext hx) _ _).mono ?_
        rintro e w' ⟨rfl, rfl⟩
        rw [E6.out]
        have E7 : Hid (newerB l1 x ((n1 : Int) - 1) = false) := Lib.hid (by rw [N1.out]; exact decide_eq_false (by omega))
        go_wp2_with fail
        refine (newer_any _ _ _ _ _ (H1.out.ext hx) _ _).mono ?_
        rintro e w' ⟨rfl, rfl⟩
        rw [E7.out]
        go_wp2
        go_ret
        exact ⟨rfl, hx⟩
  · have E1 : Hid (newerB l1 y n2 = false) := Lib.hid (by rw [N1.out]; exact decide_eq_false P1)
    have E2 : Hid (newerB l2 x n1 = true) := Lib.hid (by rw [N2.out]; exact decide_eq_true (by omega))
    clear P1
    go_wp2_with fail
    refine (newer_any _ _ _ _ _ (H1.out.ext hx) _ _).mono ?_
    rintro e w' ⟨rfl, rfl⟩
    rw [E1.out]
    go_wp2_with fail
    refine (newer_any _ _ _ _ _ (H2.out.ext hx) _ _).mono ?_
    rintro e w' ⟨rfl, rfl⟩
    rw [E2.out]
    go_wp2_with fail
    refine (newer_any _ _ _ _ _ (H1.out.ext hx) _ _).mono ?_
    rintro e w' ⟨rfl, rfl⟩
    rw [E1.out]
    by_cases h0 : n1 = 0
    · have z0 : ((n1 : Int) == 0) = true := by simp [h0]
      have H0 := Lib.hid h0
      clear h0
      have E5 : Hid (newerB l1 x n1 = true) := Lib.hid (by rw [N1.out]; exact decide_eq_true (by omega))
      have E6 : Hid (newerB l1 x ((n1 : Int) + 1) = true) := Lib.hid (by rw [N1.out]; exact decide_eq_true (by omega))
      go_wp2_with fail
      refine (newer_any _ _ _ _ _ (H1.out.ext hx) _ _).mono ?_
      rintro e w' ⟨rfl, rfl⟩
      rw [E5.out]
      go_wp2_with fail
      refine (newer_any _ _ _ _ _ (H1.out.ext hx) _ _).mono ?_
      rintro e w' ⟨rfl, rfl⟩
      rw [E6.out]
      go_wp2
      go_ret
      exact ⟨rfl, hx⟩
    · have z0 : ((n1 : Int) == 0) = false := by simp; omega
      have z1 : 0 < n1 := by omega
      clear h0
      have E5 : Hid (newerB l1 x n1 = true) := Lib.hid (by rw [N1.out]; exact decide_eq_true (by omega))
      have E6 : Hid (newerB l1 x ((n1 : Int) + 1) = true) := Lib.hid (by rw [N1.out]; exact decide_eq_true (by omega))
      go_wp2_with fail
      refine (newer_any _ _ _ _ _ (H1.out.ext hx) _ _).mono ?_
      rintro e w' ⟨rfl, rfl⟩
      rw [E5.out]
      go_wp2_with fail
      refine (newer_any _ _ _ _ _ (H1.out.ext hx) _ _).mono ?_
      rintro e w' ⟨rfl, rfl⟩
      rw [E6.out]
      have E7 : Hid (newerB l1 x ((n1 : Int) - 1) = false) := Lib.hid (by rw [N1.out]; exact decide_eq_false (by omega))
      go_wp2_with fail
      refine (newer_any _ _ _ _ _ (H1.out.ext hx) _ _).mono ?_
      rintro e w' ⟨rfl, rfl⟩
      rw [E7.out]
      go_wp2
      go_ret
      exact ⟨rfl, hx⟩
end Go.Proofs.Ytppckbhbgohbiaa.Lg
