/- Logs: the walk of LogElects. -/
import Derived.Test.YtppckbhbgohbiaaLogM
namespace Go.Proofs.Ytppckbhbgohbiaa.Lg
open Go.RowKit Go.Proofs.Ytppckbhbgohbiaa
set_option linter.unusedVariables false

set_option maxRecDepth 100000 in
set_option maxHeartbeats 4000000 in
theorem elects_walk {p1 p2 p3 : Option Addr} {n1 n2 n3 c1 c2 c3 : Nat} {L l v : List Ent} {w : World} (h1 : LEnt.Row w p1 n1 L) (k1 : n1 ≤ c1) (m1 : c1 ≤ 9223372036854775807) (g1 : Pl p1 c1) (h2 : LEnt.Row w p2 n2 l) (h3 : LEnt.Row w p3 n3 v) {at_ : Int} (wa : (Lit.int .u8 at_).wf = true) :
    Calls Try.prog 9 #[.slice p1 n1 c1, .slice p2 n2 c2, .slice p3 n3 c3, .int .u8 at_] w fun e w' => e = .returned (.bool true) ∧ Ext w w' := by
  have b1 := bd_u8 wa
  have H1 := Lib.hid h1
  have H2 := Lib.hid h2
  have H3 := Lib.hid h3
  have hx : Ext w w := Ext.refl _
  clear h1 h2 h3 g1 wa
  go_enter Try.func9, Try.ntmps9
  go_wp2_with fail
  refine (head_any _).mono ?_
  rintro e w1 ⟨rfl, hx1⟩
  replace hx := Ext.trans hx hx1
  clear hx1
  go_wp2_with fail
  refine (small_any _ _ _ _ _ (H1.out.ext hx)).mono ?_
  rintro e w1 ⟨B, rfl, hb, hx1⟩
  replace hx := Ext.trans hx hx1
  clear hx1
  cases B
  · clear hb
    go_wp2
    go_ret
    exact ⟨rfl, hx⟩
  have hs1 : n1 ≤ 60 := by have := (hb.1 rfl).1; rw [H1.out.1] at this; exact this
  clear hb
  go_wp2_with fail
  refine (small_any _ _ _ _ _ (H2.out.ext hx)).mono ?_
  rintro e w1 ⟨B, rfl, hb, hx1⟩
  replace hx := Ext.trans hx hx1
  clear hx1
  cases B
  · clear hb
    go_wp2
    go_ret
    exact ⟨rfl, hx⟩
  have hs2 : n2 ≤ 60 := by have := (hb.1 rfl).1; rw [H2.out.1] at this; exact this
  clear hb
  go_wp2_with fail
  refine (small_any _ _ _ _ _ (H3.out.ext hx)).mono ?_
  rintro e w1 ⟨B, rfl, hb, hx1⟩
  replace hx := Ext.trans hx hx1
  clear hx1
  cases B
  · clear hb
    go_wp2
    go_ret
    exact ⟨rfl, hx⟩
  have hs3 : n3 ≤ 60 := by have := (hb.1 rfl).1; rw [H3.out.1] at this; exact this
  clear hb
  by_cases hz : n1 = 0
  · have z0 : ((n1 : Int) == 0) = true := by simp [hz]
    clear hz
    go_wp2
    go_ret
    exact ⟨rfl, hx⟩
  have z0 : ((n1 : Int) == 0) = false := by simp; omega
  have hn0 : 0 < n1 := by omega
  clear hz
  go_wp2_with fail
  refine (rises_any _ _ _ _ _ (H1.out.ext hx)).mono ?_
  rintro e w1 ⟨B, rfl, hb, hx1⟩
  replace hx := Ext.trans hx hx1
  clear hx1
  cases B
  · clear hb
    go_wp2
    go_ret
    exact ⟨rfl, hx⟩
  have HR1 : Hid (RisesP L) := Lib.hid (hb.1 rfl)
  clear hb
  go_wp2_with fail
  refine (rises_any _ _ _ _ _ (H2.out.ext hx)).mono ?_
  rintro e w1 ⟨B, rfl, hb, hx1⟩
  replace hx := Ext.trans hx hx1
  clear hx1
  cases B
  · clear hb
    go_wp2
    go_ret
    exact ⟨rfl, hx⟩
  have HR2 : Hid (RisesP l) := Lib.hid (hb.1 rfl)
  clear hb
  go_wp2_with fail
  refine (rises_any _ _ _ _ _ (H3.out.ext hx)).mono ?_
  rintro e w1 ⟨B, rfl, hb, hx1⟩
  replace hx := Ext.trans hx hx1
  clear hx1
  cases B
  · clear hb
    go_wp2
    go_ret
    exact ⟨rfl, hx⟩
  have HR3 : Hid (RisesP v) := Lib.hid (hb.1 rfl)
  clear hb
  go_wp2_with fail
  refine (meet_any _ _ _ _ _ _ _ _ _ (H2.out.ext hx) (H1.out.ext hx)).mono ?_
  rintro e w1 ⟨B, rfl, hb, hx1⟩
  replace hx := Ext.trans hx hx1
  clear hx1
  cases B
  · clear hb
    go_wp2
    go_ret
    exact ⟨rfl, hx⟩
  have HM2 : Hid (MeetP l L) := Lib.hid (hb.1 rfl)
  clear hb
  go_wp2_with fail
  refine (meet_any _ _ _ _ _ _ _ _ _ (H3.out.ext hx) (H1.out.ext hx)).mono ?_
  rintro e w1 ⟨B, rfl, hb, hx1⟩
  replace hx := Ext.trans hx hx1
  clear hx1
  cases B
  · clear hb
    go_wp2
    go_ret
    exact ⟨rfl, hx⟩
  have HM3 : Hid (MeetP v L) := Lib.hid (hb.1 rfl)
  clear hb
  obtain ⟨i, hi⟩ : ∃ i : Nat, at_ % (n1 : Int) = (i : Int) := ⟨(at_ % (n1 : Int)).toNat, by have := Int.emod_nonneg at_ (show (n1 : Int) ≠ 0 by omega); omega⟩
  have hin : i < n1 := by have := Int.emod_lt_of_pos at_ (show 0 < (n1 : Int) by omega); omega
  have q1 : ¬ ((n1 : Int) = 0) := by omega
  have gx := ent_get (l := L) (j := i) (by rw [H1.out.1]; exact hin)
  generalize L.getD i (0, []) = x at gx
  obtain ⟨b, off, _, _, _, rfl, x0, _⟩ := ent_at (H1.out.ext hx) gx
  have GX := Lib.hid gx
  have hwr : IntKind.i64.wrap (1 + (i : Int)) = 1 + (i : Int) := IntWalk.i64_in _ (by omega)
  have e1 : (1 + (i : Int)) - 1 = (i : Int) := by omega
  have k0 : (0 : Int) ≤ (i : Int) := by omega
  have k1' : (i : Int) < (n1 : Int) := by omega
  clear gx
  go_wp2_with fail
  refine (rterm_any _ _ _ _ _ (H1.out.ext hx) n1 (by omega) (by omega)).mono ?_
  rintro e w' ⟨rfl, rfl⟩
  obtain ⟨TL, hTL⟩ : ∃ TL, termOf L n1 = TL := ⟨_, rfl⟩
  rw [hTL]
  have HTL := Lib.hid hTL
  clear hTL
  by_cases ht : x.1 = TL
  · have t1 : (x.1 != TL) = false := by simp [ht]
    have HT := Lib.hid ht
    clear ht
    by_cases hl : n2 ≤ n1
    · have t2 : decide ((n1 : Int) < (n2 : Int)) = false := decide_eq_false (by omega)
      have t2n : decide (n1 < n2) = false := decide_eq_false (by omega)
      go_wp2_with fail
      have hci : (1 + (i : Int)) = ((i + 1 : Nat) : Int) := by omega
      have HCM : Hid (commitL L x.1 [1 + (i : Int), 1 + (i : Int), 0] (i : Int) = 1 + (i : Int)) := Lib.hid (by
        have := commit_two L (i + 1) (by omega) x GX.out
        rw [hci]
        rwa [show ((i + 1 : Nat) : Int) - 1 = (i : Int) by omega] at this)
      clear hci
      refine (commit_lit (m := 3) [1 + (i : Int), 1 + (i : Int), 0] rfl rfl rfl (by decide) (H1.out.ext hx) x.1 (i : Int) _ HCM.out).mono ?_
      rintro e w1 ⟨rfl, hx1⟩
      replace hx := Ext.trans hx hx1
      clear hx1
      have hne : ((1 + (i : Int)) != (1 + (i : Int))) = false := by simp
      obtain ⟨B1, hB1⟩ : ∃ B1, fitsB v (1 + (i : Int)) x.1 = B1 := ⟨_, rfl⟩
      obtain ⟨B2, hB2⟩ : ∃ B2, fitsB l (1 + (i : Int)) x.1 = B2 := ⟨_, rfl⟩
      have HB1 := Lib.hid hB1
      have HB2 := Lib.hid hB2
      clear hB1 hB2
      go_wp2_with fail
      refine (fits_any _ _ _ _ _ (H3.out.ext hx) _ _).mono ?_
      rintro e w' ⟨rfl, rfl⟩
      rw [HB1.out]
      go_wp2_with fail
      refine (fits_any _ _ _ _ _ (H2.out.ext hx) _ _).mono ?_
      rintro e w' ⟨rfl, rfl⟩
      rw [HB2.out]
      cases B1
      · go_wp2
        go_ret
        exact ⟨rfl, hx⟩
      cases B2
      · go_wp2_with fail
        refine (rterm_any _ _ _ _ _ (H2.out.ext hx) n2 (by omega) (by omega)).mono ?_
        rintro e w' ⟨rfl, rfl⟩
        have HE : Hid (termOf l n2 ≤ x.1 → newerB v (termOf l n2) n2 = false) := Lib.hid (fun h => by
          have hp : ((i + 1 : Nat) : Int) = 1 + (i : Int) := by omega
          have := elects HR1.out HR2.out HR3.out HM2.out HM3.out (p := i + 1) (by omega) GX.out (by rw [H1.out.1, HTL.out]; exact HT.out) (by rw [H2.out.1, H1.out.1]; exact hl) (by rw [hp]; exact HB1.out) (by rw [hp]; exact HB2.out) (by rw [H2.out.1]; exact h)
          rwa [H2.out.1] at this)
        have HC : Hid (∀ w', Ext w w' → Calls Try.prog 22 #[.slice p2 n2 c2, .int .i64 n2] w' fun e w'' => e = .returned (.int .i64 (termOf l n2)) ∧ w' = w'') := Lib.hid fun w' h => rterm_any _ _ _ _ _ (H2.out.ext h) n2 (by omega) (by omega)
        generalize termOf l n2 = T2 at HE HC ⊢
        by_cases ht2 : T2 ≤ x.1
        · have t3 : decide (x.1 < T2) = false := decide_eq_false (by omega)
          have HN := Lib.hid (HE.out ht2)
          clear HE ht2
          go_wp2_with fail
          refine (HC.out _ hx).mono ?_
          rintro e w' ⟨rfl, rfl⟩
          go_wp2_with fail
          refine (newer_any _ _ _ _ _ (H3.out.ext hx) _ _).mono ?_
          rintro e w' ⟨rfl, rfl⟩
          rw [HN.out]
          go_wp2
          go_ret
          exact ⟨rfl, hx⟩
        · have t3 : decide (x.1 < T2) = true := decide_eq_true (by omega)
          go_wp2
          go_ret
          exact ⟨rfl, hx⟩
      · go_wp2
        go_ret
        exact ⟨rfl, hx⟩
    · have t2 : decide ((n1 : Int) < (n2 : Int)) = true := decide_eq_true (by omega)
      have t2n : decide (n1 < n2) = true := decide_eq_true (by omega)
      go_wp2
      go_ret
      exact ⟨rfl, hx⟩
  · have t1 : (x.1 != TL) = true := by simp [ht]
    clear ht
    go_wp2
    go_ret
    exact ⟨rfl, hx⟩
end Go.Proofs.Ytppckbhbgohbiaa.Lg
