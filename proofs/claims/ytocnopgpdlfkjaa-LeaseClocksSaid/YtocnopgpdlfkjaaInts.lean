/- Are rows of numbers the same (the reference's Ints). -/
import Derived.Test.YtocnopgpdlfkjaaRepI
import Derived.BigQuiet
import Derived.IntWalk
import Derived.Deep.QuietTactic
import Derived.Deep.RegionWith
namespace Go.Proofs.Ytocnopgpdlfkjaa.Ls
open Go.RowKit Go.Proofs.Ytocnopgpdlfkjaa
set_option linter.unusedVariables false

theorem ints_eq {xs ys : List Int} (h : xs.length = ys.length) (h2 : ∀ j, j < xs.length → at0 xs j = at0 ys j) : xs = ys := by
  apply List.ext_getElem h
  intro j hj hj2
  have := h2 j hj
  simpa [at0, List.getD_eq_getElem?_getD, hj, hj2] using this
def IntsR (w : World) (xs ys : List Int) (n : Nat) (i : Value) (wr : World) : Prop :=
  ∃ k : Nat, i = .int .i64 k ∧ k ≤ n ∧ Hid (∀ j, j < k → at0 xs j = at0 ys j) ∧ Ext w wr

set_option maxRecDepth 100000 in
set_option maxHeartbeats 1000000 in
theorem rints_any (p q : Option Addr) (n c m d : Nat) (xs ys : List Int) (w : World) (hp : RowI .i64 w p n xs) (hq : RowI .i64 w q m ys) :
    Calls Try.prog 16 #[.slice p n c, .slice q m d] w fun e w' => e = .returned (.bool (decide (xs = ys))) ∧ Ext w w' := by
  have HP := Lib.hid hp
  have HQ := Lib.hid hq
  have hn := hp.2.1
  have hm := hq.2.1
  clear hp hq
  by_cases hnm : n = m
  · subst hnm
    have hb : ((n : Int) != (n : Int)) = false := by simp
    go_enter Try.func16, Try.ntmps16
    go_wp2
    go_loopw [5] (fun i wr => IntsR w xs ys n i wr) (fun i _ => n - (intOf i).toNat)
    case atStart => exact ⟨0, rfl, by omega, Lib.hid (by intro j hj; omega), Ext.refl _⟩
    case round =>
      obtain ⟨k, rfl, hk, HE, hx⟩ := hrel
      by_cases hlt : k < n
      · obtain ⟨b, off, rfl, hc⟩ := HP.out.2.2 (by omega)
        obtain ⟨b2, off2, rfl, hc2⟩ := HQ.out.2.2 (by omega)
        have hlt' : (k : Int) < (n : Int) := by omega
        have hlt0 : (0 : Int) ≤ (k : Int) := by omega
        have cx := hx.cell (hc k hlt)
        have cy := hx.cell (hc2 k hlt)
        clear hc hc2
        by_cases he : at0 xs k = at0 ys k
        · have hb : (at0 xs k != at0 ys k) = false := by simp [he]
          have HE1 := Lib.hid he
          clear he
          go_wp2
          go_quiet (fail)
          go_wp2
          go_roundw
          case rel => exact ⟨k + 1, by go_num, by omega, Lib.hid (fun j hj => by
            by_cases e : j = k
            · subst e; exact HE1.out
            · exact HE.out j (by omega)), Ext.drewN hx _⟩
          case measure => simp [intOf]; omega
        · have hb : (at0 xs k != at0 ys k) = true := by simp [he]
          have HE1 := Lib.hid he
          clear he
          go_wp2
          go_quiet (fail)
          go_wp2
          go_ret
          exact ⟨ret_bool (decide_eq_false (fun h => HE1.out (by rw [h]))).symm, Ext.drewN hx _⟩
      · obtain rfl : k = n := by omega
        go_wp2
        go_ret
        exact ⟨ret_bool (decide_eq_true (ints_eq (by rw [HP.out.1, HQ.out.1]) (fun j hj => HE.out j (by rw [HP.out.1] at hj; exact hj)))).symm, hx⟩
  · have hb : ((n : Int) != (m : Int)) = true := by simp; omega
    go_enter Try.func16, Try.ntmps16
    go_wp2
    go_ret
    exact ⟨ret_bool (decide_eq_false (fun h => hnm (by rw [← HP.out.1, ← HQ.out.1, h]))).symm, Ext.refl _⟩

end Go.Proofs.Ytocnopgpdlfkjaa.Ls
