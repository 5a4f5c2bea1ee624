/- The document's own answer: Ints, Check. -/
import Derived.Test.YtgjkbkiehfpjcaaSumI
import Derived.BigQuiet
namespace Go.Proofs.Ytgjkbkiehfpjcaa.Sm
open Go.RowKit Go.Proofs.Ytgjkbkiehfpjcaa Go.Proofs.Ytgjkbkiehfpjcaa.Crc
set_option linter.unusedVariables false

theorem list_at0 {xs ys : List Int} (h : xs.length = ys.length) (h2 : ∀ j, j < xs.length → at0 xs j = at0 ys j) : xs = ys := by
  apply List.ext_getElem h
  intro j hj hj2
  have := h2 j hj
  simpa [at0, List.getD_eq_getElem?_getD, hj, hj2] using this

def RIntsR (w : World) (xs ys : List Int) (n : Nat) (i : Value) (wr : World) : Prop :=
  ∃ k : Nat, i = .int .i64 k ∧ k ≤ n ∧ Hid (∀ j, j < k → at0 xs j = at0 ys j) ∧ Ext w wr

set_option maxRecDepth 100000 in
set_option maxHeartbeats 4000000 in
theorem rints_any (p q : Option Addr) (n c m d : Nat) (xs ys : List Int) (w : World) (hp : RowI .i64 w p n xs) (hq : RowI .i64 w q m ys) :
    Calls Try.prog 12 #[.slice p n c, .slice q m d] w fun e w' => e = .returned (.bool (decide (xs = ys))) ∧ Ext w w' := by
  have HP := Lib.hid hp
  have HQ := Lib.hid hq
  have hn := hp.2.1
  have hm := hq.2.1
  clear hp hq
  by_cases hnm : n = m
  · subst hnm
    have hb : ((n : Int) != (n : Int)) = false := by simp
    go_enter Try.func12, Try.ntmps12
    go_wp2
    go_loopw [5] (fun i wr => RIntsR w xs ys n i wr) (fun i _ => n - (intOf i).toNat)
    case atStart => exact ⟨0, rfl, by omega, Lib.hid (by intro j hj; omega), Ext.refl _⟩
    case round =>
      obtain ⟨k, rfl, hk, HE, hx⟩ := hrel
      by_cases hlt : k < n
      · obtain ⟨b, off, rfl, hc⟩ := HP.out.2.2 (by omega)
        obtain ⟨b2, off2, rfl, hc2⟩ := HQ.out.2.2 (by omega)
        have hlt' : (k : Int) < (n : Int) := by omega
        have hlt0 : (0 : Int) ≤ (k : Int) := by omega
        have cx := hx.cell (hc k hlt)
        have cy := hx.cell (hc2 k hlt)
        clear hc hc2
        by_cases he : at0 xs k = at0 ys k
        · have hb : (at0 xs k != at0 ys k) = false := by simp [he]
          have HE1 := Lib.hid he
          clear he
          go_wp2
          go_quiet (fail)
          go_wp2
          go_roundw
          case rel => exact ⟨k + 1, by go_num, by omega, Lib.hid (fun j hj => by
            by_cases e : j = k
            · subst e; exact HE1.out
            · exact HE.out j (by omega)), Ext.drewN hx _⟩
          case measure => simp [intOf]; omega
        · have hb : (at0 xs k != at0 ys k) = true := by simp [he]
          have HE1 := Lib.hid he
          clear he
          go_wp2
          go_quiet (fail)
          go_wp2
          go_ret
          exact ⟨ret_bool (decide_eq_false (fun h => HE1.out (by rw [h]))).symm, Ext.drewN hx _⟩
      · obtain rfl : k = n := by omega
        go_wp2
        go_ret
        exact ⟨ret_bool (decide_eq_true (list_at0 (by rw [HP.out.1, HQ.out.1]) (fun j hj => HE.out j (by rw [HP.out.1] at hj; exact hj)))).symm, hx⟩
  · have hb : ((n : Int) != (m : Int)) = true := by simp; omega
    go_enter Try.func12, Try.ntmps12
    go_wp2
    go_ret
    exact ⟨ret_bool (decide_eq_false (fun h => hnm (by rw [← HP.out.1, ← HQ.out.1, h]))).symm, Ext.refl _⟩

def RCheckR (w : World) (a zs : List Int) (M s : Nat) (i : Value) (wr : World) : Prop :=
  ∃ k : Nat, i = .int .i64 k ∧ k ≤ M ∧ k ≤ s ∧ Hid (∀ j, j < k → at0 a j = at0 zs j) ∧ Ext w wr

set_option maxRecDepth 100000 in
set_option maxHeartbeats 600000 in
theorem rcheck_any (p q : Option Addr) (n c s d : Nat) (l : List Nat) (zs : List Int) (w : World) (hp : RowB w p n l) (hq : RowI .i64 w q s zs) (hn : n ≤ 1000000) (hc : n ≤ c) :
    Calls Try.prog 16 #[.slice p n c, .slice q s d] w fun e w' => e = .returned (.int .i64 (chk (bsums l) zs)) ∧ Ext w w' := by
  have HP := Lib.hid hp
  have HQ := Lib.hid hq
  have hs := hq.2.1
  clear hp hq
  have RB := Lib.hid (rblocks_any p n c l w HP.out hn hc)
  have hln : (bsums l).length ≤ 1000000 := by rw [bsums_length, HP.out.length]; omega
  have LZ : Hid (zs.length = s) := HQ.out.1
  generalize bsums l = A at RB hln ⊢
  go_enter Try.func16, Try.ntmps16
  go_wp2_with fail
  refine RB.out.mono ?_
  clear RB
  rintro e w1 ⟨⟨v, rfl, hown⟩, hx1⟩
  obtain ⟨p1, c1, rfl, hr1⟩ := rowI_of_own (k := .i64) (zs := A) hown (by omega)
  have HR := Lib.hid hr1
  clear hr1 hown
  generalize A.length = M at hln HR ⊢
  go_wp2
  go_loopw [6] (fun i wr => RCheckR w1 A zs M s i wr) (fun i _ => M + s - (intOf i).toNat)
  case atStart => exact ⟨0, rfl, by omega, by omega, Lib.hid (by intro j hj; omega), Ext.refl _⟩
  case round =>
    obtain ⟨k, rfl, hkM, hks, HE, hx⟩ := hrel
    by_cases h1 : k < M
    · have g1 : (k : Int) < (M : Int) := by omega
      by_cases h2 : k < s
      · obtain ⟨b, off, rfl, hc⟩ := HR.out.2.2 (by omega)
        obtain ⟨b2, off2, rfl, hc2⟩ := HQ.out.2.2 (by omega)
        have g2 : (k : Int) < (s : Int) := by omega
        have g3 : decide ((M : Int) ≤ (k : Int)) = false := decide_eq_false (by omega)
        have g3n : decide (M ≤ k) = false := decide_eq_false (by omega)
        have g4 : decide ((s : Int) ≤ (k : Int)) = false := decide_eq_false (by omega)
        have g4n : decide (s ≤ k) = false := decide_eq_false (by omega)
        have hlt0 : (0 : Int) ≤ (k : Int) := by omega
        have cx := hx.cell (hc k h1)
        have cy := (Ext.trans hx1 hx).cell (hc2 k h2)
        clear hc hc2
        by_cases he : at0 A k = at0 zs k
        · have hb : (at0 A k != at0 zs k) = false := by simp [he]
          have HE1 := Lib.hid he
          clear he
          go_wp2
          go_quiet (fail)
          go_wp2
          go_roundw
          case rel => exact ⟨k + 1, by go_num, by omega, by omega, Lib.hid (fun j hj => by
            by_cases e : j = k
            · subst e; exact HE1.out
            · exact HE.out j (by omega)), Ext.drewN hx _⟩
          case measure => simp [intOf]; omega
        · have hb : (at0 A k != at0 zs k) = true := by simp [he]
          have HE1 := Lib.hid he
          clear he
          go_wp2
          go_quiet (fail)
          go_wp2
          go_ret
          exact ⟨ret_int (chk_at _ _ k (by rw [HR.out.1]; omega) (by rw [LZ.out]; omega) HE.out (.inl ⟨by rw [HR.out.1]; omega, by rw [LZ.out]; omega, HE1.out⟩)).symm, Ext.trans hx1 (Ext.drewN hx _)⟩
      · have g2 : ¬ (k : Int) < (s : Int) := by omega
        have g3 : decide ((M : Int) ≤ (k : Int)) = false := decide_eq_false (by omega)
        have g3n : decide (M ≤ k) = false := decide_eq_false (by omega)
        have g4 : decide ((s : Int) ≤ (k : Int)) = true := decide_eq_true (by omega)
        have g4n : decide (s ≤ k) = true := decide_eq_true (by omega)
        go_wp2
        go_quiet (fail)
        go_wp2
        go_ret
        exact ⟨ret_int (chk_at _ _ k (by rw [HR.out.1]; omega) (by rw [LZ.out]; omega) HE.out (.inr (by rw [HR.out.1, LZ.out]; omega))).symm, Ext.trans hx1 (Ext.drewN hx _)⟩
    · have g1 : ¬ (k : Int) < (M : Int) := by omega
      by_cases h2 : k < s
      · have g2 : (k : Int) < (s : Int) := by omega
        have g3 : decide ((M : Int) ≤ (k : Int)) = true := decide_eq_true (by omega)
        have g3n : decide (M ≤ k) = true := decide_eq_true (by omega)
        go_wp2
        go_quiet (fail)
        go_wp2
        go_ret
        exact ⟨ret_int (chk_at _ _ k (by rw [HR.out.1]; omega) (by rw [LZ.out]; omega) HE.out (.inr (by rw [HR.out.1, LZ.out]; omega))).symm, Ext.trans hx1 (Ext.drewN hx _)⟩
      · have g2 : ¬ (k : Int) < (s : Int) := by omega
        go_wp2
        go_ret
        exact ⟨ret_int (chk_same _ _ (by rw [HR.out.1, LZ.out]; omega) (fun j hj => HE.out j (by rw [HR.out.1] at hj; omega))).symm, Ext.trans hx1 hx⟩
end Go.Proofs.Ytgjkbkiehfpjcaa.Sm
