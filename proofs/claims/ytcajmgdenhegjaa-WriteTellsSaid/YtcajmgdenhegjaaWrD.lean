/- Written bytes: are pieces right? -/
import Derived.Test.YtcajmgdenhegjaaWrC
namespace Go.Proofs.Ytcajmgdenhegjaa.Wr
open Go.RowKit Go.Proofs.Ytcajmgdenhegjaa
set_option linter.unusedVariables false

def allB (l : List Pc) : Bool := l.all rightB
theorem allB_iff (l : List Pc) : allB l = true ↔ AllR l := by
  unfold allB AllR
  rw [List.all_eq_true]
  exact ⟨fun h x hx => (rightB_iff x).1 (h x hx), fun h x hx => (rightB_iff x).2 (h x hx)⟩
def RAllR (w : World) (l : List Pc) (n : Nat) (i : Value) (wr : World) : Prop :=
  ∃ j : Nat, i = .int .i64 j ∧ j ≤ n ∧ Hid (∀ (s : Nat) (x : Pc), s < j → l[s]? = some x → rightB x = true) ∧ Ext w wr
set_option maxRecDepth 100000 in
theorem rall_any (p : Option Addr) (n c : Nat) (l : List Pc) (w : World) (hl : LPc.Row w p n l) :
    Calls Try.prog 26 #[.slice p n c] w fun e w' => e = .returned (.bool (allB l)) ∧ Ext w w' := by
  have HP := Lib.hid hl
  have hn := hl.2.1
  clear hl
  go_enter Try.func26, Try.ntmps26
  go_wp2
  go_loopw [3] (fun i wr => RAllR w l n i wr) (fun i _ => n - (intOf i).toNat)
  case atStart => exact ⟨0, rfl, by omega, Lib.hid (by intro j x hj; omega), Ext.refl _⟩
  case round =>
    obtain ⟨j, rfl, hj, HE, hx⟩ := hrel
    by_cases hlt : j < n
    · have hlt' : (j : Int) < (n : Int) := by omega
      have hlt0 : (0 : Int) ≤ (j : Int) := by omega
      obtain ⟨x, gx⟩ : ∃ x, l[j]? = some x := ⟨_, List.getElem?_eq_getElem (by rw [HP.out.1]; exact hlt)⟩
      obtain ⟨b, off, p1, n1, c1, rfl, x0, x1, x2, tx⟩ := pc_at (HP.out.ext hx) gx
      have hr : ∀ W, Ext wr W → Calls Try.prog 40 #[.agg #[.int .i64 x.i, .int .i64 x.f, .slice p1 n1 c1]] W fun e w' => e = .returned (.bool (rightB x)) ∧ Ext W w' := fun W hW => rright_any x _ _ _ W ⟨tx.eq, tx.wa, tx.wb, tx.row.ext hW, tx.nc, tx.cm, tx.pl⟩
      have GX := Lib.hid gx
      obtain ⟨B, hB⟩ : ∃ B, rightB x = B := ⟨_, rfl⟩
      have HB := Lib.hid hB
      rw [hB] at hr
      have HR := Lib.hid hr
      clear tx gx hB hr
      go_wp2_with fail
      refine (HR.out _ (Ext.refl _)).mono ?_
      rintro e w2 ⟨rfl, hx2⟩
      replace hx := Ext.trans hx hx2
      clear hx2
      cases B
      · go_wp2
        go_ret
        exact ⟨ret_bool (Bool.eq_false_iff.2 (fun h => by have := List.all_eq_true.1 h x (List.mem_of_getElem? GX.out); rw [HB.out] at this; exact Bool.false_ne_true this)).symm, hx⟩
      · go_wp2
        go_roundw
        case rel => exact ⟨j + 1, by go_num, by omega, Lib.hid (fun s y hs hy => by
          by_cases e : s = j
          · subst e; rw [GX.out] at hy; cases hy; exact HB.out
          · exact HE.out s y (by omega) hy), hx⟩
        case measure => simp [intOf]; omega
    · obtain rfl : j = n := by omega
      go_wp2
      go_ret
      exact ⟨ret_bool (List.all_eq_true.2 (fun y hy => by
        obtain ⟨s, hs⟩ := List.mem_iff_getElem?.1 hy
        exact HE.out s y (by have := (List.getElem?_eq_some_iff.1 hs).1; rw [HP.out.1] at this; exact this) hs)).symm, hx⟩
end Go.Proofs.Ytcajmgdenhegjaa.Wr
