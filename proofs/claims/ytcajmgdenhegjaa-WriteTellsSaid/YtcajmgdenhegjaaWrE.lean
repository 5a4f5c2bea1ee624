/- Written bytes: what is gone through; whose a piece is; may it be? -/
import Derived.Test.YtcajmgdenhegjaaWrD
namespace Go.Proofs.Ytcajmgdenhegjaa.Wr
open Go.RowKit Go.Proofs.Ytcajmgdenhegjaa
set_option linter.unusedVariables false

def FitsR (w : World) (l : List Pc) (n : Nat) (i : Value) (wr : World) : Prop :=
  ∃ j : Nat, i = .int .i64 j ∧ j ≤ n ∧ Hid (∀ (s : Nat) (x : Pc), s < j → l[s]? = some x → x.d.length ≤ 300) ∧ Ext w wr
set_option maxRecDepth 100000 in
theorem fits_any (p : Option Addr) (n c : Nat) (l : List Pc) (w : World) (hl : LPc.Row w p n l) :
    Calls Try.prog 10 #[.slice p n c] w fun e w' => (∃ b, e = .returned (.bool b) ∧ (b = true ↔ l.length ≤ 30 ∧ AllR l ∧ ∀ x ∈ l, x.d.length ≤ 300)) ∧ Ext w w' := by
  have HP := Lib.hid hl
  have hn := hl.2.1
  have hlen := hl.1
  by_cases h30 : 30 < n
  · have h30' : (30 : Int) < (n : Int) := by omega
    clear hl
    have hno : Hid (¬ l.length ≤ 30) := Lib.hid (by omega)
    clear hlen
    go_enter Try.func10, Try.ntmps10
    go_wp2
    go_ret
    exact ⟨⟨false, rfl, ⟨fun h => by simp at h, fun h => absurd h.1 hno.out⟩⟩, Ext.refl _⟩
  · have h30' : ¬ (30 : Int) < (n : Int) := by omega
    have hyes : Hid (l.length ≤ 30) := Lib.hid (by omega)
    obtain ⟨B, hB⟩ : ∃ B, allB l = B := ⟨_, rfl⟩
    have HB := Lib.hid hB
    have hr := rall_any p n c l w hl
    rw [hB] at hr
    have HR := Lib.hid hr
    clear hl hlen hB hr
    go_enter Try.func10, Try.ntmps10
    go_wp2_with fail
    refine HR.out.mono ?_
    rintro e w2 ⟨rfl, hx2⟩
    cases B
    · go_wp2
      go_ret
      exact ⟨⟨false, rfl, ⟨fun h => by simp at h, fun h => by have := (allB_iff l).2 h.2.1; rw [HB.out] at this; exact absurd this Bool.false_ne_true⟩⟩, hx2⟩
    · go_wp2
      go_loopw [3] (fun i wr => FitsR w l n i wr) (fun i _ => n - (intOf i).toNat)
      case atStart => exact ⟨0, rfl, by omega, Lib.hid (by intro j x hj; omega), hx2⟩
      case round =>
        obtain ⟨j, rfl, hj, HE, hx⟩ := hrel
        by_cases hlt : j < n
        · have hlt' : (j : Int) < (n : Int) := by omega
          have hlt0 : (0 : Int) ≤ (j : Int) := by omega
          obtain ⟨x, gx⟩ : ∃ x, l[j]? = some x := ⟨_, List.getElem?_eq_getElem (by rw [HP.out.1]; exact hlt)⟩
          obtain ⟨b, off, p1, n1, c1, rfl, x0, x1, x2, tx⟩ := pc_at (HP.out.ext hx) gx
          have GX := Lib.hid gx
          have GL := Lib.hid tx.row.1
          clear tx gx
          by_cases h3 : 300 < n1
          · have h3' : (300 : Int) < (n1 : Int) := by omega
            go_wp2
            go_ret
            exact ⟨⟨false, rfl, ⟨fun h => by simp at h, fun h => by have := h.2.2 x (List.mem_of_getElem? GX.out); rw [GL.out] at this; omega⟩⟩, hx⟩
          · have h3' : ¬ (300 : Int) < (n1 : Int) := by omega
            go_wp2
            go_roundw
            case rel => exact ⟨j + 1, by go_num, by omega, Lib.hid (fun s y hs hy => by
              by_cases e : s = j
              · subst e; rw [GX.out] at hy; cases hy; rw [GL.out]; omega
              · exact HE.out s y (by omega) hy), hx⟩
            case measure => simp [intOf]; omega
        · obtain rfl : j = n := by omega
          go_wp2
          go_ret
          exact ⟨⟨true, rfl, ⟨fun _ => ⟨hyes.out, (allB_iff l).1 HB.out, fun y hy => by
            obtain ⟨s, hs⟩ := List.mem_iff_getElem?.1 hy
            exact HE.out s y (by have := (List.getElem?_eq_some_iff.1 hs).1; rw [HP.out.1] at this; exact this) hs⟩, fun _ => rfl⟩⟩, hx⟩

theorem of_any (m : Int) (x : Pc) (p : Option Addr) (n c : Nat) (w : World) :
    Calls Try.prog 37 #[.int .i64 m, .agg #[.int .i64 x.i, .int .i64 x.f, .slice p n c]] w fun e w' => e = .returned (.bool (x.i == m)) ∧ Ext w w' := by
  obtain ⟨a, f, d⟩ := x
  simp only
  go_enter Try.func37, Try.ntmps37
  go_wp2
  go_ret
  exact ⟨rfl, Ext.alloc _ _⟩

set_option maxHeartbeats 1000000 in
theorem may_any (x : Pc) (p : Option Addr) (n c : Nat) (w : World) (h : TriC w [.int .i64 x.i, .int .i64 x.f, .slice p n c] x.i x.f x.d p n c) :
    Calls Try.prog 34 #[.agg #[.int .i64 x.i, .int .i64 x.f, .slice p n c]] w fun e w' => e = .returned (.bool (rightB x)) ∧ Ext w w' := by
  have X2 : Ext w (w.alloc (.cells #[.int .i64 x.i, .int .i64 x.f, .slice p n c] 30)) := Ext.alloc _ _
  have he := ends_any x p n c (w.alloc (.cells #[.int .i64 x.i, .int .i64 x.f, .slice p n c] 30)) ⟨h.eq, h.wa, h.wb, h.row.ext X2, h.nc, h.cm, h.pl⟩
  have hl := h.row.1
  have hn : n ≤ 9223372036854775807 := h.row.2.1
  have hr : rightB x = (decide (1 ≤ x.i) && decide (0 < n) && endsB x) := by
    unfold rightB endsB; rw [hl, Bool.eq_iff_iff]; simp [and_assoc]
  rw [hr]
  have HE := Lib.hid he
  clear h he hr hl
  generalize endsB x = E at HE ⊢
  obtain ⟨a, f, d⟩ := x
  simp only at HE X2 ⊢
  by_cases h1 : 1 ≤ a
  · by_cases h4 : 0 < n
    · have h4' : (0 : Int) < (n : Int) := by omega
      have e1 : (decide (1 ≤ a) && decide (0 < n) && E) = E := by simp [h1, h4]
      rw [e1]
      clear e1
      go_enter Try.func34, Try.ntmps34
      go_wp2_with fail
      refine HE.out.mono ?_
      rintro e w2 ⟨rfl, hx2⟩
      go_wp2
      go_ret
      exact ⟨rfl, Ext.trans X2 hx2⟩
    · have h4' : ¬ (0 : Int) < (n : Int) := by omega
      have e1 : (decide (1 ≤ a) && decide (0 < n) && E) = false := by simp [h4]
      rw [e1]
      clear e1
      go_enter Try.func34, Try.ntmps34
      go_wp2
      go_ret
      exact ⟨rfl, X2⟩
  · have e1 : (decide (1 ≤ a) && decide (0 < n) && E) = false := by simp [h1]
    rw [e1]
    clear e1
    go_enter Try.func34, Try.ntmps34
    go_wp2
    go_ret
    exact ⟨rfl, X2⟩
end Go.Proofs.Ytcajmgdenhegjaa.Wr
