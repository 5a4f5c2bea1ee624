/- Logs: Same, of both. -/
import Derived.Test.YtppckbhbgohbiaaLogC
namespace Go.Proofs.Ytppckbhbgohbiaa.Lg
open Go.RowKit Go.Proofs.Ytppckbhbgohbiaa
set_option linter.unusedVariables false

theorem list_get_eq {α : Type} {xs ys : List α} (h : xs.length = ys.length) (h2 : ∀ j, j < xs.length → xs[j]? = ys[j]?) : xs = ys := by
  apply List.ext_getElem? 
  intro j
  by_cases hj : j < xs.length
  · exact h2 j hj
  · rw [List.getElem?_eq_none (by omega), List.getElem?_eq_none (by omega)]

def SameR {α : Type} (w : World) (l k : List α) (n : Nat) (i : Value) (wr : World) : Prop :=
  ∃ j : Nat, i = .int .i64 j ∧ j ≤ n ∧ Hid (∀ s, s < j → l[s]? = k[s]?) ∧ Ext w wr

set_option maxRecDepth 100000 in
set_option maxHeartbeats 600000 in
theorem eqFunc_any (p q : Option Addr) (n c m d : Nat) (l k : List Ent) (w : World) (hl : LEnt.Row w p n l) (hk : LEnt.Row w q m k) :
    Calls Try.prog 32 #[.slice p n c, .slice q m d, .func (.func 27) #[] #[]] w fun e w' => e = .returned (.bool (decide (l = k))) ∧ Ext w w' := by
  have HP := Lib.hid hl
  have HQ := Lib.hid hk
  have hn := hl.2.1
  by_cases hnm : n = m
  · subst hnm
    have hb : ((n : Int) != (n : Int)) = false := by simp
    clear hl hk
    go_enter Try.func32, Try.ntmps32
    go_wp2
    go_loopw [17] (fun i wr => SameR w l k n i wr) (fun i _ => n - (intOf i).toNat)
    case atStart => exact ⟨0, rfl, by omega, Lib.hid (by intro j hj; omega), Ext.refl _⟩
    case round =>
      obtain ⟨j, rfl, hj, HE, hx⟩ := hrel
      by_cases hlt : j < n
      · have hlt' : (j : Int) < (n : Int) := by omega
        have hlt0 : (0 : Int) ≤ (j : Int) := by omega
        have gx := ent_get (l := l) (j := j) (by rw [HP.out.1]; exact hlt)
        have gy := ent_get (l := k) (j := j) (by rw [HQ.out.1]; exact hlt)
        generalize l.getD j (0, []) = x at gx
        generalize k.getD j (0, []) = y at gy
        obtain ⟨b, off, p1, n1, c1, rfl, x0, x1, _, rx, _⟩ := ent_at (HP.out.ext hx) gx
        obtain ⟨b2, off2, q1, m1, d1, rfl, y0, y1, _, ry, _⟩ := ent_at (HQ.out.ext hx) gy
        have y0' : ∀ o, (wr.alloc o).cell? ⟨b2, off2 + j * 2, none⟩ = some (.int .i64 y.1) := fun o => (Ext.alloc wr o).cell y0
        have y1' : ∀ o, (wr.alloc o).cell? ⟨b2, off2 + j * 2 + 1, none⟩ = some (.slice q1 m1 d1) := fun o => (Ext.alloc wr o).cell y1
        have HX := Lib.hid rx
        have HY := Lib.hid ry
        have GX := Lib.hid gx
        have GY := Lib.hid gy
        clear rx ry gx gy
        obtain ⟨B, hB⟩ : ∃ B, decide (x = y) = B := ⟨_, rfl⟩
        have HB := Lib.hid hB
        clear hB
        go_wp2_with fail
        refine (alike_any x y _ _ _ _ _ _ _ (HX.out.ext ?_) (HY.out.ext ?_)).mono ?_
        · (unfold Ext; repeat (first | exact Below.refl _ _ | assumption | refine Below.drew ?_ | refine below_drewN ?_ _ | refine Below.alloc ?_ (by first | exact Nat.le_refl _ | (simp; done) | (simp; omega) | omega) _ | refine Below.setCell ?_ (by first | exact Nat.le_refl _ | (simp; done) | (simp; omega) | omega) _))
        · (unfold Ext; repeat (first | exact Below.refl _ _ | assumption | refine Below.drew ?_ | refine below_drewN ?_ _ | refine Below.alloc ?_ (by first | exact Nat.le_refl _ | (simp; done) | (simp; omega) | omega) _ | refine Below.setCell ?_ (by first | exact Nat.le_refl _ | (simp; done) | (simp; omega) | omega) _))
        rintro e w2 ⟨rfl, hx2⟩
        rw [HB.out]
        replace hx := Ext.trans hx (Ext.trans (Ext.trans (Ext.alloc _ _) (Ext.alloc _ _)) hx2)
        clear hx2
        cases B
        · go_wp2
          go_ret
          exact ⟨ret_bool (decide_eq_false (fun h => of_decide_eq_false HB.out (by have h1 := GX.out; have h2 := GY.out; rw [h, h2] at h1; simpa using h1.symm))).symm, hx⟩
        · go_wp2
          go_roundw
          case rel => exact ⟨j + 1, by go_num, by omega, Lib.hid (fun s hs => by
            by_cases e : s = j
            · subst e; rw [GX.out, GY.out, of_decide_eq_true HB.out]
            · exact HE.out s (by omega)), hx⟩
          case measure => simp [intOf]; omega
      · obtain rfl : j = n := by omega
        go_wp2
        go_ret
        exact ⟨ret_bool (decide_eq_true (list_get_eq (by rw [HP.out.1, HQ.out.1]) (fun s hs => HE.out s (by rw [HP.out.1] at hs; exact hs)))).symm, hx⟩
  · have hb : ((n : Int) != (m : Int)) = true := by simp; omega
    have hf : decide (l = k) = false := decide_eq_false (fun e => hnm (by rw [← hl.1, ← hk.1, e]))
    rw [hf]
    clear hl hk hf
    go_enter Try.func32, Try.ntmps32
    go_wp2
    go_ret
    exact ⟨rfl, Ext.refl _⟩

theorem same_any (p q : Option Addr) (n c m d : Nat) (l k : List Ent) (w : World) (hl : LEnt.Row w p n l) (hk : LEnt.Row w q m k) :
    Calls Try.prog 21 #[.slice p n c, .slice q m d] w fun e w' => e = .returned (.bool (decide (l = k))) ∧ Ext w w' := by
  have HC := Lib.hid (eqFunc_any p q n c m d l k w hl hk)
  clear hl hk
  generalize decide (l = k) = B at HC ⊢
  go_enter Try.func21, Try.ntmps21
  go_wp2_with fail
  refine HC.out.mono ?_
  rintro e w2 ⟨rfl, hx⟩
  go_wp2
  go_ret
  exact ⟨rfl, hx⟩

set_option maxRecDepth 100000 in
set_option maxHeartbeats 600000 in
theorem rsame_any (p q : Option Addr) (n c m d : Nat) (l k : List Ent) (w : World) (hl : LEnt.Row w p n l) (hk : LEnt.Row w q m k) :
    Calls Try.prog 16 #[.slice p n c, .slice q m d] w fun e w' => e = .returned (.bool (decide (l = k))) ∧ Ext w w' := by
  have HP := Lib.hid hl
  have HQ := Lib.hid hk
  have hn := hl.2.1
  by_cases hnm : n = m
  · subst hnm
    have hb : ((n : Int) != (n : Int)) = false := by simp
    clear hl hk
    go_enter Try.func16, Try.ntmps16
    go_wp2
    go_loopw [5] (fun i wr => SameR w l k n i wr) (fun i _ => n - (intOf i).toNat)
    case atStart => exact ⟨0, rfl, by omega, Lib.hid (by intro j hj; omega), Ext.refl _⟩
    case round =>
      obtain ⟨j, rfl, hj, HE, hx⟩ := hrel
      by_cases hlt : j < n
      · have hlt' : (j : Int) < (n : Int) := by omega
        have hlt0 : (0 : Int) ≤ (j : Int) := by omega
        have gx := ent_get (l := l) (j := j) (by rw [HP.out.1]; exact hlt)
        have gy := ent_get (l := k) (j := j) (by rw [HQ.out.1]; exact hlt)
        generalize l.getD j (0, []) = x at gx
        generalize k.getD j (0, []) = y at gy
        obtain ⟨b, off, p1, n1, c1, rfl, x0, x1, _, rx, _⟩ := ent_at (HP.out.ext hx) gx
        obtain ⟨b2, off2, q1, m1, d1, rfl, y0, y1, _, ry, _⟩ := ent_at (HQ.out.ext hx) gy
        have HX := Lib.hid rx
        have HY := Lib.hid ry
        have GX := Lib.hid gx
        have GY := Lib.hid gy
        have HS : Hid (∀ w', Ext wr w' → w'.cell? ⟨b, off + j * 2, none⟩ = some (.int .i64 x.1) ∧ w'.cell? ⟨b, off + j * 2 + 1, none⟩ = some (.slice p1 n1 c1) ∧ w'.cell? ⟨b2, off2 + j * 2, none⟩ = some (.int .i64 y.1) ∧ w'.cell? ⟨b2, off2 + j * 2 + 1, none⟩ = some (.slice q1 m1 d1)) := Lib.hid fun w' h => ⟨h.cell x0, h.cell x1, h.cell y0, h.cell y1⟩
        have hxx : Ext wr wr.drew := Ext.drew (Ext.refl _)
        clear rx ry gx gy
        obtain ⟨B, hB⟩ : ∃ B, decide (x = y) = B := ⟨_, rfl⟩
        have HB := Lib.hid hB
        clear hB
        go_wp2
        go_region_held3 (fun w' => w'.cell? ⟨b, off + j * 2, none⟩ = some (.int .i64 x.1) ∧ w'.cell? ⟨b, off + j * 2 + 1, none⟩ = some (.slice p1 n1 c1) ∧ w'.cell? ⟨b2, off2 + j * 2, none⟩ = some (.int .i64 y.1) ∧ w'.cell? ⟨b2, off2 + j * 2 + 1, none⟩ = some (.slice q1 m1 d1)) (exact HS.out _ hxx) ((go_at_call 28; refine (ralike_any x y _ _ _ _ _ _ _ (HX.out.ext hxx) (HY.out.ext hxx)).mono ?_; rintro e w2 ⟨rfl, hx2⟩; rw [HB.out]; replace hxx := Ext.trans hxx hx2; clear hx2))
        replace hx := Ext.trans hx hxx
        clear hxx
        cases B
        · go_wp2
          go_ret
          exact ⟨ret_bool (decide_eq_false (fun h => of_decide_eq_false HB.out (by have h1 := GX.out; have h2 := GY.out; rw [h, h2] at h1; simpa using h1.symm))).symm, hx⟩
        · go_wp2
          go_roundw
          case rel => exact ⟨j + 1, by go_num, by omega, Lib.hid (fun s hs => by
            by_cases e : s = j
            · subst e; rw [GX.out, GY.out, of_decide_eq_true HB.out]
            · exact HE.out s (by omega)), hx⟩
          case measure => simp [intOf]; omega
      · obtain rfl : j = n := by omega
        go_wp2
        go_ret
        exact ⟨ret_bool (decide_eq_true (list_get_eq (by rw [HP.out.1, HQ.out.1]) (fun s hs => HE.out s (by rw [HP.out.1] at hs; exact hs)))).symm, hx⟩
  · have hb : ((n : Int) != (m : Int)) = true := by simp; omega
    have hf : decide (l = k) = false := decide_eq_false (fun e => hnm (by rw [← hl.1, ← hk.1, e]))
    rw [hf]
    clear hl hk hf
    go_enter Try.func16, Try.ntmps16
    go_wp2
    go_ret
    exact ⟨rfl, Ext.refl _⟩
end Go.Proofs.Ytppckbhbgohbiaa.Lg
