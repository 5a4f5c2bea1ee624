/- Written bytes: are stored files right? -/
import Derived.Test.YtcajmgdenhegjaaWrTb
namespace Go.Proofs.Ytcajmgdenhegjaa.Wr
open Go.RowKit Go.Proofs.Ytcajmgdenhegjaa
set_option linter.unusedVariables false

def StorR (l : List Sf) : Prop := (∀ x ∈ l, 1 ≤ x.i ∧ 0 ≤ x.e ∧ x.d.length ≤ 4096) ∧ SortedS l
/-- one of them, after the one before it -/
def OneR (l : List Sf) (s : Nat) : Prop := ∀ y, l[s]? = some y → 1 ≤ y.i ∧ 0 ≤ y.e ∧ y.d.length ≤ 4096 ∧ ∀ z, 0 < s → l[s - 1]? = some z → z.i < y.i
theorem stor_of {l : List Sf} (h : ∀ s, s < l.length → OneR l s) : StorR l := by
  constructor
  · intro x hx
    obtain ⟨s, hs⟩ := List.mem_iff_getElem?.1 hx
    obtain ⟨h1, h2, h3, _⟩ := h s (List.getElem?_eq_some_iff.1 hs).1 x hs
    exact ⟨h1, h2, h3⟩
  · unfold SortedS
    rw [List.pairwise_iff_getElem]
    intro a b ha hb hab
    induction b with
    | zero => omega
    | succ b ih =>
      have h1 := (h (b + 1) hb l[b + 1] (List.getElem?_eq_getElem hb)).2.2.2 l[b] (by omega) (List.getElem?_eq_getElem (by omega))
      by_cases e : a = b
      · subst e; exact h1
      · have h2 := ih (by omega) (by omega); omega
theorem stor_one {l : List Sf} (h : StorR l) (s : Nat) : OneR l s := by
  intro y hy
  obtain ⟨h1, h2, h3⟩ := h.1 y (List.mem_of_getElem? hy)
  exact ⟨h1, h2, h3, fun z hs hz => sorted_le h.2 hz hy (by omega)⟩
def RStorR (w : World) (l : List Sf) (n : Nat) (i : Value) (wr : World) : Prop :=
  ∃ j : Nat, i = .int .i64 j ∧ j ≤ n ∧ Hid (∀ s, s < j → OneR l s) ∧ Ext w wr
set_option maxRecDepth 100000 in
set_option maxHeartbeats 8000000 in
theorem rstor_any (p : Option Addr) (n c : Nat) (l : List Sf) (w : World) (hl : LSf.Row w p n l) :
    Calls Try.prog 29 #[.slice p n c] w fun e w' => (∃ b, e = .returned (.bool b) ∧ (b = true ↔ StorR l)) ∧ Ext w w' := by
  have HP := Lib.hid hl
  have hn := hl.2.1
  clear hl
  go_enter Try.func29, Try.ntmps29
  go_wp2
  go_loopw [3] (fun i wr => RStorR w l n i wr) (fun i _ => n - (intOf i).toNat)
  case atStart => exact ⟨0, rfl, by omega, Lib.hid (by intro s hs; omega), Ext.refl _⟩
  case round =>
    obtain ⟨j, rfl, hj, HE, hx⟩ := hrel
    have HX := Lib.hid hx
    by_cases hlt : j < n
    · have hlt' : (j : Int) < (n : Int) := by omega
      have hlt0 : (0 : Int) ≤ (j : Int) := by omega
      obtain ⟨y, gx⟩ : ∃ y, l[j]? = some y := ⟨_, List.getElem?_eq_getElem (by rw [HP.out.1]; exact hlt)⟩
      obtain ⟨b, off, p1, n1, c1, rfl, x0, x1, x2, tx⟩ := sf_at HP.out gx
      have GX := Lib.hid gx
      have HN1 : Hid (y.d.length = n1) := Lib.hid tx.row.1
      have k0 : ∀ g : Gr wr, g.w.cell? ⟨b, off + j * 3, none⟩ = some (.int .i64 y.i) := fun g => g.cell (HX.out.cell x0)
      have k1 : ∀ g : Gr wr, g.w.cell? ⟨b, off + j * 3 + 1, none⟩ = some (.int .i64 y.e) := fun g => g.cell (HX.out.cell x1)
      have k2 : ∀ g : Gr wr, g.w.cell? ⟨b, off + j * 3 + 2, none⟩ = some (.slice p1 n1 c1) := fun g => g.cell (HX.out.cell x2)
      clear gx tx x0 x1 x2 hx
      by_cases h1 : y.i < 1
      · have H1 := Lib.hid h1
        go_wp2
        refine wp_region_grown (Ext.refl wr) (by kernel_rfl) (by kernel_rfl) ?_
        repeat (go_big_quiet_step (fail))
        refine wpQuiet_nil ?_
        intro gw
        have HG := Lib.hid (Ext.trans HX.out gw.h)
        generalize gw.w = w9 at HG ⊢
        clear k0 k1 k2
        go_wp2
        go_ret
        exact ⟨⟨false, rfl, ⟨fun h => (by cases h), fun h => (by have h1 := stor_one h j y GX.out; have h2 := HN1.out; have := H1.out; omega)⟩⟩, HG.out⟩
      · have A1 : Hid (1 ≤ y.i) := Lib.hid (by omega)
        have h1n : ¬ y.i < 1 := by omega
        by_cases h2 : y.e < 0
        · have H2 := Lib.hid h2
          go_wp2
          have hd1 : decide (y.i < 1) = false := decide_eq_false (by have := A1.out; omega)
          refine wp_region_grown (Ext.refl wr) (by kernel_rfl) (by kernel_rfl) ?_
          repeat (go_big_quiet_step (fail))
          refine wpQuiet_nil ?_
          intro gw
          have HG := Lib.hid (Ext.trans HX.out gw.h)
          generalize gw.w = w9 at HG ⊢
          clear k0 k1 k2 hd1
          go_wp2
          go_ret
          exact ⟨⟨false, rfl, ⟨fun h => (by cases h), fun h => (by have h1 := stor_one h j y GX.out; have h2 := HN1.out; have := H2.out; omega)⟩⟩, HG.out⟩
        · have A2 : Hid (0 ≤ y.e) := Lib.hid (by omega)
          have h2n : ¬ y.e < 0 := by omega
          by_cases h3 : (4096 : Int) < (n1 : Int)
          · have H3 := Lib.hid h3
            go_wp2
            have hd1 : decide (y.i < 1) = false := decide_eq_false (by have := A1.out; omega)
            have hd2 : decide (y.e < 0) = false := decide_eq_false (by have := A2.out; omega)
            refine wp_region_grown (Ext.refl wr) (by kernel_rfl) (by kernel_rfl) ?_
            repeat (go_big_quiet_step (fail))
            refine wpQuiet_nil ?_
            intro gw
            have HG := Lib.hid (Ext.trans HX.out gw.h)
            generalize gw.w = w9 at HG ⊢
            clear k0 k1 k2 hd1 hd2
            go_wp2
            go_ret
            exact ⟨⟨false, rfl, ⟨fun h => (by cases h), fun h => (by have h1 := stor_one h j y GX.out; have h2 := HN1.out; have := H3.out; omega)⟩⟩, HG.out⟩
          · have A3 : Hid (n1 ≤ 4096) := Lib.hid (by omega)
            have h3n : ¬ (4096 : Int) < (n1 : Int) := by omega
            cases j with
            | zero =>
              simp only [Nat.zero_mul, Nat.add_zero] at k0 k1 k2
              go_wp2
              have hd1 : decide (y.i < 1) = false := decide_eq_false (by have := A1.out; omega)
              have hd2 : decide (y.e < 0) = false := decide_eq_false (by have := A2.out; omega)
              have hd3 : decide ((4096 : Int) < (n1 : Int)) = false := decide_eq_false (by have := A3.out; omega)
              refine wp_region_grown (Ext.refl wr) (by kernel_rfl) (by kernel_rfl) ?_
              repeat (go_big_quiet_step (fail))
              refine wpQuiet_nil ?_
              intro gw
              have HG := Lib.hid (Ext.trans HX.out gw.h)
              generalize gw.w = w9 at HG ⊢
              clear k0 k1 k2 hd1 hd2 hd3
              go_wp2
              go_roundw
              case rel => exact ⟨0 + 1, by go_num, by omega, Lib.hid (fun s hs => by
                by_cases e : s = 0
                · subst e; intro y2 hy2; rw [GX.out] at hy2; cases hy2; exact ⟨A1.out, A2.out, by have h2 := HN1.out; have h3 := A3.out; omega, fun z hz => absurd hz (by omega)⟩
                · exact HE.out s (by omega)), HG.out⟩
              case measure => simp [intOf]; omega
            | succ k =>
              obtain ⟨z, gz⟩ : ∃ z, l[k]? = some z := ⟨_, List.getElem?_eq_getElem (by rw [HP.out.1]; omega)⟩
              obtain ⟨b2, off2, p2, n2, c2, e2, z0, _, _, _⟩ := sf_at HP.out gz
              obtain ⟨rfl, rfl⟩ : b = b2 ∧ off = off2 := by injection e2 with e2; injection e2 with h1 h2; exact ⟨h1, h2⟩
              have GZ := Lib.hid gz
              have kz : ∀ g : Gr wr, g.w.cell? ⟨b, off + k * 3, none⟩ = some (.int .i64 z.i) := fun g => g.cell (HX.out.cell z0)
              have hk0 : (0 : Int) < (k : Int) + 1 := by omega
              have hk1 : (k : Int) + 1 < (n : Int) := by omega
              have hk2 : (k : Int) < (n : Int) := by omega
              have hk3 : (0 : Int) ≤ (k : Int) := by omega
              have hk4 : (0 : Int) ≤ (k : Int) + 1 := by omega
              have hwr1 : IntKind.i64.wrap ((k : Int) + 1 - 1) = (k : Int) := by rw [IntKind.wrap_i64]; omega
              have hwr2 : IntKind.i64.wrap (k : Int) = (k : Int) := by rw [IntKind.wrap_i64]; omega
              clear gz z0 e2
              by_cases h4 : y.i ≤ z.i
              · have H4 := Lib.hid h4
                go_wp2
                have hd1 : decide (y.i < 1) = false := decide_eq_false (by have := A1.out; omega)
                have hd2 : decide (y.e < 0) = false := decide_eq_false (by have := A2.out; omega)
                have hd3 : decide ((4096 : Int) < (n1 : Int)) = false := decide_eq_false (by have := A3.out; omega)
                refine wp_region_grown (Ext.refl wr) (by kernel_rfl) (by kernel_rfl) ?_
                repeat (go_big_quiet_step (fail))
                refine wpQuiet_nil ?_
                intro gw
                have HG := Lib.hid (Ext.trans HX.out gw.h)
                generalize gw.w = w9 at HG ⊢
                clear k0 k1 k2 kz hd1 hd2 hd3
                go_wp2
                go_ret
                exact ⟨⟨false, rfl, ⟨fun h => (by cases h), fun h => (by have h1 := stor_one h (k + 1) y GX.out; have h2 := HN1.out; have h3 := h1.2.2.2 z (by omega) (by simpa using GZ.out); have := H4.out; omega)⟩⟩, HG.out⟩
              · have H4 : Hid (z.i < y.i) := Lib.hid (by omega)
                have h4n : ¬ y.i ≤ z.i := by omega
                go_wp2
                have hd1 : decide (y.i < 1) = false := decide_eq_false (by have := A1.out; omega)
                have hd2 : decide (y.e < 0) = false := decide_eq_false (by have := A2.out; omega)
                have hd3 : decide ((4096 : Int) < (n1 : Int)) = false := decide_eq_false (by have := A3.out; omega)
                have hd4 : decide (y.i ≤ z.i) = false := decide_eq_false (by have := H4.out; omega)
                refine wp_region_grown (Ext.refl wr) (by kernel_rfl) (by kernel_rfl) ?_
                repeat (go_big_quiet_step (fail))
                refine wpQuiet_nil ?_
                intro gw
                have HG := Lib.hid (Ext.trans HX.out gw.h)
                generalize gw.w = w9 at HG ⊢
                clear k0 k1 k2 kz hd1 hd2 hd3 hd4
                go_wp2
                go_roundw
                case rel => exact ⟨k + 1 + 1, by go_num, by omega, Lib.hid (fun s hs => by
                  by_cases e : s = k + 1
                  · subst e; intro y2 hy2; rw [GX.out] at hy2; cases hy2; exact ⟨A1.out, A2.out, by have h2 := HN1.out; have h3 := A3.out; omega, fun z2 _ hz => (by have hz2 : l[k]? = some z2 := (by simpa using hz); rw [GZ.out] at hz2; cases hz2; exact H4.out)⟩
                  · exact HE.out s (by omega)), HG.out⟩
                case measure => simp [intOf]; omega
    · obtain rfl : j = n := by omega
      go_wp2
      go_ret
      exact ⟨⟨true, rfl, ⟨fun _ => stor_of (by intro s hs; rw [HP.out.1] at hs; exact HE.out s hs), fun _ => rfl⟩⟩, HX.out⟩

def storB (l : List Sf) : Prop := l.length ≤ 30 ∧ StorR l
set_option maxHeartbeats 1000000 in
theorem stor_any (p : Option Addr) (n c : Nat) (l : List Sf) (w : World) (hl : LSf.Row w p n l) :
    Calls Try.prog 20 #[.slice p n c] w fun e w' => (∃ b, e = .returned (.bool b) ∧ (b = true ↔ storB l)) ∧ Ext w w' := by
  have hn := hl.1
  have hn2 := hl.2.1
  have HC := Lib.hid (rstor_any p n c l w hl)
  have HN := Lib.hid hn
  clear hl hn
  by_cases h : n ≤ 30
  · have h' : (n : Int) ≤ 30 := by omega
    have H := Lib.hid h
    go_enter Try.func20, Try.ntmps20
    go_wp2_with fail
    refine HC.out.mono ?_
    rintro e w1 ⟨⟨b, rfl, hb⟩, hx⟩
    have HB := Lib.hid hb
    clear hb
    go_wp2
    go_ret
    exact ⟨⟨_, rfl, ⟨fun h => ⟨by rw [HN.out]; exact H.out, HB.out.1 h⟩, fun h => HB.out.2 h.2⟩⟩, hx⟩
  · have h' : ¬ (n : Int) ≤ 30 := by omega
    have H := Lib.hid h
    go_enter Try.func20, Try.ntmps20
    go_wp2
    go_ret
    exact ⟨.inl ⟨by rfl, fun h => absurd (by rw [← HN.out]; exact h.1) H.out⟩, Ext.refl _⟩
end Go.Proofs.Ytcajmgdenhegjaa.Wr
