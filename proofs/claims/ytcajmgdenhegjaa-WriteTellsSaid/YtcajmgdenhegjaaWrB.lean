/- Written bytes: the reference's comparisons. -/
import Derived.Test.YtcajmgdenhegjaaWrA
import Derived.Test.YtcajmgdenhegjaaRepI
import Derived.Test.YtcajmgdenhegjaaGrow
namespace Go.Proofs.Ytcajmgdenhegjaa.Wr
open Go.RowKit Go.Proofs.Ytcajmgdenhegjaa
set_option linter.unusedVariables false

theorem bytes_eq {xs ys : List Int} (h : xs.length = ys.length) (h2 : ∀ j, j < xs.length → at0 xs j = at0 ys j) : xs = ys := by
  apply List.ext_getElem h
  intro j hj hj2
  have := h2 j hj
  simpa [at0, List.getD_eq_getElem?_getD, hj, hj2] using this
def RBytesR (w2 : World) (l k : List Int) (n : Nat) (i : Value) (wr : World) : Prop :=
  ∃ j : Nat, i = .int .i64 j ∧ j ≤ n ∧ Hid (∀ s, s < j → at0 l s = at0 k s) ∧ Ext w2 wr
set_option maxRecDepth 100000 in
theorem rbytes_any (l k : List Int) (p q : Option Addr) (n c m d : Nat) (w : World) (hl : (Lay.int .u8).Row w p n l) (hk : (Lay.int .u8).Row w q m k) :
    Calls Try.prog 17 #[.slice p n c, .slice q m d] w fun e w' => e = .returned (.bool (decide (l = k))) ∧ Ext w w' := by
  by_cases hnm : n = m
  · subst hnm
    have HP := Lib.hid hl.ints.1
    have HQ := Lib.hid hk.ints.1
    have hn := hl.2.1
    have hb : ((n : Int) != (n : Int)) = false := by simp
    clear hl hk
    go_enter Try.func17, Try.ntmps17
    go_wp2
    go_loopw [5] (fun i wr => RBytesR w l k n i wr) (fun i _ => n - (intOf i).toNat)
    case atStart => exact ⟨0, rfl, by omega, Lib.hid (by intro j hj; omega), Ext.refl _⟩
    case round =>
      obtain ⟨j, rfl, hj, HE, hx⟩ := hrel
      by_cases hlt : j < n
      · obtain ⟨b, off, rfl, hc⟩ := HP.out.2.2 (by omega)
        obtain ⟨b2, off2, rfl, hc2⟩ := HQ.out.2.2 (by omega)
        have hlt' : (j : Int) < (n : Int) := by omega
        have hlt0 : (0 : Int) ≤ (j : Int) := by omega
        have cx := hx.cell (hc j hlt)
        have cy := hx.cell (hc2 j hlt)
        clear hc hc2
        by_cases he : at0 l j = at0 k j
        · have hb : (at0 l j != at0 k j) = false := by simp [he]
          have HE1 := Lib.hid he
          clear he
          go_wp2
          go_quiet (fail)
          go_wp2
          go_roundw
          case rel => exact ⟨j + 1, by go_num, by omega, Lib.hid (fun s hs => by
            by_cases e : s = j
            · subst e; exact HE1.out
            · exact HE.out s (by omega)), Ext.drewN hx _⟩
          case measure => simp [intOf]; omega
        · have hb : (at0 l j != at0 k j) = true := by simp [he]
          have HE1 := Lib.hid he
          clear he
          go_wp2
          go_quiet (fail)
          go_wp2
          go_ret
          exact ⟨ret_bool (decide_eq_false (fun h => HE1.out (by rw [h]))).symm, Ext.drewN hx _⟩
      · obtain rfl : j = n := by omega
        go_wp2
        go_ret
        exact ⟨ret_bool (decide_eq_true (bytes_eq (by rw [HP.out.1, HQ.out.1]) (fun s hs => HE.out s (by rw [HP.out.1] at hs; exact hs)))).symm, hx⟩
  · have hb : ((n : Int) != (m : Int)) = true := by simp; omega
    have hf : decide (l = k) = false := decide_eq_false (fun e => hnm (by rw [← hl.1, ← hk.1, e]))
    rw [hf]
    clear hl hk hf
    go_enter Try.func17, Try.ntmps17
    go_wp2
    go_ret
    exact ⟨rfl, Ext.refl _⟩

def PcSameR (w : World) (l k : List Pc) (n : Nat) (i : Value) (wr : World) : Prop :=
  ∃ j : Nat, i = .int .i64 j ∧ j ≤ n ∧ Hid (∀ s, s < j → l[s]? = k[s]?) ∧ Ext w wr
set_option maxRecDepth 100000 in
set_option maxHeartbeats 1000000 in
theorem rsame_any (p q : Option Addr) (n c m d : Nat) (l k : List Pc) (w : World) (hl : LPc.Row w p n l) (hk : LPc.Row w q m k) :
    Calls Try.prog 14 #[.slice p n c, .slice q m d] w fun e w' => e = .returned (.bool (decide (l = k))) ∧ Ext w w' := by
  have HP := Lib.hid hl
  have HQ := Lib.hid hk
  have hn := hl.2.1
  by_cases hnm : n = m
  · subst hnm
    have hb : ((n : Int) != (n : Int)) = false := by simp
    clear hl hk
    go_enter Try.func14, Try.ntmps14
    go_wp2
    go_loopw [5] (fun i wr => PcSameR w l k n i wr) (fun i _ => n - (intOf i).toNat)
    case atStart => exact ⟨0, rfl, by omega, Lib.hid (by intro j hj; omega), Ext.refl _⟩
    case round =>
      obtain ⟨j, rfl, hj, HE, hx⟩ := hrel
      by_cases hlt : j < n
      · have hlt' : (j : Int) < (n : Int) := by omega
        have hlt0 : (0 : Int) ≤ (j : Int) := by omega
        obtain ⟨x, gx⟩ : ∃ x, l[j]? = some x := ⟨_, List.getElem?_eq_getElem (by rw [HP.out.1]; exact hlt)⟩
        obtain ⟨y, gy⟩ : ∃ y, k[j]? = some y := ⟨_, List.getElem?_eq_getElem (by rw [HQ.out.1]; exact hlt)⟩
        obtain ⟨b, off, p1, n1, c1, rfl, x0, x1, x2, tx⟩ := pc_at (HP.out.ext hx) gx
        obtain ⟨b2, off2, q1, m1, d1, rfl, y0, y1, y2, ty⟩ := pc_at (HQ.out.ext hx) gy
        have hby : Hid (∀ W, Ext wr W → Calls Try.prog 17 #[.slice p1 n1 c1, .slice q1 m1 d1] W fun e w' => e = .returned (.bool (decide (x.d = y.d))) ∧ Ext W w') := Lib.hid (fun W hW => rbytes_any _ _ _ _ _ _ _ _ _ (tx.row.ext hW) (ty.row.ext hW))
        have GX := Lib.hid gx
        have GY := Lib.hid gy
        have HX := Lib.hid hx
        have e0 : ∀ g : Gr wr, g.w.cell? ⟨b, off + j * 3, none⟩ = some (.int .i64 x.i) := fun g => g.cell x0
        have e1 : ∀ g : Gr wr, g.w.cell? ⟨b, off + j * 3 + 1, none⟩ = some (.int .i64 x.f) := fun g => g.cell x1
        have e2 : ∀ g : Gr wr, g.w.cell? ⟨b, off + j * 3 + 2, none⟩ = some (.slice p1 n1 c1) := fun g => g.cell x2
        have f0 : ∀ g : Gr wr, g.w.cell? ⟨b2, off2 + j * 3, none⟩ = some (.int .i64 y.i) := fun g => g.cell y0
        have f1 : ∀ g : Gr wr, g.w.cell? ⟨b2, off2 + j * 3 + 1, none⟩ = some (.int .i64 y.f) := fun g => g.cell y1
        have f2 : ∀ g : Gr wr, g.w.cell? ⟨b2, off2 + j * 3 + 2, none⟩ = some (.slice q1 m1 d1) := fun g => g.cell y2
        clear tx ty gx gy x0 x1 x2 y0 y1 y2 hx
        by_cases h1 : x.i = y.i
        · have hb1 : (x.i != y.i) = false := by simp [h1]
          by_cases h2 : x.f = y.f
          · have hb2 : (x.f != y.f) = false := by simp [h2]
            by_cases h3 : x.d = y.d
            · have hxy : Hid (x = y) := Lib.hid (by cases x; cases y; simp only at h1 h2 h3; rw [h1, h2, h3])
              have hd3 : decide (x.d = y.d) = true := decide_eq_true h3
              rw [hd3] at hby
              clear h1 h2 h3 hd3
              go_wp2
              refine wp_region_grown (Ext.refl wr) (by kernel_rfl) (by kernel_rfl) ?_
              repeat (go_big_quiet_step (first | (go_at_call 17; exact Gr.of (hby.out _ (Gr.h _)))))
              refine wpQuiet_nil ?_
              intro gw
              go_wp2
              go_roundw
              case rel => exact ⟨j + 1, by go_num, by omega, Lib.hid (fun s hs => by
                by_cases e : s = j
                · subst e; rw [GX.out, GY.out, hxy.out]
                · exact HE.out s (by omega)), Ext.trans HX.out gw.h⟩
              case measure => simp [intOf]; omega
            · have hd3 : decide (x.d = y.d) = false := decide_eq_false h3
              rw [hd3] at hby
              have H3 := Lib.hid h3
              clear h1 h2 h3 hd3
              go_wp2
              refine wp_region_grown (Ext.refl wr) (by kernel_rfl) (by kernel_rfl) ?_
              repeat (go_big_quiet_step (first | (go_at_call 17; exact Gr.of (hby.out _ (Gr.h _)))))
              refine wpQuiet_nil ?_
              intro gw
              go_wp2
              go_ret
              exact ⟨ret_bool (decide_eq_false (fun h => H3.out (by have h1 := GX.out; have h2 := GY.out; rw [h, h2] at h1; have h3 := (Option.some.inj h1).symm; rw [h3]))).symm, Ext.trans HX.out gw.h⟩
          · have hb2 : (x.f != y.f) = true := by simp [h2]
            have H3 := Lib.hid h2
            clear h1 h2
            go_wp2
            refine wp_region_grown (Ext.refl wr) (by kernel_rfl) (by kernel_rfl) ?_
            repeat (go_big_quiet_step (first | (go_at_call 17; exact Gr.of (hby.out _ (Gr.h _)))))
            refine wpQuiet_nil ?_
            intro gw
            go_wp2
            go_ret
            exact ⟨ret_bool (decide_eq_false (fun h => H3.out (by have h1 := GX.out; have h2 := GY.out; rw [h, h2] at h1; have h3 := (Option.some.inj h1).symm; rw [h3]))).symm, Ext.trans HX.out gw.h⟩
        · have hb1 : (x.i != y.i) = true := by simp [h1]
          have H3 := Lib.hid h1
          clear h1
          go_wp2
          refine wp_region_grown (Ext.refl wr) (by kernel_rfl) (by kernel_rfl) ?_
          repeat (go_big_quiet_step (first | (go_at_call 17; exact Gr.of (hby.out _ (Gr.h _)))))
          refine wpQuiet_nil ?_
          intro gw
          go_wp2
          go_ret
          exact ⟨ret_bool (decide_eq_false (fun h => H3.out (by have h1 := GX.out; have h2 := GY.out; rw [h, h2] at h1; have h3 := (Option.some.inj h1).symm; rw [h3]))).symm, Ext.trans HX.out gw.h⟩
      · obtain rfl : j = n := by omega
        go_wp2
        go_ret
        exact ⟨ret_bool (decide_eq_true (List.ext_getElem? (fun s => by
          by_cases hs : s < j
          · exact HE.out s hs
          · rw [List.getElem?_eq_none (by rw [HP.out.1]; omega), List.getElem?_eq_none (by rw [HQ.out.1]; omega)]))).symm, hx⟩
  · have hb : ((n : Int) != (m : Int)) = true := by simp; omega
    have hf : decide (l = k) = false := decide_eq_false (fun e => hnm (by rw [← hl.1, ← hk.1, e]))
    rw [hf]
    clear hl hk hf
    go_enter Try.func14, Try.ntmps14
    go_wp2
    go_ret
    exact ⟨rfl, Ext.refl _⟩

def SfSameR (w : World) (l k : List Sf) (n : Nat) (i : Value) (wr : World) : Prop :=
  ∃ j : Nat, i = .int .i64 j ∧ j ≤ n ∧ Hid (∀ s, s < j → l[s]? = k[s]?) ∧ Ext w wr
set_option maxRecDepth 100000 in
set_option maxHeartbeats 1000000 in
theorem rsames_any (p q : Option Addr) (n c m d : Nat) (l k : List Sf) (w : World) (hl : LSf.Row w p n l) (hk : LSf.Row w q m k) :
    Calls Try.prog 23 #[.slice p n c, .slice q m d] w fun e w' => e = .returned (.bool (decide (l = k))) ∧ Ext w w' := by
  have HP := Lib.hid hl
  have HQ := Lib.hid hk
  have hn := hl.2.1
  by_cases hnm : n = m
  · subst hnm
    have hb : ((n : Int) != (n : Int)) = false := by simp
    clear hl hk
    go_enter Try.func23, Try.ntmps23
    go_wp2
    go_loopw [5] (fun i wr => SfSameR w l k n i wr) (fun i _ => n - (intOf i).toNat)
    case atStart => exact ⟨0, rfl, by omega, Lib.hid (by intro j hj; omega), Ext.refl _⟩
    case round =>
      obtain ⟨j, rfl, hj, HE, hx⟩ := hrel
      by_cases hlt : j < n
      · have hlt' : (j : Int) < (n : Int) := by omega
        have hlt0 : (0 : Int) ≤ (j : Int) := by omega
        obtain ⟨x, gx⟩ : ∃ x, l[j]? = some x := ⟨_, List.getElem?_eq_getElem (by rw [HP.out.1]; exact hlt)⟩
        obtain ⟨y, gy⟩ : ∃ y, k[j]? = some y := ⟨_, List.getElem?_eq_getElem (by rw [HQ.out.1]; exact hlt)⟩
        obtain ⟨b, off, p1, n1, c1, rfl, x0, x1, x2, tx⟩ := sf_at (HP.out.ext hx) gx
        obtain ⟨b2, off2, q1, m1, d1, rfl, y0, y1, y2, ty⟩ := sf_at (HQ.out.ext hx) gy
        have hby : Hid (∀ W, Ext wr W → Calls Try.prog 17 #[.slice p1 n1 c1, .slice q1 m1 d1] W fun e w' => e = .returned (.bool (decide (x.d = y.d))) ∧ Ext W w') := Lib.hid (fun W hW => rbytes_any _ _ _ _ _ _ _ _ _ (tx.row.ext hW) (ty.row.ext hW))
        have GX := Lib.hid gx
        have GY := Lib.hid gy
        have HX := Lib.hid hx
        have e0 : ∀ g : Gr wr, g.w.cell? ⟨b, off + j * 3, none⟩ = some (.int .i64 x.i) := fun g => g.cell x0
        have e1 : ∀ g : Gr wr, g.w.cell? ⟨b, off + j * 3 + 1, none⟩ = some (.int .i64 x.e) := fun g => g.cell x1
        have e2 : ∀ g : Gr wr, g.w.cell? ⟨b, off + j * 3 + 2, none⟩ = some (.slice p1 n1 c1) := fun g => g.cell x2
        have f0 : ∀ g : Gr wr, g.w.cell? ⟨b2, off2 + j * 3, none⟩ = some (.int .i64 y.i) := fun g => g.cell y0
        have f1 : ∀ g : Gr wr, g.w.cell? ⟨b2, off2 + j * 3 + 1, none⟩ = some (.int .i64 y.e) := fun g => g.cell y1
        have f2 : ∀ g : Gr wr, g.w.cell? ⟨b2, off2 + j * 3 + 2, none⟩ = some (.slice q1 m1 d1) := fun g => g.cell y2
        clear tx ty gx gy x0 x1 x2 y0 y1 y2 hx
        by_cases h1 : x.i = y.i
        · have hb1 : (x.i != y.i) = false := by simp [h1]
          by_cases h2 : x.e = y.e
          · have hb2 : (x.e != y.e) = false := by simp [h2]
            by_cases h3 : x.d = y.d
            · have hxy : Hid (x = y) := Lib.hid (by cases x; cases y; simp only at h1 h2 h3; rw [h1, h2, h3])
              have hd3 : decide (x.d = y.d) = true := decide_eq_true h3
              rw [hd3] at hby
              clear h1 h2 h3 hd3
              go_wp2
              refine wp_region_grown (Ext.refl wr) (by kernel_rfl) (by kernel_rfl) ?_
              repeat (go_big_quiet_step (first | (go_at_call 17; exact Gr.of (hby.out _ (Gr.h _)))))
              refine wpQuiet_nil ?_
              intro gw
              go_wp2
              go_roundw
              case rel => exact ⟨j + 1, by go_num, by omega, Lib.hid (fun s hs => by
                by_cases e : s = j
                · subst e; rw [GX.out, GY.out, hxy.out]
                · exact HE.out s (by omega)), Ext.trans HX.out gw.h⟩
              case measure => simp [intOf]; omega
            · have hd3 : decide (x.d = y.d) = false := decide_eq_false h3
              rw [hd3] at hby
              have H3 := Lib.hid h3
              clear h1 h2 h3 hd3
              go_wp2
              refine wp_region_grown (Ext.refl wr) (by kernel_rfl) (by kernel_rfl) ?_
              repeat (go_big_quiet_step (first | (go_at_call 17; exact Gr.of (hby.out _ (Gr.h _)))))
              refine wpQuiet_nil ?_
              intro gw
              go_wp2
              go_ret
              exact ⟨ret_bool (decide_eq_false (fun h => H3.out (by have h1 := GX.out; have h2 := GY.out; rw [h, h2] at h1; have h3 := (Option.some.inj h1).symm; rw [h3]))).symm, Ext.trans HX.out gw.h⟩
          · have hb2 : (x.e != y.e) = true := by simp [h2]
            have H3 := Lib.hid h2
            clear h1 h2
            go_wp2
            refine wp_region_grown (Ext.refl wr) (by kernel_rfl) (by kernel_rfl) ?_
            repeat (go_big_quiet_step (first | (go_at_call 17; exact Gr.of (hby.out _ (Gr.h _)))))
            refine wpQuiet_nil ?_
            intro gw
            go_wp2
            go_ret
            exact ⟨ret_bool (decide_eq_false (fun h => H3.out (by have h1 := GX.out; have h2 := GY.out; rw [h, h2] at h1; have h3 := (Option.some.inj h1).symm; rw [h3]))).symm, Ext.trans HX.out gw.h⟩
        · have hb1 : (x.i != y.i) = true := by simp [h1]
          have H3 := Lib.hid h1
          clear h1
          go_wp2
          refine wp_region_grown (Ext.refl wr) (by kernel_rfl) (by kernel_rfl) ?_
          repeat (go_big_quiet_step (first | (go_at_call 17; exact Gr.of (hby.out _ (Gr.h _)))))
          refine wpQuiet_nil ?_
          intro gw
          go_wp2
          go_ret
          exact ⟨ret_bool (decide_eq_false (fun h => H3.out (by have h1 := GX.out; have h2 := GY.out; rw [h, h2] at h1; have h3 := (Option.some.inj h1).symm; rw [h3]))).symm, Ext.trans HX.out gw.h⟩
      · obtain rfl : j = n := by omega
        go_wp2
        go_ret
        exact ⟨ret_bool (decide_eq_true (List.ext_getElem? (fun s => by
          by_cases hs : s < j
          · exact HE.out s hs
          · rw [List.getElem?_eq_none (by rw [HP.out.1]; omega), List.getElem?_eq_none (by rw [HQ.out.1]; omega)]))).symm, hx⟩
  · have hb : ((n : Int) != (m : Int)) = true := by simp; omega
    have hf : decide (l = k) = false := decide_eq_false (fun e => hnm (by rw [← hl.1, ← hk.1, e]))
    rw [hf]
    clear hl hk hf
    go_enter Try.func23, Try.ntmps23
    go_wp2
    go_ret
    exact ⟨rfl, Ext.refl _⟩
end Go.Proofs.Ytcajmgdenhegjaa.Wr
