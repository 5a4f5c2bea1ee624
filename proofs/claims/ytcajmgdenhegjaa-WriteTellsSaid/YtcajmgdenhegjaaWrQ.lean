/- Written bytes: copies of rows; where a stored file stands. -/
import Derived.Test.YtcajmgdenhegjaaWrP
namespace Go.Proofs.Ytcajmgdenhegjaa.Wr
open Go.RowKit Go.Proofs.Ytcajmgdenhegjaa
set_option linter.unusedVariables false

theorem info_sf : (Try.prog.info? 51).map (fun i => (i.zero, i.size, i.bytes)) = some (some (.agg #[.int .i64 0, .int .i64 0, .slice none 0 0]), LSf.size, 40) := by kernel_rfl
/-- the three-way order of two numbers -/
def cmpI (x y : Int) : Int := if x < y then -1 else if y < x then 1 else 0
theorem isnan_any (x : Int) (w : World) : Calls Try.prog 50 #[.int .i64 x] w fun e w' => e = .returned (.bool false) ∧ w = w' := by
  have h : (x != x) = false := by simp
  go_enter Try.func50, Try.ntmps50
  go_wp2
  go_ret
  exact ⟨rfl, rfl⟩
theorem cmpi_any (x y : Int) (w : World) : Calls Try.prog 48 #[.int .i64 x, .int .i64 y] w fun e w' => e = .returned (.int .i64 (cmpI x y)) ∧ w = w' := by
  by_cases h1 : x < y
  · have e : cmpI x y = -1 := by unfold cmpI; rw [if_pos h1]
    rw [e]
    clear e
    go_enter Try.func48, Try.ntmps48
    go_wp2_with (go_at_call 50; refine (isnan_any _ _).mono ?_; rintro e w' ⟨rfl, rfl⟩)
    go_ret
    exact ⟨rfl, rfl⟩
  · by_cases h2 : y < x
    · have e : cmpI x y = 1 := by unfold cmpI; rw [if_neg h1, if_pos h2]
      rw [e]
      clear e
      go_enter Try.func48, Try.ntmps48
      go_wp2_with (go_at_call 50; refine (isnan_any _ _).mono ?_; rintro e w' ⟨rfl, rfl⟩)
      go_ret
      exact ⟨rfl, rfl⟩
    · have e : cmpI x y = 0 := by unfold cmpI; rw [if_neg h1, if_neg h2]
      rw [e]
      clear e
      go_enter Try.func48, Try.ntmps48
      go_wp2_with (go_at_call 50; refine (isnan_any _ _).mono ?_; rintro e w' ⟨rfl, rfl⟩)
      go_ret
      exact ⟨rfl, rfl⟩
theorem scmp_any (x : Sf) (m : Int) (s : Value) (w : World) (hs : ∃ p n c, s = .slice p n c) : Calls Try.prog 47 #[.agg #[.int .i64 x.i, .int .i64 x.e, s], .int .i64 m] w fun e w' => e = .returned (.int .i64 (cmpI x.i m)) ∧ Ext w w' := by
  obtain ⟨p, n, c, rfl⟩ := hs
  go_enter Try.func47, Try.ntmps47
  go_wp2_with fail
  refine (cmpi_any _ _ _).mono ?_
  rintro e w2 ⟨rfl, rfl⟩
  go_wp2
  go_ret
  exact ⟨rfl, Ext.alloc _ _⟩
set_option maxRecDepth 100000 in
set_option maxHeartbeats 4000000 in
theorem cloneP_v (u : Value) (l : List Pc) (w : World) (hu : LPc.Sl w u l) (hn : l.length ≤ 100000) : Calls Try.prog 35 #[u] w fun e w' => (∃ v, e = .returned v ∧ LPc.Own w' w.heap.size 30 v l) ∧ Ext w w' := by
  obtain ⟨i0, hi0, hzi0, hzi1, hzi2⟩ := info_parts info_pc
  obtain ⟨p, n, c, rfl, hl, hnc, hcm, hpl⟩ := hu
  have HP := Lib.hid hl
  have HPL := Lib.hid hpl
  have HN : Hid (n ≤ 100000) := Lib.hid (by rw [← hl.1]; exact hn)
  clear hpl hn
  have hnil := fun (a : Option Addr) (n c : Nat) (w : World) => Lib.run_eql_slice_nil (P := Try.prog) w 22 30 a n c 0 0 Try.underlying22
  cases p with
  | none =>
    have h0 : c = 0 := by
      by_cases h : 0 < c
      · obtain ⟨b, off, e⟩ := HPL.out h; cases e
      · omega
    have hn0 : n = 0 := by omega
    obtain rfl : l = [] := List.eq_nil_of_length_eq_zero (by rw [hl.1, hn0])
    clear hl
    subst h0
    subst hn0
    go_enter Try.func35, Try.ntmps35
    go_wp2
    go_ret
    exact ⟨⟨_, rfl, Lay.Own.nil _ _ _ _⟩, Ext.refl _⟩
  | some a =>
    clear hl
    have HL0 : Hid (LPc.Own (w.alloc (.cells #[] 30)) w.heap.size 30 (.slice (some ⟨w.heap.size, 0, none⟩) 0 0) []) := Lib.hid (Lay.Own.made w #[] 0 w.heap.size 30 (Nat.le_refl _) (by decide) rfl)
    go_enter Try.func35, Try.ntmps35
    go_wp2_with (at_builtin; refine Lay.wpList_append (E := LPc) rfl (.tmp 5) (.tmp 6) 22 rfl w.heap.size 30 i0 (.agg #[.int .i64 0, .int .i64 0, .slice none 0 0]) 40 Try.underlying22 hi0 hzi0 hzi1 hzi2 rfl _ ([]) rfl HL0.out (some a) n c l rfl HPL.out (by omega) (HP.out.keep (Ext.alloc _ _) (by intro k hk; cases hk; exact Nat.le_refl _)) (by have := HN.out; unfold maxLen; simp; omega) (by have := HN.out; simp; omega) (by simp) ?_; intro v2 w3 hown2 hg2)
    have X3 := Lib.hid (HL0.out.below (Ext.alloc _ _) (Nat.le_refl _) hg2)
    have HO := Lib.hid hown2
    clear hown2 hg2
    go_wp2
    go_ret
    exact ⟨⟨_, rfl, HO.out⟩, X3.out⟩
set_option maxRecDepth 100000 in
set_option maxHeartbeats 4000000 in
theorem cloneS_v (u : Value) (l : List Sf) (w : World) (hu : LSf.Sl w u l) (hn : l.length ≤ 100000) : Calls Try.prog 45 #[u] w fun e w' => (∃ v, e = .returned v ∧ LSf.Own w' w.heap.size 51 v l) ∧ Ext w w' := by
  obtain ⟨i0, hi0, hzi0, hzi1, hzi2⟩ := info_parts info_sf
  obtain ⟨p, n, c, rfl, hl, hnc, hcm, hpl⟩ := hu
  have HP := Lib.hid hl
  have HPL := Lib.hid hpl
  have HN : Hid (n ≤ 100000) := Lib.hid (by rw [← hl.1]; exact hn)
  clear hpl hn
  have hnil := fun (a : Option Addr) (n c : Nat) (w : World) => Lib.run_eql_slice_nil (P := Try.prog) w 38 51 a n c 0 0 Try.underlying38
  cases p with
  | none =>
    have h0 : c = 0 := by
      by_cases h : 0 < c
      · obtain ⟨b, off, e⟩ := HPL.out h; cases e
      · omega
    have hn0 : n = 0 := by omega
    obtain rfl : l = [] := List.eq_nil_of_length_eq_zero (by rw [hl.1, hn0])
    clear hl
    subst h0
    subst hn0
    go_enter Try.func45, Try.ntmps45
    go_wp2
    go_ret
    exact ⟨⟨_, rfl, Lay.Own.nil _ _ _ _⟩, Ext.refl _⟩
  | some a =>
    clear hl
    have HL0 : Hid (LSf.Own (w.alloc (.cells #[] 51)) w.heap.size 51 (.slice (some ⟨w.heap.size, 0, none⟩) 0 0) []) := Lib.hid (Lay.Own.made w #[] 0 w.heap.size 51 (Nat.le_refl _) (by decide) rfl)
    go_enter Try.func45, Try.ntmps45
    go_wp2_with (at_builtin; refine Lay.wpList_append (E := LSf) rfl (.tmp 5) (.tmp 6) 38 rfl w.heap.size 51 i0 (.agg #[.int .i64 0, .int .i64 0, .slice none 0 0]) 40 Try.underlying38 hi0 hzi0 hzi1 hzi2 rfl _ ([]) rfl HL0.out (some a) n c l rfl HPL.out (by omega) (HP.out.keep (Ext.alloc _ _) (by intro k hk; cases hk; exact Nat.le_refl _)) (by have := HN.out; unfold maxLen; simp; omega) (by have := HN.out; simp; omega) (by simp) ?_; intro v2 w3 hown2 hg2)
    have X3 := Lib.hid (HL0.out.below (Ext.alloc _ _) (Nat.le_refl _) hg2)
    have HO := Lib.hid hown2
    clear hown2 hg2
    go_wp2
    go_ret
    exact ⟨⟨_, rfl, HO.out⟩, X3.out⟩

/-! ### where a number stands in a row that rises -/
theorem at_eq {l : List Sf} {m : Int} {i : Nat} (hi : i ≤ l.length) (h1 : ∀ k x, k < i → l[k]? = some x → x.i < m) (h2 : ∀ x, l[i]? = some x → m ≤ x.i) : atS l m = i := by
  unfold atS
  induction l generalizing i with
  | nil => simp at hi; simp [hi]
  | cons y l ih =>
    cases i with
    | zero =>
      have := h2 y rfl
      rw [List.takeWhile_cons, if_neg (by simp; omega)]; rfl
    | succ i =>
      have := h1 0 y (by omega) rfl
      rw [List.takeWhile_cons, if_pos (by simpa using this)]
      have := ih (i := i) (by simpa using hi) (fun k x hk hx => h1 (k + 1) x (by omega) (by simpa using hx)) (fun x hx => h2 x (by simpa using hx))
      simp [this]
theorem had_eq {l : List Sf} (hs : SortedS l) {m : Int} {i : Nat} (h1 : ∀ k x, k < i → l[k]? = some x → x.i < m) (h2 : ∀ x, l[i]? = some x → m ≤ x.i) : hadS l m = decide (∃ x, l[i]? = some x ∧ x.i = m) := by
  unfold hadS
  apply decide_eq_decide.2
  constructor
  · rintro ⟨x, hx, e⟩
    obtain ⟨k, hk, rfl⟩ := List.mem_iff_getElem.1 hx
    have hk' : l[k]? = some l[k] := List.getElem?_eq_getElem hk
    by_cases h : k < i
    · have := h1 k _ h hk'; omega
    · by_cases he : k = i
      · subst he; exact ⟨_, hk', e⟩
      · have hil : i < l.length := by omega
        have h3 := h2 l[i] (List.getElem?_eq_getElem hil)
        have h4 := (List.pairwise_iff_getElem.1 hs) i k hil hk (by omega)
        omega
  · rintro ⟨x, hx, e⟩
    exact ⟨x, List.mem_of_getElem? hx, e⟩
theorem sorted_le {l : List Sf} (hs : SortedS l) {i k : Nat} {x y : Sf} (hx : l[i]? = some x) (hy : l[k]? = some y) (h : i < k) : x.i < y.i := by
  obtain ⟨hi, rfl⟩ := List.getElem?_eq_some_iff.1 hx
  obtain ⟨hk, rfl⟩ := List.getElem?_eq_some_iff.1 hy
  exact (List.pairwise_iff_getElem.1 hs) i k hi hk h
def RBin (w0 : World) (l : List Sf) (m : Int) (n : Nat) (a b : Value) (wr : World) : Prop :=
  ∃ i j : Nat, a = .int .i64 i ∧ b = .int .i64 j ∧ i ≤ j ∧ j ≤ n ∧ Ext w0 wr ∧ (∀ k x, k < i → l[k]? = some x → x.i < m) ∧ (∀ k x, j ≤ k → l[k]? = some x → m ≤ x.i)
set_option maxRecDepth 100000 in
set_option maxHeartbeats 4000000 in
theorem bin_v (p : Option Addr) (n c : Nat) (l : List Sf) (m : Int) (w : World) (hl : LSf.Row w p n l) (hs : SortedS l) (hb : n ≤ 100000) :
    Calls Try.prog 46 #[.slice p n c, .int .i64 m, .func (.func 47) #[] #[]] w fun e w' => e = .returned (.tuple #[.int .i64 (atS l m), .bool (hadS l m)]) ∧ Ext w w' := by
  have HP := Lib.hid hl
  have HS := Lib.hid hs
  have HB := Lib.hid hb
  clear hl hs
  go_enter Try.func46, Try.ntmps46
  go_wp2
  go_loopw [9, 10] (fun a b wr => RBin w l m n a b wr) (fun a b _ => (intOf b).toNat - (intOf a).toNat)
  case atStart => exact ⟨0, n, rfl, rfl, by omega, by omega, Ext.refl _, by omega, fun k x hk hx => by have := (List.getElem?_eq_some_iff.1 hx).1; rw [HP.out.1] at this; omega⟩
  case round =>
    obtain ⟨i, j, rfl, rfl, hij, hjn, hx, h1, h2⟩ := hrel
    have HX := Lib.hid hx
    have H1 := Lib.hid h1
    have H2 := Lib.hid h2
    clear h1 h2
    by_cases hlt : i < j
    · have hlt' : (i : Int) < (j : Int) := by omega
      obtain ⟨h, hh⟩ : ∃ h, (i + j) / 2 = h := ⟨_, rfl⟩
      have hih : i ≤ h := by omega
      have hhj : h < j := by omega
      have hh2 : ((i : Int) + (j : Int)) / 2 = (h : Int) := by omega
      have hh0 : (0 : Int) ≤ (h : Int) := by omega
      have hhn : (h : Int) < (n : Int) := by omega
      obtain ⟨x, gx⟩ : ∃ x, l[h]? = some x := ⟨_, List.getElem?_eq_getElem (by rw [HP.out.1]; omega)⟩
      obtain ⟨b, off, p1, n1, c1, rfl, x0, x1, x2, tx⟩ := sf_at HP.out gx
      replace x0 := hx.cell x0
      replace x1 := hx.cell x1
      replace x2 := hx.cell x2
      have GX := Lib.hid gx
      have HIH := Lib.hid hih
      clear hh gx tx hx
      by_cases hc : x.i < m
      · have hcmp := fun W => scmp_any x m (.slice p1 n1 c1) W ⟨_, _, _, rfl⟩
        have e : cmpI x.i m = -1 := by unfold cmpI; rw [if_pos hc]
        rw [e] at hcmp
        have HC := Lib.hid hcmp
        have HCC := Lib.hid hc
        clear hcmp e hc
        go_wp2_with fail
        refine (HC.out _).mono ?_
        rintro e w2 ⟨rfl, hx2⟩
        have HX2 := Lib.hid (Ext.trans HX.out hx2)
        clear hx2 HC x0 x1 x2
        go_wp2
        go_roundw
        case rel => exact ⟨h + 1, j, by go_num, rfl, by omega, hjn, HX2.out, fun k y hk hy => by
          by_cases he : k = h
          · subst he; rw [GX.out] at hy; cases hy; exact HCC.out
          · have := sorted_le HS.out hy GX.out (by omega); have := HCC.out; omega, H2.out⟩
        case measure => simp [intOf]; omega
      · have hcmp := fun W => scmp_any x m (.slice p1 n1 c1) W ⟨_, _, _, rfl⟩
        obtain ⟨q, hq⟩ : ∃ q, cmpI x.i m = q := ⟨_, rfl⟩
        have hq0 : ¬ q < 0 := by rw [← hq]; unfold cmpI; rw [if_neg hc]; split <;> omega
        rw [hq] at hcmp
        have HC := Lib.hid hcmp
        have HCC := Lib.hid hc
        clear hcmp hq hc
        go_wp2_with fail
        refine (HC.out _).mono ?_
        rintro e w2 ⟨rfl, hx2⟩
        have HX2 := Lib.hid (Ext.trans HX.out hx2)
        clear hx2 HC x0 x1 x2
        go_wp2
        go_roundw
        case rel => exact ⟨i, h, rfl, rfl, by omega, by omega, HX2.out, H1.out, fun k y hk hy => by
          by_cases he : k = h
          · subst he; rw [GX.out] at hy; cases hy; have := HCC.out; omega
          · have := sorted_le HS.out GX.out hy (by omega); have := HCC.out; omega⟩
        case measure => simp [intOf]; omega
    · obtain rfl : i = j := by omega
      have hat : atS l m = i := at_eq (by rw [HP.out.1]; exact hjn) H1.out (fun x hx => H2.out i x (Nat.le_refl _) hx)
      have hhd := had_eq HS.out (m := m) (i := i) H1.out (fun x hx => H2.out i x (Nat.le_refl _) hx)
      have HAT := Lib.hid hat
      by_cases hin : i < n
      · have hin' : (i : Int) < (n : Int) := by omega
        have hi0 : (0 : Int) ≤ (i : Int) := by omega
        obtain ⟨x, gx⟩ : ∃ x, l[i]? = some x := ⟨_, List.getElem?_eq_getElem (by rw [HP.out.1]; omega)⟩
        obtain ⟨b, off, p1, n1, c1, rfl, x0, x1, x2, tx⟩ := sf_at HP.out gx
        replace x0 := hx.cell x0
        replace x1 := hx.cell x1
        replace x2 := hx.cell x2
        have hcmp := fun W => scmp_any x m (.slice p1 n1 c1) W ⟨_, _, _, rfl⟩
        by_cases hc : x.i = m
        · have e : cmpI x.i m = 0 := by unfold cmpI; rw [if_neg (by omega), if_neg (by omega)]
          rw [e] at hcmp
          have HHD : Hid (hadS l m = true) := Lib.hid (by rw [hhd]; exact decide_eq_true ⟨x, gx, hc⟩)
          have HC := Lib.hid hcmp
          clear hcmp e hc gx tx hx hat hhd
          go_wp2_with fail
          refine (HC.out _).mono ?_
          rintro e w2 ⟨rfl, hx2⟩
          have HX2 := Lib.hid (Ext.trans HX.out hx2)
          clear hx2 HC x0 x1 x2
          go_wp2
          go_ret2
          exact ⟨by rw [HAT.out, HHD.out]; rfl, HX2.out⟩
        · obtain ⟨q, hq⟩ : ∃ q, cmpI x.i m = q := ⟨_, rfl⟩
          have hq0 : ¬ q = 0 := by rw [← hq]; unfold cmpI; split <;> (try split) <;> omega
          have hqb : (q == 0) = false := beq_eq_false_iff_ne.2 hq0
          rw [hq] at hcmp
          have HHD : Hid (hadS l m = false) := Lib.hid (by rw [hhd]; exact decide_eq_false (by rintro ⟨y, hy, e⟩; rw [gx] at hy; cases hy; exact hc e))
          have HC := Lib.hid hcmp
          clear hcmp hq hc gx tx hx hat hhd
          go_wp2_with fail
          refine (HC.out _).mono ?_
          rintro e w2 ⟨rfl, hx2⟩
          have HX2 := Lib.hid (Ext.trans HX.out hx2)
          clear hx2 HC x0 x1 x2
          go_wp2
          go_ret2
          exact ⟨by rw [HAT.out, HHD.out]; rfl, HX2.out⟩
      · have hin' : ¬ (i : Int) < (n : Int) := by omega
        have HHD : Hid (hadS l m = false) := Lib.hid (by rw [hhd]; exact decide_eq_false (by rintro ⟨y, hy, e⟩; have := (List.getElem?_eq_some_iff.1 hy).1; rw [HP.out.1] at this; omega))
        clear hx hat hhd
        go_wp2
        go_ret2
        exact ⟨by rw [HAT.out, HHD.out]; rfl, HX.out⟩
end Go.Proofs.Ytcajmgdenhegjaa.Wr
