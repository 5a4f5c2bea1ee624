/- Spans: all calls, over rows as values; sizes; are rows the same; are they in order; few of them. -/
import Derived.Test.YtdpaagingfeoeaaSpanG
namespace Go.Proofs.Ytdpaagingfeoeaa.Sp
open Go.RowKit Go.Proofs.Ytdpaagingfeoeaa
set_option linter.unusedVariables false


theorem add_v (u v : Value) (a b : List Span) (w : World) (hu : LSpan.Sl w u a) (hv : LSpan.Sl w v b) (hn : a.length + b.length ≤ 100000) :
    Calls Try.prog 14 #[u, v] w (RetOf fOr a b w) := by
  obtain ⟨p, n, c, rfl, h1, h2, h3, h4⟩ := hu
  obtain ⟨q, m, d, rfl, k1, k2, k3, k4⟩ := hv
  have HC := Lib.hid (of_any 27 fOr tells_Add (enters_of Try.func27 (by kernel_rfl) rfl) p q n c m d a b w h1 k1 h2 k2 h3 k3 h4 k4 (by rw [← h1.1, ← k1.1]; exact hn))
  clear h1 k1 hn h4 k4
  go_enter Try.func14, Try.ntmps14
  go_wp2_with fail
  (with_reducible refine HC.out.mono ?_)
  rintro e w2 ⟨⟨v, rfl, hown⟩, hi, hx⟩
  have HO := Lib.hid hown
  clear hown
  go_wp2
  go_ret
  exact ⟨⟨_, rfl, HO.out⟩, hi, hx⟩

theorem cut_v (u v : Value) (a b : List Span) (w : World) (hu : LSpan.Sl w u a) (hv : LSpan.Sl w v b) (hn : a.length + b.length ≤ 100000) :
    Calls Try.prog 16 #[u, v] w (RetOf fCut a b w) := by
  obtain ⟨p, n, c, rfl, h1, h2, h3, h4⟩ := hu
  obtain ⟨q, m, d, rfl, k1, k2, k3, k4⟩ := hv
  have HC := Lib.hid (of_any 29 fCut tells_Cut (enters_of Try.func29 (by kernel_rfl) rfl) p q n c m d a b w h1 k1 h2 k2 h3 k3 h4 k4 (by rw [← h1.1, ← k1.1]; exact hn))
  clear h1 k1 hn h4 k4
  go_enter Try.func16, Try.ntmps16
  go_wp2_with fail
  (with_reducible refine HC.out.mono ?_)
  rintro e w2 ⟨⟨v, rfl, hown⟩, hi, hx⟩
  have HO := Lib.hid hown
  clear hown
  go_wp2
  go_ret
  exact ⟨⟨_, rfl, HO.out⟩, hi, hx⟩

theorem meet_v (u v : Value) (a b : List Span) (w : World) (hu : LSpan.Sl w u a) (hv : LSpan.Sl w v b) (hn : a.length + b.length ≤ 100000) :
    Calls Try.prog 18 #[u, v] w (RetOf fAnd a b w) := by
  obtain ⟨p, n, c, rfl, h1, h2, h3, h4⟩ := hu
  obtain ⟨q, m, d, rfl, k1, k2, k3, k4⟩ := hv
  have HC := Lib.hid (of_any 30 fAnd tells_Meet (enters_of Try.func30 (by kernel_rfl) rfl) p q n c m d a b w h1 k1 h2 k2 h3 k3 h4 k4 (by rw [← h1.1, ← k1.1]; exact hn))
  clear h1 k1 hn h4 k4
  go_enter Try.func18, Try.ntmps18
  go_wp2_with fail
  (with_reducible refine HC.out.mono ?_)
  rintro e w2 ⟨⟨v, rfl, hown⟩, hi, hx⟩
  have HO := Lib.hid hown
  clear hown
  go_wp2
  go_ret
  exact ⟨⟨_, rfl, HO.out⟩, hi, hx⟩

theorem norm_v (u : Value) (a : List Span) (w : World) (hu : LSpan.Sl w u a) (hn : a.length ≤ 100000) :
    Calls Try.prog 12 #[u] w (RetOf fOr a [] w) := by
  have HC := Lib.hid (add_v u (.slice none 0 0) a [] w hu (Lay.Sl.nil _ _) (by simpa using hn))
  clear hu hn
  go_enter Try.func12, Try.ntmps12
  go_wp2_with fail
  (with_reducible refine HC.out.mono ?_)
  rintro e w2 ⟨⟨v, rfl, hown⟩, hi, hx⟩
  have HO := Lib.hid hown
  clear hown
  go_wp2
  go_ret
  exact ⟨⟨_, rfl, HO.out⟩, hi, hx⟩

theorem radd_v (u v : Value) (a b : List Span) (w : World) (hu : LSpan.Sl w u a) (hv : LSpan.Sl w v b) (hn : a.length + b.length ≤ 100000) :
    Calls Try.prog 15 #[u, v] w (RetOf fOr a b w) := by
  obtain ⟨p, n, c, rfl, h1, h2, h3, h4⟩ := hu
  obtain ⟨q, m, d, rfl, k1, k2, k3, k4⟩ := hv
  have HC := Lib.hid (rof1_any p q n c m d a b w h1 k1 h2 k2 h4 k4 (by rw [← h1.1, ← k1.1]; exact hn))
  clear h1 k1 hn h4 k4
  go_enter Try.func15, Try.ntmps15
  go_wp2_with fail
  (with_reducible refine HC.out.mono ?_)
  rintro e w2 ⟨⟨v, rfl, hown⟩, hi, hx⟩
  have HO := Lib.hid hown
  clear hown
  go_wp2
  go_ret
  exact ⟨⟨_, rfl, HO.out⟩, hi, hx⟩

theorem rcut_v (u v : Value) (a b : List Span) (w : World) (hu : LSpan.Sl w u a) (hv : LSpan.Sl w v b) (hn : a.length + b.length ≤ 100000) :
    Calls Try.prog 17 #[u, v] w (RetOf fCut a b w) := by
  obtain ⟨p, n, c, rfl, h1, h2, h3, h4⟩ := hu
  obtain ⟨q, m, d, rfl, k1, k2, k3, k4⟩ := hv
  have HC := Lib.hid (rof2_any p q n c m d a b w h1 k1 h2 k2 h4 k4 (by rw [← h1.1, ← k1.1]; exact hn))
  clear h1 k1 hn h4 k4
  go_enter Try.func17, Try.ntmps17
  go_wp2_with fail
  (with_reducible refine HC.out.mono ?_)
  rintro e w2 ⟨⟨v, rfl, hown⟩, hi, hx⟩
  have HO := Lib.hid hown
  clear hown
  go_wp2
  go_ret
  exact ⟨⟨_, rfl, HO.out⟩, hi, hx⟩

theorem rmeet_v (u v : Value) (a b : List Span) (w : World) (hu : LSpan.Sl w u a) (hv : LSpan.Sl w v b) (hn : a.length + b.length ≤ 100000) :
    Calls Try.prog 19 #[u, v] w (RetOf fAnd a b w) := by
  obtain ⟨p, n, c, rfl, h1, h2, h3, h4⟩ := hu
  obtain ⟨q, m, d, rfl, k1, k2, k3, k4⟩ := hv
  have HC := Lib.hid (rof3_any p q n c m d a b w h1 k1 h2 k2 h4 k4 (by rw [← h1.1, ← k1.1]; exact hn))
  clear h1 k1 hn h4 k4
  go_enter Try.func19, Try.ntmps19
  go_wp2_with fail
  (with_reducible refine HC.out.mono ?_)
  rintro e w2 ⟨⟨v, rfl, hown⟩, hi, hx⟩
  have HO := Lib.hid hown
  clear hown
  go_wp2
  go_ret
  exact ⟨⟨_, rfl, HO.out⟩, hi, hx⟩

theorem rnorm_v (u : Value) (a : List Span) (w : World) (hu : LSpan.Sl w u a) (hn : a.length ≤ 100000) :
    Calls Try.prog 13 #[u] w (RetOf fOr a [] w) := by
  obtain ⟨p, n, c, rfl, h1, h2, h3, h4⟩ := hu
  have HC := Lib.hid (rof1_any p none n c 0 0 a [] w h1 (Lay.Row.nil _ _ _) h2 (by omega) h4 (fun h => by omega) (by rw [← h1.1]; simpa using hn))
  clear h1 hn h4
  go_enter Try.func13, Try.ntmps13
  go_wp2_with fail
  (with_reducible refine HC.out.mono ?_)
  rintro e w2 ⟨⟨v, rfl, hown⟩, hi, hx⟩
  have HO := Lib.hid hown
  clear hown
  go_wp2
  go_ret
  exact ⟨⟨_, rfl, HO.out⟩, hi, hx⟩

theorem has_v (u : Value) (l : List Span) (t : Int) (w : World) (hl : LSpan.Sl w u l) :
    Calls Try.prog 20 #[u, .int .i64 t] w fun e w' => e = .returned (.bool (hasB l t)) ∧ Ext w w' := by
  obtain ⟨p, n, c, rfl, h1, h2, h3, h4⟩ := hl
  exact has_any p n c l t w h1
theorem rhas_v (u : Value) (l : List Span) (t : Int) (w : World) (hl : LSpan.Sl w u l) :
    Calls Try.prog 21 #[u, .int .i64 t] w fun e w' => e = .returned (.bool (hasB l t)) ∧ Ext w w' := by
  obtain ⟨p, n, c, rfl, h1, h2, h3, h4⟩ := hl
  exact (rhas_any p n c l t w h1).mono fun e w' ⟨he, hw⟩ => ⟨he, hw ▸ Ext.refl _⟩

def SizR (l : List Span) (w1 : World) (n : Nat) (s i : Value) (wr : World) : Prop := ∃ k : Nat, i = .int .i64 k ∧ k ≤ n ∧ s = .int .i64 (sizeL (l.take k)) ∧ Ext w1 wr
def RetSiz (a : List Span) (w : World) (e : Ending) (w' : World) : Prop := e = .returned (.int .i64 (sizeL (ofL fOr a []))) ∧ Hid (IsOf fOr a [] (ofL fOr a [])) ∧ Ext w w'
theorem RetSiz.mk {a l : List Span} {w w' : World} {e : Ending} (h : ofL fOr a [] = l) (he : e = .returned (.int .i64 (sizeL l))) (hi : Hid (IsOf fOr a [] l)) (hx : Ext w w') : RetSiz a w e w' := by subst h; exact ⟨he, hi, hx⟩
theorem take_snoc {l : List Span} {k : Nat} {s : Span} (h : l[k]? = some s) : l.take (k + 1) = l.take k ++ [s] := by rw [List.take_add_one, h]; rfl

set_option maxRecDepth 100000 in
set_option maxHeartbeats 4000000 in
theorem size_v (u : Value) (a : List Span) (w : World) (hu : LSpan.Sl w u a) (hn : a.length ≤ 100000) :
    Calls Try.prog 22 #[u] w (RetSiz a w) := by
  have HC := Lib.hid (norm_v u a w hu hn)
  clear hu hn
  go_enter Try.func22, Try.ntmps22
  go_wp2_with fail
  (with_reducible refine HC.out.mono ?_)
  rintro e w1 ⟨⟨v, rfl, hown⟩, HI, hx⟩
  obtain ⟨l, hl⟩ : ∃ l, ofL fOr a [] = l := ⟨_, rfl⟩
  rw [hl] at HI hown
  have HLL := Lib.hid hl
  obtain ⟨n, hn⟩ : ∃ n, l.length = n := ⟨_, rfl⟩
  obtain ⟨p, c, hv, hr, hnc, hc, hpl⟩ := hown.opened
  rw [hn] at hv hr hnc
  subst hv
  have HR := Lib.hid hr
  have HN := Lib.hid hn
  have HX := Lib.hid hx
  have hn63 := hr.2.1
  clear hn hl hr hown hpl hx
  go_wp2
  go_loopw [3, 9] (fun s i wr => SizR l w1 n s i wr) (fun _ i _ => n - (intOf i).toNat)
  case atStart => exact ⟨0, rfl, by omega, rfl, Ext.refl _⟩
  case round =>
    obtain ⟨k, rfl, hk, rfl, hxr⟩ := hrel
    obtain ⟨b1, b2⟩ := sizeL_take_le HI.out.ord k (by decide)
    by_cases hlt : k < n
    · obtain ⟨s, gs⟩ := get_of l k (by rw [HN.out]; exact hlt)
      obtain ⟨b, off, rfl, c0, c1, _, _⟩ := span_at (HR.out.ext hxr) gs
      obtain ⟨f, t⟩ := s
      simp only at c0 c1
      have HM := HI.out.ord.mem (f, t) (List.mem_of_getElem? gs)
      simp only at HM
      obtain ⟨m1, m2, m3⟩ := HM
      have HT : Hid (sizeL (l.take (k + 1)) = sizeL (l.take k) + (t - f)) := Lib.hid (by rw [take_snoc gs, sizeL_snoc])
      obtain ⟨q1, q2⟩ := sizeL_take_le HI.out.ord (k + 1) (by decide)
      rw [HT.out] at q1 q2
      have hlt' : (k : Int) < (n : Int) := by omega
      have hlt0 : (0 : Int) ≤ (k : Int) := by omega
      clear gs
      generalize sizeL (l.take k) = S at b1 b2 HT q1 q2 ⊢
      go_wp2
      go_roundw
      case rel => exact ⟨k + 1, by go_num, by omega, by rw [HT.out], Ext.trans hxr (Ext.alloc _ _)⟩
      case measure => simp [intOf]; omega
    · obtain rfl : k = n := by omega
      have e0 : l.take k = l := List.take_of_length_le (by rw [HN.out]; omega)
      rw [e0] at b1 b2 ⊢
      clear e0
      go_wp2
      go_ret
      exact RetSiz.mk HLL.out rfl HI (Ext.trans HX.out hxr)

set_option maxRecDepth 100000 in
set_option maxHeartbeats 4000000 in
theorem rsize_v (u : Value) (a : List Span) (w : World) (hu : LSpan.Sl w u a) (hn : a.length ≤ 100000) :
    Calls Try.prog 23 #[u] w (RetSiz a w) := by
  have HC := Lib.hid (rnorm_v u a w hu hn)
  clear hu hn
  go_enter Try.func23, Try.ntmps23
  go_wp2_with fail
  (with_reducible refine HC.out.mono ?_)
  rintro e w1 ⟨⟨v, rfl, hown⟩, HI, hx⟩
  obtain ⟨l, hl⟩ : ∃ l, ofL fOr a [] = l := ⟨_, rfl⟩
  rw [hl] at HI hown
  have HLL := Lib.hid hl
  obtain ⟨n, hn⟩ : ∃ n, l.length = n := ⟨_, rfl⟩
  obtain ⟨p, c, hv, hr, hnc, hc, hpl⟩ := hown.opened
  rw [hn] at hv hr hnc
  subst hv
  have HR := Lib.hid hr
  have HN := Lib.hid hn
  have HX := Lib.hid hx
  have hn63 := hr.2.1
  clear hn hl hr hown hpl hx
  go_wp2
  go_loopw [3, 5] (fun s i wr => SizR l w1 n s i wr) (fun _ i _ => n - (intOf i).toNat)
  case atStart => exact ⟨0, rfl, by omega, rfl, Ext.refl _⟩
  case round =>
    obtain ⟨k, rfl, hk, rfl, hxr⟩ := hrel
    obtain ⟨b1, b2⟩ := sizeL_take_le HI.out.ord k (by decide)
    by_cases hlt : k < n
    · obtain ⟨s, gs⟩ := get_of l k (by rw [HN.out]; exact hlt)
      obtain ⟨b, off, rfl, c0, c1, _, _⟩ := span_at (HR.out.ext hxr) gs
      obtain ⟨f, t⟩ := s
      simp only at c0 c1
      have HM := HI.out.ord.mem (f, t) (List.mem_of_getElem? gs)
      simp only at HM
      obtain ⟨m1, m2, m3⟩ := HM
      have HT : Hid (sizeL (l.take (k + 1)) = sizeL (l.take k) + (t - f)) := Lib.hid (by rw [take_snoc gs, sizeL_snoc])
      obtain ⟨q1, q2⟩ := sizeL_take_le HI.out.ord (k + 1) (by decide)
      rw [HT.out] at q1 q2
      have hlt' : (k : Int) < (n : Int) := by omega
      have hlt0 : (0 : Int) ≤ (k : Int) := by omega
      clear gs
      generalize sizeL (l.take k) = S at b1 b2 HT q1 q2 ⊢
      have HW1 := Lib.hid (IntWalk.i64_in (S + t) (by omega))
      have HW2 := Lib.hid (IntWalk.i64_in (S + t - f) (by omega))
      go_wp2
      have hw1 : IntKind.i64.wrap (S + t) = S + t := HW1.out
      have hw2 : IntKind.i64.wrap (S + t - f) = S + t - f := HW2.out
      go_quiet (fail)
      clear hw1 hw2
      go_wp2
      go_roundw
      case rel => exact ⟨k + 1, by go_num, by omega, by rw [HT.out]; congr 1; omega, Ext.drewN hxr _⟩
      case measure => simp [intOf]; omega
    · obtain rfl : k = n := by omega
      have e0 : l.take k = l := List.take_of_length_le (by rw [HN.out]; omega)
      rw [e0] at b1 b2 ⊢
      clear e0
      go_wp2
      go_ret
      exact RetSiz.mk HLL.out rfl HI (Ext.trans HX.out hxr)

/-! ### are two rows the same -/
theorem span_get_eq {xs ys : List Span} (h : xs.length = ys.length) (h2 : ∀ j, j < xs.length → xs[j]? = ys[j]?) : xs = ys := by
  apply List.ext_getElem?
  intro j
  by_cases hj : j < xs.length
  · exact h2 j hj
  · rw [List.getElem?_eq_none (by omega), List.getElem?_eq_none (by omega)]
def SameR (w : World) (l k : List Span) (n : Nat) (i : Value) (wr : World) : Prop := ∃ j : Nat, i = .int .i64 j ∧ j ≤ n ∧ Hid (∀ s, s < j → l[s]? = k[s]?) ∧ Ext w wr

set_option maxRecDepth 100000 in
set_option maxHeartbeats 4000000 in
theorem same_v (u v : Value) (l k : List Span) (w : World) (hu : LSpan.Sl w u l) (hv : LSpan.Sl w v k) :
    Calls Try.prog 11 #[u, v] w fun e w' => e = .returned (.bool (decide (l = k))) ∧ Ext w w' := by
  obtain ⟨p, n, c, rfl, hl, _, _, _⟩ := hu
  obtain ⟨q, m, d, rfl, hk, _, _, _⟩ := hv
  have HP := Lib.hid hl
  have HQ := Lib.hid hk
  have hn := hl.2.1
  by_cases hnm : n = m
  · subst hnm
    have hb : ((n : Int) != (n : Int)) = false := by simp
    clear hl hk
    go_enter Try.func11, Try.ntmps11
    go_wp2
    go_loopw [5] (fun i wr => SameR w l k n i wr) (fun i _ => n - (intOf i).toNat)
    case atStart => exact ⟨0, rfl, by omega, Lib.hid (by intro j hj; omega), Ext.refl _⟩
    case round =>
      obtain ⟨j, rfl, hj, HE, hx⟩ := hrel
      by_cases hlt : j < n
      · have hlt' : (j : Int) < (n : Int) := by omega
        have hlt0 : (0 : Int) ≤ (j : Int) := by omega
        obtain ⟨x, gx⟩ := get_of l j (by rw [HP.out.1]; exact hlt)
        obtain ⟨y, gy⟩ := get_of k j (by rw [HQ.out.1]; exact hlt)
        obtain ⟨b, off, rfl, x0, x1, _, _⟩ := span_at (HP.out.ext hx) gx
        obtain ⟨b2, off2, rfl, y0, y1, _, _⟩ := span_at (HQ.out.ext hx) gy
        obtain ⟨f, t⟩ := x
        obtain ⟨f2, t2⟩ := y
        simp only at x0 x1 y0 y1
        have GX := Lib.hid gx
        have GY := Lib.hid gy
        clear gx gy
        by_cases h1 : f = f2
        · have e1 : (f == f2) = true := by simp [h1]
          have H1 := Lib.hid h1
          clear h1
          by_cases h2 : t = t2
          · have e2 : (t == t2) = true := by simp [h2]
            have H2 := Lib.hid h2
            clear h2
            go_wp2
            go_quiet (fail)
            go_wp2
            go_roundw
            case rel => exact ⟨j + 1, by go_num, by omega, Lib.hid (fun s hs => by
              by_cases e : s = j
              · subst e; rw [GX.out, GY.out, H1.out, H2.out]
              · exact HE.out s (by omega)), Ext.drewN hx _⟩
            case measure => simp [intOf]; omega
          · have e2 : (t == t2) = false := by simp [h2]
            have H2 := Lib.hid h2
            clear h2
            go_wp2
            go_quiet (fail)
            go_wp2
            go_ret
            exact ⟨ret_bool (decide_eq_false (fun h => H2.out (by have := GX.out; rw [h, GY.out] at this; simp at this; exact this.2.symm))).symm, Ext.drewN hx _⟩
        · have e1 : (f == f2) = false := by simp [h1]
          have H1 := Lib.hid h1
          clear h1
          go_wp2
          go_quiet (fail)
          go_wp2
          go_ret
          exact ⟨ret_bool (decide_eq_false (fun h => H1.out (by have := GX.out; rw [h, GY.out] at this; simp at this; exact this.1.symm))).symm, Ext.drewN hx _⟩
      · obtain rfl : j = n := by omega
        go_wp2
        go_ret
        exact ⟨ret_bool (decide_eq_true (span_get_eq (by rw [HP.out.1, HQ.out.1]) (fun s hs => HE.out s (by rw [HP.out.1] at hs; exact hs)))).symm, hx⟩
  · have hb : ((n : Int) != (m : Int)) = true := by simp; omega
    have hf : decide (l = k) = false := decide_eq_false (fun e => hnm (by rw [← hl.1, ← hk.1, e]))
    rw [hf]
    clear hl hk hf
    go_enter Try.func11, Try.ntmps11
    go_wp2
    go_ret
    exact ⟨rfl, Ext.refl _⟩

/-! ### what is in order -/
theorem ordered_get {l : List Span} (h : Ordered l) {i : Nat} {s r : Span} (hs : l[i]? = some s) (hr : l[i + 1]? = some r) : s.2 < r.1 := by
  have : ∀ {l : List Span} {lo : Int} {i : Nat} {s r : Span}, Ord lo l → l[i]? = some s → l[i + 1]? = some r → s.2 < r.1 := by
    intro l
    induction l with
    | nil => intro lo i s r h hs; simp at hs
    | cons x l ih =>
      intro lo i s r h hs hr
      cases i with
      | zero =>
        have hr : l[0]? = some r := hr
        have hs : some x = some s := hs
        injection hs with hs
        subst hs
        exact (h.2.2.2.mem r (List.mem_of_getElem? hr)).1
      | succ i => exact ih h.2.2.2 (by simpa using hs) (by simpa using hr)
  exact this h hs hr
def OrdR (w : World) (n : Nat) (i : Value) (wr : World) : Prop := ∃ j : Nat, i = .int .i64 j ∧ j ≤ n ∧ Ext w wr

set_option maxRecDepth 100000 in
set_option maxHeartbeats 4000000 in
theorem ordered_v (u : Value) (l : List Span) (w : World) (hu : LSpan.Sl w u l) (hl : Ordered l) :
    Calls Try.prog 25 #[u] w fun e w' => e = .returned (.bool true) ∧ Ext w w' := by
  obtain ⟨p, n, c, rfl, hr, _, _, _⟩ := hu
  have HP := Lib.hid hr
  have HO := Lib.hid hl
  have hn := hr.2.1
  clear hr hl
  go_enter Try.func25, Try.ntmps25
  go_wp2
  go_loopw [3] (fun i wr => OrdR w n i wr) (fun i _ => n - (intOf i).toNat)
  case atStart => exact ⟨0, rfl, by omega, Ext.refl _⟩
  case round =>
    obtain ⟨j, rfl, hj, hx⟩ := hrel
    by_cases hlt : j < n
    · have hlt' : (j : Int) < (n : Int) := by omega
      have hlt0 : (0 : Int) ≤ (j : Int) := by omega
      obtain ⟨s, gs⟩ := get_of l j (by rw [HP.out.1]; exact hlt)
      obtain ⟨b, off, rfl, x0, x1, _, _⟩ := span_at (HP.out.ext hx) gs
      obtain ⟨f, t⟩ := s
      have HM := HO.out.mem (f, t) (List.mem_of_getElem? gs)
      simp only at x0 x1 HM
      obtain ⟨m1, m2, m3⟩ := HM
      have d1 : decide (f < 0) = false := decide_eq_false (by omega)
      have d2 : decide (1099511627776 < t) = false := decide_eq_false (by omega)
      have d3 : decide (t ≤ f) = false := decide_eq_false (by omega)
      cases j with
      | zero =>
        clear gs
        simp only [Nat.zero_mul, Nat.add_zero] at x0 x1
        go_wp2
        go_quiet (fail)
        go_wp2
        go_roundw
        case rel => exact ⟨1, by go_num, by omega, Ext.drewN hx _⟩
        case measure => simp [intOf]; omega
      | succ j =>
        obtain ⟨r, gr⟩ := get_of l j (by rw [HP.out.1]; omega)
        obtain ⟨b', off', hbo, _, y1, _, _⟩ := span_at (HP.out.ext hx) gr
        simp only [Option.some.injEq, Addr.mk.injEq, and_true] at hbo
        obtain ⟨rfl, rfl⟩ := hbo
        have h5 := ordered_get HO.out gr gs
        obtain ⟨f0, t0⟩ := r
        simp only at y1 h5
        have d4 : decide (f ≤ t0) = false := decide_eq_false (by omega)
        have d5 : decide ((0 : Int) < (j : Int) + 1) = true := decide_eq_true (by omega)
        have z1 : (0 : Int) ≤ (j : Int) := by omega
        have z2 : (j : Int) < (n : Int) := by omega
        clear gs gr
        go_wp2
        go_quiet (fail)
        go_wp2
        go_roundw
        case rel => exact ⟨j + 1 + 1, by go_num, by omega, Ext.drewN hx _⟩
        case measure => simp [intOf]; omega
    · obtain rfl : j = n := by omega
      go_wp2
      go_ret
      exact ⟨rfl, hx⟩

theorem span_size : (Try.prog.info? 33).map (·.size) = some LSpan.size := by kernel_rfl
def RetFew (l : List Span) (w : World) (e : Ending) (w' : World) : Prop := (∃ v, e = .returned v ∧ LSpan.Own w' w.heap.size 33 v (l.take 40)) ∧ Ext w w'

set_option maxRecDepth 100000 in
set_option maxHeartbeats 4000000 in
theorem few_v (u : Value) (l : List Span) (w : World) (hu : LSpan.Sl w u l) :
    Calls Try.prog 10 #[u] w (RetFew l w) := by
  obtain ⟨i0, hi0, hzi0, hzi1, hzi2⟩ := info_parts info_span
  obtain ⟨p, n, c, rfl, hr, hnc, hc, hpl⟩ := hu
  have HP := Lib.hid hr
  have HPL := Lib.hid hpl
  have hn := hr.2.1
  have HL : Hid (l.length = n) := Lib.hid hr.1
  obtain ⟨k, hk⟩ : ∃ k : Nat, k = min n 40 := ⟨_, rfl⟩
  have hkm : min (n : Int) 40 = (k : Int) := by omega
  have hk1 : k ≤ n := by omega
  have hk2 : k ≤ 40 := by omega
  have HTK : Hid (l.take k = l.take 40) := Lib.hid (by
    by_cases h : n ≤ 40
    · rw [List.take_of_length_le (by rw [hr.1]; omega), List.take_of_length_le (by rw [hr.1]; omega)]
    · rw [show k = 40 by omega])
  have slt : ∀ w, (Instr.slice 22 (.slice p n c) none (some (.int .i64 (k : Int))) none).run Try.prog w = .ok (.slice p k c) w := fun w => run_cut_to Try.underlying22 span_size _ _ _ _ _ rfl (by omega) HPL.out w
  have HO0 : Hid (LSpan.Own (w.alloc (.cells #[] 33)) w.heap.size 33 (.slice (some ⟨w.heap.size, 0, none⟩) 0 0) []) := Lib.hid (Lay.Own.made (E := LSpan) _ #[] 0 _ _ (Nat.le_refl _) (by decide) rfl)
  clear hr hpl hk
  go_enter Try.func10, Try.ntmps10
  go_wp2_with (at_builtin; refine Lay.wpList_append (E := LSpan) rfl (.tmp 3) (.tmp 8) 22 rfl w.heap.size 33 i0 (.agg #[.int .i64 0, .int .i64 0]) 16 Try.underlying22 hi0 hzi0 hzi1 hzi2 rfl _ ([]) rfl (HO0.out) (p) k c (l.take k) rfl HPL.out (Nat.le_trans hk1 hnc) (plain_span.row ((HP.out.ext (Ext.alloc _ _)).pre k hk1)) (by unfold maxLen; simp; omega) (by simp; omega) (by simp) ?_; intro v2 w2 hown2 hg2; have X1 := HO0.out.below (w0 := w) (Ext.alloc _ _) (Nat.le_refl _) hg2; rw [List.nil_append, HTK.out] at hown2; have HO1 := Lib.hid hown2; clear hown2 hg2)
  go_ret
  exact ⟨⟨_, rfl, HO1.out⟩, X1⟩
end Go.Proofs.Ytdpaagingfeoeaa.Sp
