/- Leases: Ask (the reference). -/
import Derived.Test.YtocnopgpdlfkjaaLeQ
import Derived.Test.YtocnopgpdlfkjaaClockR0
import Derived.Test.YtocnopgpdlfkjaaOwn2
import Derived.OwnWalk
namespace Go.Proofs.Ytocnopgpdlfkjaa.Ls
open Go.RowKit Go.Proofs.Ytocnopgpdlfkjaa Go.Sort
set_option linter.unusedVariables false

def RaR (w : World) (L : List Le) (q : Le) (n : Nat) (v i : Value) (wr : World) : Prop := ∃ j : Nat, i = .int .i64 j ∧ j ≤ n ∧ LLe.Own wr w.heap.size 26 v (othersL (L.take j) q) ∧ Ext w wr
set_option maxRecDepth 100000 in
set_option maxHeartbeats 4000000 in
theorem rask_v (u : Value) (l : List Le) (now : Int) (q : Le) (many : Int) (w : World) (hu : LLe.Sl w u l) (hn : l.length ≤ 1000) (hw : LeWf q) (hnow : 0 ≤ now ∧ now ≤ 1000000000000000) (hone : ∀ x ∈ l, oneB x = true) : Calls Try.prog 14 #[u, .int .i64 now, .agg #[.int .i64 q.c, .int .i64 q.i, .int .i64 q.k, .int .i64 q.f, .int .i64 q.t, .int .i64 q.u, .int .i64 q.e], .int .i64 many] w (RetAsk l now q many w) := by
  obtain ⟨i0, hi0, hzi0, hzi1, hzi2⟩ := info_parts info_le
  have HU := Lib.hid hu
  have HN := Lib.hid hn
  have HW := Lib.hid hw
  have HNOW := Lib.hid hnow
  have HONE := Lib.hid hone
  obtain ⟨o, ho⟩ : ∃ o, oneB (q0 q) = o := ⟨_, rfl⟩
  have HO1 := Lib.hid ho
  obtain ⟨p, n, c, rfl, _⟩ := hu
  clear hn hw hnow ho hone
  cases o
  · go_enter Try.func14, Try.ntmps14
    go_wp2_with fail
    refine (rone_any (q0 q) _).mono ?_
    rintro e w1 ⟨rfl, hx1⟩
    rw [HO1.out]
    have HX := Lib.hid (Ext.trans (Ext.alloc _ _) hx1)
    clear hx1
    go_wp2
    go_ret3
    exact ask_bad (by unfold badA; rw [HO1.out]; rfl) HU.out HX.out
  by_cases hm1 : many < 1
  · have dm1 : decide (many < 1) = true := decide_eq_true hm1
    have HM := Lib.hid hm1
    clear hm1
    go_enter Try.func14, Try.ntmps14
    go_wp2_with fail
    refine (rone_any (q0 q) _).mono ?_
    rintro e w1 ⟨rfl, hx1⟩
    rw [HO1.out]
    have HX := Lib.hid (Ext.trans (Ext.alloc _ _) hx1)
    clear hx1
    go_wp2
    go_ret3
    exact ask_bad (by unfold badA; rw [HO1.out, decide_eq_false (fun h => absurd h.1 (by have := HM.out; omega))]; rfl) HU.out HX.out
  have dm1 : decide (many < 1) = false := decide_eq_false hm1
  by_cases hm2 : 64 < many
  · have dm2 : decide (64 < many) = true := decide_eq_true hm2
    have HM := Lib.hid hm2
    clear hm1 hm2
    go_enter Try.func14, Try.ntmps14
    go_wp2_with fail
    refine (rone_any (q0 q) _).mono ?_
    rintro e w1 ⟨rfl, hx1⟩
    rw [HO1.out]
    have HX := Lib.hid (Ext.trans (Ext.alloc _ _) hx1)
    clear hx1
    go_wp2
    go_ret3
    exact ask_bad (by unfold badA; rw [HO1.out, decide_eq_false (fun h => absurd h.2 (by have := HM.out; omega))]; rfl) HU.out HX.out
  have dm2 : decide (64 < many) = false := decide_eq_false hm2
  have HB : Hid (badA q many = false) := Lib.hid (by unfold badA; rw [HO1.out, decide_eq_true ⟨by omega, by omega⟩]; rfl)
  have HMANY : Hid (1 ≤ many ∧ many ≤ 64) := Lib.hid ⟨by omega, by omega⟩
  clear hm1 hm2
  go_enter Try.func14, Try.ntmps14
  go_wp2_with fail
  refine (rone_any (q0 q) _).mono ?_
  rintro e w1 ⟨rfl, hx1⟩
  rw [HO1.out]
  obtain ⟨b0, b1, b2, b3, b4, b5, b6⟩ := box_cells w w1 (q0 q) _ hx1
  have HHB1 := Lib.hid (heap_ext (heap_alloc_new _ _) hx1)
  have HX1 := Lib.hid (Ext.trans (Ext.alloc _ _) hx1)
  have HZ : Hid (w.heap.size < w1.heap.size) := Lib.hid (World.block_lt_of_cell? w1 _ b0)
  clear hx1
  have HC := Lib.hid (rover_v _ l now w1 (HU.out.ext HX1.out) (by have := HN.out; omega))
  go_wp2_with fail
  refine HC.out.mono ?_
  rintro e w2 ⟨⟨v, rfl, hown⟩, hx⟩
  change LLe.Own w2 w1.heap.size 26 v (overL l now) at hown
  obtain ⟨L, hL⟩ : ∃ L, overL l now = L := ⟨_, rfl⟩
  rw [hL] at hown
  have HLL : Hid (overL l now = L ∧ L.length ≤ 1000) := Lib.hid ⟨hL, by rw [← hL]; exact Nat.le_trans (List.length_filter_le _ _) HN.out⟩
  obtain ⟨pL, cL, rfl, _⟩ := hown.opened
  obtain ⟨nL, hnL⟩ : ∃ nL, L.length = nL := ⟨_, rfl⟩
  rw [hnL] at hown ⊢
  have HSL := Lib.hid hown.sl
  have HX2 := Lib.hid (Ext.trans HX1.out hx)
  have c0 := hx.cell b0
  have c1 := hx.cell b1
  have c2 := hx.cell b2
  have c3 := hx.cell b3
  have c4 := hx.cell b4
  have c5 := hx.cell b5
  have c6 := hx.cell b6
  have HHB2 := Lib.hid (heap_ext HHB1.out hx)
  have HZ2 : Hid (w1.heap.size ≤ w2.heap.size) := Lib.hid hx.size
  clear hx b0 b1 b2 b3 b4 b5 b6 HC hown hL hnL
  have HLO : Hid (∀ x ∈ L, oneB x = true) := Lib.hid (fun x hx => HONE.out x (List.mem_filter.1 (by rw [← HLL.out.1] at hx; exact hx)).1)
  have HRK : Hid (Rising (cls (againstL L q)) (whoseL L (q0 q) 16)) := Lib.hid (by
    have h1 := rising_compact (cls (againstL L (q0 q)))
    rw [← whose_is HLO.out HO1.out h1]
    exact h1)
  go_wp2_with fail
  refine (whose_v _ L (q0 q) w2 HSL.out).mono ?_
  rintro e w3 ⟨⟨v, rfl, hs⟩, hx⟩
  obtain ⟨A, hA⟩ : ∃ A, whoseL L (q0 q) 16 = A := ⟨_, rfl⟩
  rw [hA] at hs HRK
  have HSA := Lib.hid hs
  obtain ⟨pA, nA, cA, rfl, hrow, _⟩ := hs
  have HNA : Hid (A.length = nA) := Lib.hid hrow.1
  have HX3 := Lib.hid (Ext.trans HX2.out hx)
  have HSL3 := Lib.hid (HSL.out.ext hx)
  have HHB3 := Lib.hid (heap_ext HHB2.out hx)
  have d0 := hx.cell c0
  have d1 := hx.cell c1
  have d2 := hx.cell c2
  have d3 := hx.cell c3
  have d4 := hx.cell c4
  have d5 := hx.cell c5
  have d6 := hx.cell c6
  have HZ3 : Hid (w2.heap.size ≤ w3.heap.size) := Lib.hid hx.size
  have hA63 := hrow.2.1
  clear hx c0 c1 c2 c3 c4 c5 c6 hA hrow HSL
  by_cases h0 : 0 < nA
  · have HNE : Hid (againstL (overL l now) q ≠ []) := Lib.hid (by
      rw [HLL.out.1]
      intro h
      have h1 := HRK.out.2.2
      rw [h, HNA.out] at h1
      simp [cls] at h1
      omega)
    go_wp2
    go_ret3
    exact ⟨⟨_, _, A, (L, false), rfl, by unfold askL; rw [if_neg (by rw [HB.out]; exact Bool.false_ne_true), if_pos HNE.out, HLL.out.1], HSL3.out, HSA.out, Lib.hid (by unfold WhoIs; rw [if_neg (by rw [HB.out]; exact fun h => h.elim Bool.false_ne_true HNE.out), HLL.out.1]; exact HRK.out)⟩, HX3.out⟩
  have HNE : Hid (againstL (overL l now) q = []) := Lib.hid (by
    rw [HLL.out.1]
    cases hAA : againstL L q with
    | nil => rfl
    | cons x B =>
      exfalso
      have h1 := (HRK.out.2.1 x.c).2 (by rw [hAA]; simp [cls])
      have h2 : A = [] := List.eq_nil_of_length_eq_zero (by rw [HNA.out]; omega)
      rw [h2] at h1
      simp at h1)
  obtain rfl : nA = 0 := by omega
  clear h0 HSA
  go_wp2
  go_loopw [13, 14] (fun v ix wr => RaR w3 L q nL v ix wr) (fun _ ix _ => nL - (intOf ix).toNat)
  case atStart => exact ⟨0, rfl, by omega, plain_le.own_lit w3 #[] _ w3.heap.size 0 [] (Nat.le_refl _) rfl rfl (by decide), Ext.alloc _ _⟩
  case round =>
    obtain ⟨j, rfl, hj, hown, hx⟩ := hrel
    have HOJ := Lib.hid hown
    have HXJ := Lib.hid hx
    clear hown
    have HROW := Lib.hid (sl_row HSL3.out)
    have hL63 := HROW.out.2.1
    by_cases hlt : j < nL
    · obtain ⟨x, gx⟩ := get_of L j (by rw [HROW.out.1]; exact hlt)
      obtain ⟨b, off, rfl, hwx, x0, x1, x2, x3, x4, x5, x6⟩ := le_at (HROW.out.ext hx) gx
      have HWX := Lib.hid hwx
      have k0 := ((Ext.trans hx (Ext.alloc wr (.cells #[.int .i64 x.c, .int .i64 x.i, .int .i64 x.k, .int .i64 x.f, .int .i64 x.t, .int .i64 x.u, .int .i64 x.e] 26))).cell d0)
      have k1 := ((Ext.trans hx (Ext.alloc wr (.cells #[.int .i64 x.c, .int .i64 x.i, .int .i64 x.k, .int .i64 x.f, .int .i64 x.t, .int .i64 x.u, .int .i64 x.e] 26))).cell d1)
      have k2 := ((Ext.trans hx (Ext.alloc wr (.cells #[.int .i64 x.c, .int .i64 x.i, .int .i64 x.k, .int .i64 x.f, .int .i64 x.t, .int .i64 x.u, .int .i64 x.e] 26))).cell d2)
      have k3 := ((Ext.trans hx (Ext.alloc wr (.cells #[.int .i64 x.c, .int .i64 x.i, .int .i64 x.k, .int .i64 x.f, .int .i64 x.t, .int .i64 x.u, .int .i64 x.e] 26))).cell d3)
      have k4 := ((Ext.trans hx (Ext.alloc wr (.cells #[.int .i64 x.c, .int .i64 x.i, .int .i64 x.k, .int .i64 x.f, .int .i64 x.t, .int .i64 x.u, .int .i64 x.e] 26))).cell d4)
      have k5 := ((Ext.trans hx (Ext.alloc wr (.cells #[.int .i64 x.c, .int .i64 x.i, .int .i64 x.k, .int .i64 x.f, .int .i64 x.t, .int .i64 x.u, .int .i64 x.e] 26))).cell d5)
      have k6 := ((Ext.trans hx (Ext.alloc wr (.cells #[.int .i64 x.c, .int .i64 x.i, .int .i64 x.k, .int .i64 x.f, .int .i64 x.t, .int .i64 x.u, .int .i64 x.e] 26))).cell d6)
      have HSN : Hid (othersL (L.take (j + 1)) q = othersL (L.take j) q ++ (if sameB x q then [] else [x])) := Lib.hid (by unfold othersL; rw [List.take_add_one, gx, List.filter_append]; cases h : sameB x q <;> simp [h])
      have HJL : Hid ((othersL (L.take j) q).length ≤ 1000) := Lib.hid (by
        have h1 := List.length_filter_le (fun x => !sameB x q) (L.take j)
        have h2 := HLL.out.2
        unfold othersL
        simp only [List.length_take] at h1
        omega)
      have HJ63 : Hid ((othersL (L.take j) q).length + 1 ≤ maxLen) := Lib.hid (by have := HJL.out; unfold maxLen; omega)
      have HJB : Hid (((othersL (L.take j) q).length + 1) * 56 ≤ 140737488355328) := Lib.hid (by have := HJL.out; omega)
      have hj1 : (j : Int) < (nL : Int) := by omega
      have hj0 : (0 : Int) ≤ (j : Int) := by omega
      clear gx hx hwx
      by_cases hc : x.c = q.c
      · have ec_ : (x.c != (q0 q).c) = false := by simp [q0, qu, hc]
        have Hc := Lib.hid hc
        clear hc
        by_cases hi : x.i = q.i
        · have ei_ : (x.i != (q0 q).i) = false := by simp [q0, qu, hi]
          have Hi := Lib.hid hi
          clear hi
          by_cases hk : x.k = q.k
          · have ek_ : (x.k != (q0 q).k) = false := by simp [q0, qu, hk]
            have Hk := Lib.hid hk
            clear hk
            by_cases hf : x.f = q.f
            · have ef_ : (x.f == (q0 q).f) = true := by simp [q0, qu, hf]
              have Hf := Lib.hid hf
              clear hf
              by_cases ht : x.t = q.t
              · have et_ : (x.t == (q0 q).t) = true := by simp [q0, qu, ht]
                have Ht := Lib.hid ht
                clear ht
                have HTF : Hid (othersL (L.take (j + 1)) q = othersL (L.take j) q) := Lib.hid (by rw [HSN.out, show sameB x q = true from decide_eq_true ⟨Hc.out, Hi.out, Hk.out, Hf.out, Ht.out⟩]; simp)
                go_wp2
                go_roundw
                case rel => exact ⟨j + 1, by go_num, by omega, by rw [HTF.out]; exact HOJ.out.ext (Ext.alloc _ _), Ext.trans HXJ.out (Ext.alloc _ _)⟩
                case measure => simp [intOf]; omega
              · have et_ : (x.t == (q0 q).t) = false := by simp [q0, qu, ht]
                have Ht := Lib.hid ht
                clear ht
                have HTF : Hid (othersL (L.take (j + 1)) q = othersL (L.take j) q ++ [x]) := Lib.hid (by rw [HSN.out, show sameB x q = false from decide_eq_false (fun h => Ht.out h.2.2.2.2)]; rfl)
                go_wp2_with (at_builtin; refine Lay.wpList_append (E := LLe) rfl (.tmp 77) (.tmp 79) 22 rfl w3.heap.size 26 i0 (.agg #[.int .i64 0, .int .i64 0, .int .i64 0, .int .i64 0, .int .i64 0, .int .i64 0, .int .i64 0]) 56 Try.underlying22 hi0 hzi0 hzi1 hzi2 rfl _ (othersL (L.take j) q) rfl (HOJ.out.ext (Ext.trans (Ext.alloc _ _) (Ext.alloc _ _))) (some ⟨wr.heap.size + 1, 0, none⟩) 1 1 ([x]) rfl (fun _ => ⟨_, _, rfl⟩) (Nat.le_refl _) (plain_le.lit (Ext.refl _) (Lay.All.single ⟨rfl, HWX.out⟩) (by simp) rfl (by decide)) HJ63.out HJB.out (Nat.le_trans HXJ.out.size (show wr.heap.size ≤ _ from by simp; omega)) ?_; intro v2 w5 hown2 hg2; have X3 := HOJ.out.below HXJ.out (Nat.le_refl _) (grown_of (Ext.trans (Ext.alloc _ _) (Ext.alloc _ _)) hg2); rw [← HTF.out] at hown2; have HO3 := Lib.hid hown2; clear hown2 hg2)
                go_roundw
                case rel => exact ⟨j + 1, by go_num, by omega, HO3.out, X3⟩
                case measure => simp [intOf]; omega
            · have ef_ : (x.f == (q0 q).f) = false := by simp [q0, qu, hf]
              have Hf := Lib.hid hf
              clear hf
              have HTF : Hid (othersL (L.take (j + 1)) q = othersL (L.take j) q ++ [x]) := Lib.hid (by rw [HSN.out, show sameB x q = false from decide_eq_false (fun h => Hf.out h.2.2.2.1)]; rfl)
              go_wp2_with (at_builtin; refine Lay.wpList_append (E := LLe) rfl (.tmp 77) (.tmp 79) 22 rfl w3.heap.size 26 i0 (.agg #[.int .i64 0, .int .i64 0, .int .i64 0, .int .i64 0, .int .i64 0, .int .i64 0, .int .i64 0]) 56 Try.underlying22 hi0 hzi0 hzi1 hzi2 rfl _ (othersL (L.take j) q) rfl (HOJ.out.ext (Ext.trans (Ext.alloc _ _) (Ext.alloc _ _))) (some ⟨wr.heap.size + 1, 0, none⟩) 1 1 ([x]) rfl (fun _ => ⟨_, _, rfl⟩) (Nat.le_refl _) (plain_le.lit (Ext.refl _) (Lay.All.single ⟨rfl, HWX.out⟩) (by simp) rfl (by decide)) HJ63.out HJB.out (Nat.le_trans HXJ.out.size (show wr.heap.size ≤ _ from by simp; omega)) ?_; intro v2 w5 hown2 hg2; have X3 := HOJ.out.below HXJ.out (Nat.le_refl _) (grown_of (Ext.trans (Ext.alloc _ _) (Ext.alloc _ _)) hg2); rw [← HTF.out] at hown2; have HO3 := Lib.hid hown2; clear hown2 hg2)
              go_roundw
              case rel => exact ⟨j + 1, by go_num, by omega, HO3.out, X3⟩
              case measure => simp [intOf]; omega
          · have ek_ : (x.k != (q0 q).k) = true := by simp [q0, qu, hk]
            have Hk := Lib.hid hk
            clear hk
            have HTF : Hid (othersL (L.take (j + 1)) q = othersL (L.take j) q ++ [x]) := Lib.hid (by rw [HSN.out, show sameB x q = false from decide_eq_false (fun h => Hk.out h.2.2.1)]; rfl)
            go_wp2_with (at_builtin; refine Lay.wpList_append (E := LLe) rfl (.tmp 77) (.tmp 79) 22 rfl w3.heap.size 26 i0 (.agg #[.int .i64 0, .int .i64 0, .int .i64 0, .int .i64 0, .int .i64 0, .int .i64 0, .int .i64 0]) 56 Try.underlying22 hi0 hzi0 hzi1 hzi2 rfl _ (othersL (L.take j) q) rfl (HOJ.out.ext (Ext.trans (Ext.alloc _ _) (Ext.alloc _ _))) (some ⟨wr.heap.size + 1, 0, none⟩) 1 1 ([x]) rfl (fun _ => ⟨_, _, rfl⟩) (Nat.le_refl _) (plain_le.lit (Ext.refl _) (Lay.All.single ⟨rfl, HWX.out⟩) (by simp) rfl (by decide)) HJ63.out HJB.out (Nat.le_trans HXJ.out.size (show wr.heap.size ≤ _ from by simp; omega)) ?_; intro v2 w5 hown2 hg2; have X3 := HOJ.out.below HXJ.out (Nat.le_refl _) (grown_of (Ext.trans (Ext.alloc _ _) (Ext.alloc _ _)) hg2); rw [← HTF.out] at hown2; have HO3 := Lib.hid hown2; clear hown2 hg2)
            go_roundw
            case rel => exact ⟨j + 1, by go_num, by omega, HO3.out, X3⟩
            case measure => simp [intOf]; omega
        · have ei_ : (x.i != (q0 q).i) = true := by simp [q0, qu, hi]
          have Hi := Lib.hid hi
          clear hi
          have HTF : Hid (othersL (L.take (j + 1)) q = othersL (L.take j) q ++ [x]) := Lib.hid (by rw [HSN.out, show sameB x q = false from decide_eq_false (fun h => Hi.out h.2.1)]; rfl)
          go_wp2_with (at_builtin; refine Lay.wpList_append (E := LLe) rfl (.tmp 77) (.tmp 79) 22 rfl w3.heap.size 26 i0 (.agg #[.int .i64 0, .int .i64 0, .int .i64 0, .int .i64 0, .int .i64 0, .int .i64 0, .int .i64 0]) 56 Try.underlying22 hi0 hzi0 hzi1 hzi2 rfl _ (othersL (L.take j) q) rfl (HOJ.out.ext (Ext.trans (Ext.alloc _ _) (Ext.alloc _ _))) (some ⟨wr.heap.size + 1, 0, none⟩) 1 1 ([x]) rfl (fun _ => ⟨_, _, rfl⟩) (Nat.le_refl _) (plain_le.lit (Ext.refl _) (Lay.All.single ⟨rfl, HWX.out⟩) (by simp) rfl (by decide)) HJ63.out HJB.out (Nat.le_trans HXJ.out.size (show wr.heap.size ≤ _ from by simp; omega)) ?_; intro v2 w5 hown2 hg2; have X3 := HOJ.out.below HXJ.out (Nat.le_refl _) (grown_of (Ext.trans (Ext.alloc _ _) (Ext.alloc _ _)) hg2); rw [← HTF.out] at hown2; have HO3 := Lib.hid hown2; clear hown2 hg2)
          go_roundw
          case rel => exact ⟨j + 1, by go_num, by omega, HO3.out, X3⟩
          case measure => simp [intOf]; omega
      · have ec_ : (x.c != (q0 q).c) = true := by simp [q0, qu, hc]
        have Hc := Lib.hid hc
        clear hc
        have HTF : Hid (othersL (L.take (j + 1)) q = othersL (L.take j) q ++ [x]) := Lib.hid (by rw [HSN.out, show sameB x q = false from decide_eq_false (fun h => Hc.out h.1)]; rfl)
        go_wp2_with (at_builtin; refine Lay.wpList_append (E := LLe) rfl (.tmp 77) (.tmp 79) 22 rfl w3.heap.size 26 i0 (.agg #[.int .i64 0, .int .i64 0, .int .i64 0, .int .i64 0, .int .i64 0, .int .i64 0, .int .i64 0]) 56 Try.underlying22 hi0 hzi0 hzi1 hzi2 rfl _ (othersL (L.take j) q) rfl (HOJ.out.ext (Ext.trans (Ext.alloc _ _) (Ext.alloc _ _))) (some ⟨wr.heap.size + 1, 0, none⟩) 1 1 ([x]) rfl (fun _ => ⟨_, _, rfl⟩) (Nat.le_refl _) (plain_le.lit (Ext.refl _) (Lay.All.single ⟨rfl, HWX.out⟩) (by simp) rfl (by decide)) HJ63.out HJB.out (Nat.le_trans HXJ.out.size (show wr.heap.size ≤ _ from by simp; omega)) ?_; intro v2 w5 hown2 hg2; have X3 := HOJ.out.below HXJ.out (Nat.le_refl _) (grown_of (Ext.trans (Ext.alloc _ _) (Ext.alloc _ _)) hg2); rw [← HTF.out] at hown2; have HO3 := Lib.hid hown2; clear hown2 hg2)
        go_roundw
        case rel => exact ⟨j + 1, by go_num, by omega, HO3.out, X3⟩
        case measure => simp [intOf]; omega
    obtain rfl : j = nL := by omega
    have e0' : L.take j = L := List.take_of_length_le (by rw [HROW.out.1]; omega)
    rw [e0'] at HOJ
    clear e0'
    obtain ⟨O, hO⟩ : ∃ O, othersL L q = O := ⟨_, rfl⟩
    rw [hO] at HOJ
    have HOO : Hid (othersL L q = O ∧ O.length ≤ 1000) := Lib.hid ⟨hO, by rw [← hO]; exact Nat.le_trans (List.length_filter_le _ _) HLL.out.2⟩
    obtain ⟨nO, hnO⟩ : ∃ nO, O.length = nO := ⟨_, rfl⟩
    have HNO := Lib.hid hnO
    have hown := HOJ.out
    obtain ⟨pO, cO, rfl, _⟩ := hown.opened
    rw [hnO] at hown ⊢
    have HO3 := Lib.hid hown
    have HX4 := Lib.hid (Ext.trans HX3.out hx)
    have HSL4 := Lib.hid (HSL3.out.ext hx)
    have HHB4 := Lib.hid (heap_ext HHB3.out hx)
    have e0 := hx.cell d0
    have e1 := hx.cell d1
    have e2 := hx.cell d2
    have e3 := hx.cell d3
    have e4 := hx.cell d4
    have e5 := hx.cell d5
    have e6 := hx.cell d6
    have HZ4 : Hid (w3.heap.size ≤ wr.heap.size) := Lib.hid hx.size
    clear hx d0 d1 d2 d3 d4 d5 d6 hown hO hnO HSL3 HOJ
    by_cases h64 : 64 ≤ nO
    · have dO : decide ((64 : Int) ≤ (nO : Int)) = true := decide_eq_true (by omega)
      have H64 := Lib.hid h64
      clear h64
      go_wp2
      go_ret3
      exact ⟨⟨_, _, [], (L, false), rfl, by unfold askL; rw [if_neg (by rw [HB.out]; exact Bool.false_ne_true), if_neg (by rw [HNE.out]; exact fun h => h rfl), HLL.out.1, HOO.out.1, HNO.out, if_pos H64.out], HSL4.out, Lay.Sl.nil _ _, Lib.hid (by unfold WhoIs; rw [if_pos (.inr HNE.out)])⟩, HX4.out⟩
    have dO : decide ((64 : Int) ≤ (nO : Int)) = false := decide_eq_false (by omega)
    have H64 := Lib.hid h64
    clear h64 HSL4
    go_wp2_with fail
    refine (Clk.rwait many _).mono ?_
    rintro e w6 ⟨rfl, hw6⟩
    have hx : Ext wr w6 := hw6 ▸ Ext.refl _
    clear hw6
    have b0 := hx.cell e0
    have b1 := hx.cell e1
    have b2 := hx.cell e2
    have b3 := hx.cell e3
    have b4 := hx.cell e4
    have b5 := hx.cell e5
    have b6 := hx.cell e6
    have HHB6 := Lib.hid (heap_ext HHB4.out hx)
    have HO := Lib.hid (HO3.out.ext hx)
    have HX6 := Lib.hid (Ext.trans HX4.out hx)
    have HZ7 : Hid (wr.heap.size ≤ w6.heap.size) := Lib.hid hx.size
    have HZ6 : Hid (w.heap.size < w6.heap.size) := Lib.hid (World.block_lt_of_cell? w6 _ b0)
    clear hx e0 e1 e2 e3 e4 e5 e6 HO3
    have hwt : 0 ≤ Clk.wt (Clk.aa many) ∧ Clk.wt (Clk.aa many) ≤ 100 := by
      have h1 := HMANY.out
      have h2 : Clk.aa many = many := by unfold Clk.aa; omega
      rw [h2]; unfold Clk.wt; split <;> omega
    have HWR : IntKind.i64.wrap (now + Clk.wt (Clk.aa many)) = now + Clk.wt (Clk.aa many) := IntWalk.i64_in _ (by have := HNOW.out; omega)
    have HW2 : Hid (LeWf (qu q (now + Clk.wt (Clk.aa many)))) := Lib.hid (by
      obtain ⟨a1, a2, a3, a4, a5, a6, a7⟩ := HW.out
      have := HNOW.out
      exact ⟨a1, a2, a3, a4, a5, (by simp [qu, Lit.wf, IntKind.min, IntKind.max, IntKind.signed, IntKind.bits]; omega), a7⟩)
    have HWT := Lib.hid hwt
    clear hwt
    have hfz : w6.frozen? ⟨w.heap.size, 5, none⟩ = false := frozen_of_row w6 _ 5 _ _ HHB6.out
    have HNE2 : Hid (Value.ownBlock (.slice pO nO cO) ≠ some w.heap.size) := Lib.hid (fun h => by
      have h1 := (HO.out.lt _ h).1
      have := HZ.out
      have := HZ2.out
      have := HZ3.out
      omega)
    have HOW : Hid (LLe.Own ((w6.setCell ⟨w.heap.size, 5, none⟩ (.int .i64 (now + Clk.wt (Clk.aa many)))).alloc (.cells #[.int .i64 (qu q (now + Clk.wt (Clk.aa many))).c, .int .i64 (qu q (now + Clk.wt (Clk.aa many))).i, .int .i64 (qu q (now + Clk.wt (Clk.aa many))).k, .int .i64 (qu q (now + Clk.wt (Clk.aa many))).f, .int .i64 (qu q (now + Clk.wt (Clk.aa many))).t, .int .i64 (qu q (now + Clk.wt (Clk.aa many))).u, .int .i64 (qu q (now + Clk.wt (Clk.aa many))).e] 26)) w3.heap.size 26 (.slice pO nO cO) O) := Lib.hid ((Lay.Own.kept plain_le HO.out (Lay.grown_set _ w.heap.size 5 _) HNE2.out).ext (Ext.alloc _ _))
    have HXW : Hid (Ext w ((w6.setCell ⟨w.heap.size, 5, none⟩ (.int .i64 (now + Clk.wt (Clk.aa many)))).alloc (.cells #[.int .i64 (qu q (now + Clk.wt (Clk.aa many))).c, .int .i64 (qu q (now + Clk.wt (Clk.aa many))).i, .int .i64 (qu q (now + Clk.wt (Clk.aa many))).k, .int .i64 (qu q (now + Clk.wt (Clk.aa many))).f, .int .i64 (qu q (now + Clk.wt (Clk.aa many))).t, .int .i64 (qu q (now + Clk.wt (Clk.aa many))).u, .int .i64 (qu q (now + Clk.wt (Clk.aa many))).e] 26))) := Lib.hid (Ext.trans (Below.setCell HX6.out (p := ⟨w.heap.size, 5, none⟩) (Nat.le_refl _) _) (Ext.alloc _ _))
    have HM63 : Hid (O.length + 1 ≤ maxLen) := Lib.hid (by have := HOO.out.2; unfold maxLen; omega)
    have HMB : Hid ((O.length + 1) * 56 ≤ 140737488355328) := Lib.hid (by have := HOO.out.2; omega)
    have HSZ : Hid (w3.heap.size ≤ ((w6.setCell ⟨w.heap.size, 5, none⟩ (.int .i64 (now + Clk.wt (Clk.aa many)))).alloc (.cells #[.int .i64 (qu q (now + Clk.wt (Clk.aa many))).c, .int .i64 (qu q (now + Clk.wt (Clk.aa many))).i, .int .i64 (qu q (now + Clk.wt (Clk.aa many))).k, .int .i64 (qu q (now + Clk.wt (Clk.aa many))).f, .int .i64 (qu q (now + Clk.wt (Clk.aa many))).t, .int .i64 (qu q (now + Clk.wt (Clk.aa many))).u, .int .i64 (qu q (now + Clk.wt (Clk.aa many))).e] 26)).heap.size) := Lib.hid (by have := HZ4.out; have := HZ7.out; simp; omega)
    have HWS : Hid (w.heap.size ≤ w3.heap.size) := Lib.hid (by have := HZ.out; have := HZ2.out; have := HZ3.out; omega)
    rw [← HNO.out] at HOW
    rw [← HNO.out]
    go_wp2_with (at_builtin; refine Lay.wpList_append (E := LLe) rfl (.tmp 90) (.tmp 92) 22 rfl w3.heap.size 26 i0 (.agg #[.int .i64 0, .int .i64 0, .int .i64 0, .int .i64 0, .int .i64 0, .int .i64 0, .int .i64 0]) 56 Try.underlying22 hi0 hzi0 hzi1 hzi2 rfl _ (O) rfl (HOW.out) (some ⟨w6.heap.size, 0, none⟩) 1 1 ([qu q (now + Clk.wt (Clk.aa many))]) rfl (fun _ => ⟨_, _, rfl⟩) (Nat.le_refl _) (plain_le.lit (Ext.refl _) (Lay.All.single ⟨rfl, HW2.out⟩) (by simp) rfl (by decide)) HM63.out HMB.out HSZ.out ?_; intro v2 w7 hown2 hg2; have X7 := Lib.hid (HOW.out.below HXW.out HWS.out hg2); have HO7 := Lib.hid hown2; clear hown2 hg2)
    go_ret3
    exact ⟨⟨_, _, [], (O ++ [qu q (now + Clk.wt (Clk.aa many))], true), rfl, by unfold askL; rw [if_neg (by rw [HB.out]; exact Bool.false_ne_true), if_neg (by rw [HNE.out]; exact fun h => h rfl), HLL.out.1, HOO.out.1, HNO.out, if_neg H64.out], HO7.out.sl, Lay.Sl.nil _ _, Lib.hid (by unfold WhoIs; rw [if_pos (.inr HNE.out)])⟩, X7.out⟩

end Go.Proofs.Ytocnopgpdlfkjaa.Ls
