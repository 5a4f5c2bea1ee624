/- Jobs: what is renewed is the plan, none of whose jobs lacks more than it did. -/
import Derived.Test.YtlbpgaoindkgbaaMeS
namespace Go.Proofs.Ytlbpgaoindkgbaa.Me
open Go.RowKit Go.Proofs.Ytlbpgaoindkgbaa Go.Sort
set_option linter.unusedVariables false

theorem qok_inj {L : List Jb} (h : QOk L) : TarInj L := by
  intro a ha b hb e1 e2
  have hp := h.2
  rw [List.pairwise_iff_getElem] at hp
  obtain ⟨i, hi, rfl⟩ := List.getElem_of_mem ha
  obtain ⟨j, hj, rfl⟩ := List.getElem_of_mem hb
  rcases Nat.lt_trichotomy i j with h1 | h1 | h1
  · exact absurd ⟨e1, e2⟩ (hp i j hi hj h1).2
  · subst h1; rfl
  · exact absurd ⟨e1.symm, e2.symm⟩ (hp j i hj hi h1).2
/-- whatever is renewed keeps all but how much is left, and no more is left than was -/
theorem ren_form {L : List Jb} (h : ∀ y ∈ L, 1 ≤ y.l) (x : Jb) (hx : 1 ≤ x.l) : ∃ z, renewJ L x = setl x z ∧ 1 ≤ z ∧ z ≤ x.l := by
  rcases idx_cases L x.i x.t with ⟨k, y, h1, _, _, h4⟩ | ⟨_, h2⟩
  · rw [ren_at h4 h1]
    have hy := h y (List.mem_of_getElem? h1)
    split
    · exact ⟨_, rfl, by omega, by omega⟩
    · exact ⟨x.l, rfl, hx, by omega⟩
  · rw [ren_none h2]
    exact ⟨x.l, rfl, hx, by omega⟩
theorem qok_pos1 {L : List Jb} (h : QOk L) : ∀ y ∈ L, 1 ≤ y.l := fun y hy => (may_l (h.1 y hy)).1
theorem qok_renew {L P : List Jb} (hL : QOk L) (hP : QOk P) : QOk (renewL L P) := by
  constructor
  · intro a ha
    obtain ⟨x, hx, rfl⟩ := List.mem_map.1 ha
    have h1 := may_l (hP.1 x hx)
    obtain ⟨z, e, z1, z2⟩ := ren_form (qok_pos1 hL) x h1.1
    rw [e]
    exact may_setl (hP.1 x hx) z1 (by omega)
  · unfold renewL
    rw [List.pairwise_map]
    refine hP.2.imp_of_mem fun {a b} ha hb h => ?_
    obtain ⟨z, e, _, _⟩ := ren_form (qok_pos1 hL) a (qok_pos1 hP a ha)
    obtain ⟨z2, e2, _, _⟩ := ren_form (qok_pos1 hL) b (qok_pos1 hP b hb)
    rw [e, e2]
    exact h
theorem renew_self {L : List Jb} (h : QOk L) : renewL L L = L := by
  unfold renewL
  have : ∀ x ∈ L, renewJ L x = x := fun x hx => by
    rcases idx_cases L x.i x.t with ⟨k, y, h1, h2, _, h4⟩ | ⟨_, h2⟩
    · have : y = x := qok_inj h y (List.mem_of_getElem? h1) x hx h2.1 h2.2
      subst this
      rw [ren_at h4 h1, if_pos rfl]
      show setl y (min y.l y.l) = y
      rw [Int.min_self]
      exact setl_self y
    · exact ren_none h2
  rw [List.map_congr_left this]; simp
theorem renew_nil (P : List Jb) : renewL [] P = P := by
  unfold renewL
  have : ∀ x ∈ P, renewJ [] x = x := fun x _ => ren_none (idx_none fun j z hz => by simp at hz)
  rw [List.map_congr_left this]; simp
theorem renew_left {L : List Jb} {r : Int} (h : QOk L) (hr : 0 ≤ r) : (renewL (stepL L r).1 L).drop (stepL L r).2.length = (stepL L r).1 := by
  have hq := qok_step h hr
  have hlen := step_len L r
  apply List.ext_getElem?
  intro k
  rw [List.getElem?_drop]
  unfold renewL
  rw [List.getElem?_map]
  by_cases hk : k < (stepL L r).1.length
  · obtain ⟨x, hx⟩ : ∃ x, L[(stepL L r).2.length + k]? = some x := ⟨_, List.getElem?_eq_getElem (by omega)⟩
    obtain ⟨y, h1, h2, h3, _⟩ := (step_spec L r (qok_pos1 h) hr _ x hx).2 (by omega)
    rw [show (stepL L r).2.length + k - (stepL L r).2.length = k by omega] at h1
    rw [hx, h1]
    show some (renewJ (stepL L r).1 x) = some (setl x y)
    congr 1
    rcases idx_cases (stepL L r).1 x.i x.t with ⟨j, z, g1, g2, _, g4⟩ | ⟨g1, _⟩
    · have : z = setl x y := qok_inj hq z (List.mem_of_getElem? g1) (setl x y) (List.mem_of_getElem? h1) g2.1 g2.2
      subst this
      rw [ren_at g4 g1, if_pos (show (setl x y).v = x.v from rfl)]
      show setl x (min x.l y) = setl x y
      rw [show min x.l y = y by omega]
    · exact absurd ⟨rfl, rfl⟩ (g1 k _ h1)
  · rw [List.getElem?_eq_none (by omega), List.getElem?_eq_none (by omega)]; rfl
theorem ren_len (L P : List Jb) : (renewL L P).length = P.length := by unfold renewL; simp
set_option maxRecDepth 100000 in
set_option maxHeartbeats 4000000 in
theorem renews_walk {u v : Value} {l k : List Jb} {bud : Int} {w : World} (hu : LJb.Sl w u l) (hv : LJb.Sl w v k) (hb : (Lit.int .u16 bud).wf = true) : Calls Try.prog 8 #[u, v, .int .u16 bud] w fun e w' => e = .returned (.bool true) ∧ Ext w w' := by
  obtain ⟨r0, r1⟩ := mu16 hb
  have HX := Lib.hid hu
  have HY := Lib.hid hv
  have hz : Ext w w := Ext.refl _
  clear hb hu hv
  go_enter Try.func8, Try.ntmps8
  go_wp2_with fail
  refine (head_v _).mono ?_
  rintro e w1 ⟨rfl, hx9⟩
  replace HX := Lib.hid (HX.out.ext hx9)
  replace HY := Lib.hid (HY.out.ext hx9)
  replace hz := Ext.trans hz hx9
  clear hx9
  go_wp2_with fail
  refine (few_any _ l _ HX.out).mono ?_
  rintro e w2 ⟨⟨v1f, rfl, hs⟩, hx9⟩
  replace HX := Lib.hid (HX.out.ext hx9)
  replace HY := Lib.hid (HY.out.ext hx9)
  replace hz := Ext.trans hz hx9
  clear hx9
  have HF := Lib.hid hs
  clear hs
  go_wp2_with fail
  refine (rorder_v _ _ _ HF.out (by simp; omega)).mono ?_
  rintro e w3 ⟨⟨v1, rfl, hs⟩, hx9⟩
  replace HX := Lib.hid (HX.out.ext hx9)
  replace HY := Lib.hid (HY.out.ext hx9)
  replace HF := Lib.hid (HF.out.ext hx9)
  replace hz := Ext.trans hz hx9
  clear hx9
  obtain ⟨L, hL⟩ : ∃ L, ordL (l.take 40) = L := ⟨_, rfl⟩
  have HQL : Hid (QOk L) := Lib.hid (by rw [← hL]; exact qok_ord _)
  have HNL : Hid (L.length ≤ 40) := Lib.hid (by rw [← hL]; exact ord40 l)
  rw [hL] at hs
  have HL := Lib.hid hs
  clear hs hL HF
  go_wp2_with fail
  refine (few_any _ k _ HY.out).mono ?_
  rintro e w4 ⟨⟨v2f, rfl, hs⟩, hx9⟩
  replace HX := Lib.hid (HX.out.ext hx9)
  replace HY := Lib.hid (HY.out.ext hx9)
  replace HL := Lib.hid (HL.out.ext hx9)
  replace hz := Ext.trans hz hx9
  clear hx9
  have HF := Lib.hid hs
  clear hs
  go_wp2_with fail
  refine (rorder_v _ _ _ HF.out (by simp; omega)).mono ?_
  rintro e w5 ⟨⟨v2, rfl, hs⟩, hx9⟩
  replace HX := Lib.hid (HX.out.ext hx9)
  replace HY := Lib.hid (HY.out.ext hx9)
  replace HL := Lib.hid (HL.out.ext hx9)
  replace HF := Lib.hid (HF.out.ext hx9)
  replace hz := Ext.trans hz hx9
  clear hx9
  obtain ⟨P, hL⟩ : ∃ L, ordL (k.take 40) = L := ⟨_, rfl⟩
  have HQP : Hid (QOk P) := Lib.hid (by rw [← hL]; exact qok_ord _)
  have HNP : Hid (P.length ≤ 40) := Lib.hid (by rw [← hL]; exact ord40 k)
  rw [hL] at hs
  have HP := Lib.hid hs
  clear hs hL HF
  go_wp2_with fail
  refine (renew_v _ _ L P _ HL.out HP.out (by have := HNL.out; omega) (by have := HNP.out; omega)).mono ?_
  rintro e w6 ⟨⟨v3, rfl, hs⟩, hx9⟩
  replace HX := Lib.hid (HX.out.ext hx9)
  replace HY := Lib.hid (HY.out.ext hx9)
  replace HL := Lib.hid (HL.out.ext hx9)
  replace HP := Lib.hid (HP.out.ext hx9)
  replace hz := Ext.trans hz hx9
  clear hx9
  have HQR := Lib.hid (qok_renew HQL.out HQP.out)
  have HR := Lib.hid hs
  clear hs
  have HP1 := HP
  have HR1 := HR
  obtain ⟨pp, np, cp, rfl, hrp, _, _, _⟩ := HP1.out
  obtain ⟨pr, nr, cr, rfl, hrr, _, _, _⟩ := HR1.out
  have HNP1 : Hid (P.length = np) := Lib.hid hrp.1
  obtain rfl : nr = np := by have := hrr.1; have := hrp.1; have := ren_len L P; omega
  have hnp40 : nr ≤ 40 := by have := HNP.out; have := hrp.1; omega
  clear hrp hrr HP1 HR1
  go_wp2_with fail
  refine (right_v _ _ _ HR.out (by rw [ren_len]; have := HNP.out; omega)).mono ?_
  rintro e w7 ⟨⟨b1, rfl, hb1⟩, hx9⟩
  replace HX := Lib.hid (HX.out.ext hx9)
  replace HY := Lib.hid (HY.out.ext hx9)
  replace HL := Lib.hid (HL.out.ext hx9)
  replace HP := Lib.hid (HP.out.ext hx9)
  replace HR := Lib.hid (HR.out.ext hx9)
  replace hz := Ext.trans hz hx9
  clear hx9
  obtain rfl : b1 = true := hb1.2 HQR.out.right
  clear hb1
  have HZ := Lib.hid hz
  clear hz
  go_wp2
  go_loopw [11, 12] (fun i _ wr => CntM w7 nr i wr) (fun i _ _ => nr - (intOf i).toNat)
  case atStart => exact ⟨0, rfl, by omega, Ext.refl _⟩
  case round =>
    obtain ⟨i, rfl, hi, hx⟩ := hrel
    have HXR := Lib.hid hx
    clear hx
    by_cases hlt : i < nr
    · obtain ⟨x, gx⟩ := get_of P i (by rw [HNP1.out]; exact hlt)
      obtain ⟨b2, off2, hpp, _, q0, q1, q2, q3, q4, q5⟩ := jb_at (by obtain ⟨p1, n1, cc1, e, hr, _⟩ := HP.out.ext HXR.out; injection e with e1 e2 e3; subst e1 e2 e3; exact hr) gx
      subst hpp
      obtain ⟨z, hz, z1, z2⟩ := ren_form (qok_pos1 HQL.out) x (qok_pos1 HQP.out x (List.mem_of_getElem? gx))
      have gy : (renewL L P)[i]? = some (setl x z) := by unfold renewL; rw [List.getElem?_map, gx, ← hz]; rfl
      obtain ⟨b, off, hpr, _, y0, y1, y2, y3, y4, y5⟩ := jb_at (by obtain ⟨p1, n1, cc1, e, hr, _⟩ := HR.out.ext HXR.out; injection e with e1 e2 e3; subst e1 e2 e3; exact hr) gy
      subst hpr
      have c0 : wr.cell? ⟨b, off + i * 6, none⟩ = some (.int .i64 x.i) := y0
      have c1 : wr.cell? ⟨b, off + i * 6 + 1, none⟩ = some (.int .i64 x.v) := y1
      have c2 : wr.cell? ⟨b, off + i * 6 + 2, none⟩ = some (.int .i64 x.f) := y2
      have c3 : wr.cell? ⟨b, off + i * 6 + 3, none⟩ = some (.int .i64 x.t) := y3
      have c4 : wr.cell? ⟨b, off + i * 6 + 4, none⟩ = some (.int .i64 x.h) := y4
      have c5 : wr.cell? ⟨b, off + i * 6 + 5, none⟩ = some (.int .i64 z) := y5
      have hlt' : (i : Int) < (nr : Int) := by omega
      have hlt0 : (0 : Int) ≤ (i : Int) := by omega
      have dz : decide (x.l < z) = false := decide_eq_false (by omega)
      clear gx gy hz y0 y1 y2 y3 y4 y5
      go_wp2
      obtain ⟨w1b, hw1b⟩ : ∃ w1b, (wr.alloc (.cells #[.int .i64 x.i, .int .i64 x.v, .int .i64 x.f, .int .i64 x.t, .int .i64 x.h, .int .i64 z] 33)) = w1b := ⟨_, rfl⟩
      have HX1 : Hid (Ext wr w1b) := Lib.hid (by rw [← hw1b]; exact Ext.alloc _ _)
      have HB1 : Hid (w1b.heap[wr.heap.size]? = some (.cells #[.int .i64 x.i, .int .i64 x.v, .int .i64 x.f, .int .i64 x.t, .int .i64 x.h, .int .i64 z] 33 (0, 0))) := Lib.hid (by rw [← hw1b]; exact heap_alloc_new wr _)
      have d0 : ∀ g : Gr w1b, g.w.cell? ⟨wr.heap.size, 0, none⟩ = some (.int .i64 x.i) := fun g => g.cell (by rw [← hw1b]; exact cell_of_row _ _ 0 _ _ _ (heap_alloc_new wr _))
      have d1 : ∀ g : Gr w1b, g.w.cell? ⟨wr.heap.size, 1, none⟩ = some (.int .i64 x.v) := fun g => g.cell (by rw [← hw1b]; exact cell_of_row _ _ 1 _ _ _ (heap_alloc_new wr _))
      have d2 : ∀ g : Gr w1b, g.w.cell? ⟨wr.heap.size, 2, none⟩ = some (.int .i64 x.f) := fun g => g.cell (by rw [← hw1b]; exact cell_of_row _ _ 2 _ _ _ (heap_alloc_new wr _))
      have d3 : ∀ g : Gr w1b, g.w.cell? ⟨wr.heap.size, 3, none⟩ = some (.int .i64 x.t) := fun g => g.cell (by rw [← hw1b]; exact cell_of_row _ _ 3 _ _ _ (heap_alloc_new wr _))
      have d4 : ∀ g : Gr w1b, g.w.cell? ⟨wr.heap.size, 4, none⟩ = some (.int .i64 x.h) := fun g => g.cell (by rw [← hw1b]; exact cell_of_row _ _ 4 _ _ _ (heap_alloc_new wr _))
      have d5 : ∀ g : Gr w1b, g.w.cell? ⟨wr.heap.size, 5, none⟩ = some (.int .i64 z) := fun g => g.cell (by rw [← hw1b]; exact cell_of_row _ _ 5 _ _ _ (heap_alloc_new wr _))
      have f0 : ∀ g : Gr w1b, g.w.cell? ⟨b2, off2 + i * 6, none⟩ = some (.int .i64 x.i) := fun g => g.cell (HX1.out.cell q0)
      have f1 : ∀ g : Gr w1b, g.w.cell? ⟨b2, off2 + i * 6 + 1, none⟩ = some (.int .i64 x.v) := fun g => g.cell (HX1.out.cell q1)
      have f2 : ∀ g : Gr w1b, g.w.cell? ⟨b2, off2 + i * 6 + 2, none⟩ = some (.int .i64 x.f) := fun g => g.cell (HX1.out.cell q2)
      have f3 : ∀ g : Gr w1b, g.w.cell? ⟨b2, off2 + i * 6 + 3, none⟩ = some (.int .i64 x.t) := fun g => g.cell (HX1.out.cell q3)
      have f4 : ∀ g : Gr w1b, g.w.cell? ⟨b2, off2 + i * 6 + 4, none⟩ = some (.int .i64 x.h) := fun g => g.cell (HX1.out.cell q4)
      have f5 : ∀ g : Gr w1b, g.w.cell? ⟨b2, off2 + i * 6 + 5, none⟩ = some (.int .i64 x.l) := fun g => g.cell (HX1.out.cell q5)
      rw [hw1b]
      clear hw1b c0 c1 c2 c3 c4 c5
      refine wp_region_grown (Ext.refl w1b) (by kernel_rfl) (by kernel_rfl) ?_
      repeat (go_big_quiet_step (fail))
      refine wpQuiet_nil ?_
      intro gw
      have e5 := f5 gw
      have b5 := d5 gw
      have HBW := Lib.hid (heap_ext HB1.out gw.h)
      have hfz : gw.w.frozen? ⟨wr.heap.size, 5, none⟩ = false := frozen_of_row gw.w _ 5 _ _ HBW.out
      have HX2 : Hid (Ext wr (gw.w.setCell ⟨wr.heap.size, 5, none⟩ (.int .i64 x.l))) := Lib.hid (Below.setCell (Ext.trans HX1.out gw.h) (p := ⟨wr.heap.size, 5, none⟩) (Nat.le_refl _) (.int .i64 x.l))
      have HB2 : Hid ((gw.w.setCell ⟨wr.heap.size, 5, none⟩ (.int .i64 x.l)).heap[wr.heap.size]? = some (.cells #[.int .i64 x.i, .int .i64 x.v, .int .i64 x.f, .int .i64 x.t, .int .i64 x.h, .int .i64 x.l] 33 (0, 0))) := Lib.hid (by rw [setCell_eq_setRow gw.w wr.heap.size 5 _ _ _ _ HBW.out]; exact setRow_heap _ _ _ _ _ _ HBW.out)
      clear d0 d1 d2 d3 d4 d5 f0 f1 f2 f3 f4 f5
      go_wp2
      generalize gw.w.setCell ⟨wr.heap.size, 5, none⟩ (.int .i64 x.l) = w2b at HX2 HB2 ⊢
      have D0 : ∀ g : Gr w2b, g.w.cell? ⟨wr.heap.size, 0, none⟩ = some (.int .i64 x.i) := fun g => g.cell (cell_of_row _ _ 0 _ _ _ HB2.out)
      have D1 : ∀ g : Gr w2b, g.w.cell? ⟨wr.heap.size, 1, none⟩ = some (.int .i64 x.v) := fun g => g.cell (cell_of_row _ _ 1 _ _ _ HB2.out)
      have D2 : ∀ g : Gr w2b, g.w.cell? ⟨wr.heap.size, 2, none⟩ = some (.int .i64 x.f) := fun g => g.cell (cell_of_row _ _ 2 _ _ _ HB2.out)
      have D3 : ∀ g : Gr w2b, g.w.cell? ⟨wr.heap.size, 3, none⟩ = some (.int .i64 x.t) := fun g => g.cell (cell_of_row _ _ 3 _ _ _ HB2.out)
      have D4 : ∀ g : Gr w2b, g.w.cell? ⟨wr.heap.size, 4, none⟩ = some (.int .i64 x.h) := fun g => g.cell (cell_of_row _ _ 4 _ _ _ HB2.out)
      have D5 : ∀ g : Gr w2b, g.w.cell? ⟨wr.heap.size, 5, none⟩ = some (.int .i64 x.l) := fun g => g.cell (cell_of_row _ _ 5 _ _ _ HB2.out)
      have F0 : ∀ g : Gr w2b, g.w.cell? ⟨b2, off2 + i * 6, none⟩ = some (.int .i64 x.i) := fun g => g.cell (HX2.out.cell q0)
      have F1 : ∀ g : Gr w2b, g.w.cell? ⟨b2, off2 + i * 6 + 1, none⟩ = some (.int .i64 x.v) := fun g => g.cell (HX2.out.cell q1)
      have F2 : ∀ g : Gr w2b, g.w.cell? ⟨b2, off2 + i * 6 + 2, none⟩ = some (.int .i64 x.f) := fun g => g.cell (HX2.out.cell q2)
      have F3 : ∀ g : Gr w2b, g.w.cell? ⟨b2, off2 + i * 6 + 3, none⟩ = some (.int .i64 x.t) := fun g => g.cell (HX2.out.cell q3)
      have F4 : ∀ g : Gr w2b, g.w.cell? ⟨b2, off2 + i * 6 + 4, none⟩ = some (.int .i64 x.h) := fun g => g.cell (HX2.out.cell q4)
      have F5 : ∀ g : Gr w2b, g.w.cell? ⟨b2, off2 + i * 6 + 5, none⟩ = some (.int .i64 x.l) := fun g => g.cell (HX2.out.cell q5)
      clear e5 b5 hfz q0 q1 q2 q3 q4 q5
      refine wp_region_grown (Ext.refl w2b) (by kernel_rfl) (by kernel_rfl) ?_
      repeat (go_big_quiet_step (fail))
      refine wpQuiet_nil ?_
      intro gw2
      have HX4 := Lib.hid (Ext.trans HXR.out (Ext.trans HX2.out gw2.h))
      clear D0 D1 D2 D3 D4 D5 F0 F1 F2 F3 F4 F5
      go_wp2
      go_roundw
      case rel => exact ⟨i + 1, by go_num, by omega, HX4.out⟩
      case measure => simp [intOf]; omega
    · obtain rfl : i = nr := by omega
      have hz : Ext w wr := Ext.trans HZ.out HXR.out
      replace HL := Lib.hid (HL.out.ext HXR.out)
      replace HP := Lib.hid (HP.out.ext HXR.out)
      clear HR HX HY HXR HZ
      go_wp2_with fail
      refine (step_v _ L bud bud _ HL.out HQL.out.small (by have := HNL.out; omega) (mi64 (by omega)) (by omega)).mono ?_
      rintro e w8 ⟨⟨v4, v5, rfl, hs, hs2⟩, hx9⟩
      replace HL := Lib.hid (HL.out.ext hx9)
      replace HP := Lib.hid (HP.out.ext hx9)
      replace hz := Ext.trans hz hx9
      clear hx9
      have HA := Lib.hid hs
      have HLEN := Lib.hid (step_len L bud)
      have HRL := Lib.hid (renew_left HQL.out r0)
      have HQA := Lib.hid (qok_step HQL.out r0)
      clear hs hs2
      obtain ⟨LL, hLL⟩ : ∃ x, (stepL L bud).1 = x := ⟨_, rfl⟩
      rw [hLL] at HA HLEN HRL HQA
      clear hLL
      go_wp2_with fail
      refine (renew_v _ _ LL L _ HA.out HL.out (by have := HLEN.out; have := HNL.out; omega) (by have := HNL.out; omega)).mono ?_
      rintro e w9 ⟨⟨v6, rfl, hs⟩, hx9⟩
      replace HL := Lib.hid (HL.out.ext hx9)
      replace HP := Lib.hid (HP.out.ext hx9)
      replace HA := Lib.hid (HA.out.ext hx9)
      replace hz := Ext.trans hz hx9
      clear hx9
      have HM := Lib.hid hs
      clear hs
      have HL1 := HL
      have HA1 := HA
      have HM1 := HM
      obtain ⟨pl, nl, cl, rfl, hrl, _, _, _⟩ := HL1.out
      obtain ⟨pa, na, ca, rfl, hra, _, _, _⟩ := HA1.out
      obtain ⟨pm, nm, cm, rfl, hrm, hncm, hcmm, hplm⟩ := HM1.out
      obtain rfl : nm = nl := by have := hrm.1; have := hrl.1; have := ren_len LL L; omega
      obtain ⟨ne, hne⟩ : ∃ ne, nm - na = ne := ⟨_, rfl⟩
      have hle : na ≤ nm := by have := HLEN.out; have := hra.1; have := hrl.1; omega
      have HNE : Hid ((stepL L bud).2.length = ne) := Lib.hid (by have := HLEN.out; have := hra.1; have := hrl.1; omega)
      have hsub : (nm : Int) - (na : Int) = (ne : Int) := by omega
      have hlt1 : decide ((nm : Int) < (na : Int)) = false := decide_eq_false (by omega)
      have hlt2 : decide (nm < na) = false := decide_eq_false (by omega)
      have hlt3 : ¬ (nm : Int) < (na : Int) := by omega
      have hnm40 : nm ≤ 40 := by have := hrl.1; have := HNL.out; omega
      have HPM := Lib.hid hplm
      clear hrl hra hrm hplm HL1 HA1 HM1
      go_wp2_with fail
      refine (renew_v _ _ L L _ HL.out HL.out (by have := HNL.out; omega) (by have := HNL.out; omega)).mono ?_
      rintro e w10 ⟨⟨v7, rfl, hs⟩, hx9⟩
      replace HL := Lib.hid (HL.out.ext hx9)
      replace HP := Lib.hid (HP.out.ext hx9)
      replace HA := Lib.hid (HA.out.ext hx9)
      replace HM := Lib.hid (HM.out.ext hx9)
      replace hz := Ext.trans hz hx9
      clear hx9
      rw [renew_self HQL.out] at hs
      have HS1 := Lib.hid hs
      clear hs
      go_wp2_with fail
      refine (same_v _ _ _ _ _ HS1.out HL.out).mono ?_
      rintro e w11 ⟨rfl, hx9⟩
      replace HL := Lib.hid (HL.out.ext hx9)
      replace HP := Lib.hid (HP.out.ext hx9)
      replace HA := Lib.hid (HA.out.ext hx9)
      replace HM := Lib.hid (HM.out.ext hx9)
      replace HS1 := Lib.hid (HS1.out.ext hx9)
      replace hz := Ext.trans hz hx9
      clear hx9
      rw [decide_eq_true rfl]
      go_wp2_with fail
      refine (renew_v _ _ [] P _ (Lay.Sl.nil _ _) HP.out (by simp) (by have := HNP.out; omega)).mono ?_
      rintro e w12 ⟨⟨v8, rfl, hs⟩, hx9⟩
      replace HL := Lib.hid (HL.out.ext hx9)
      replace HP := Lib.hid (HP.out.ext hx9)
      replace HA := Lib.hid (HA.out.ext hx9)
      replace HM := Lib.hid (HM.out.ext hx9)
      replace HS1 := Lib.hid (HS1.out.ext hx9)
      replace hz := Ext.trans hz hx9
      clear hx9
      rw [renew_nil] at hs
      have HS2 := Lib.hid hs
      clear hs
      have slf : ∀ w, (Instr.slice 22 (.slice pm nm cm) (some (.int .i64 (ne : Int))) none none).run Try.prog w = .ok (.slice (cutP pm cm ne LJb.size) (nm - ne) (cm - ne)) w := fun w => run_cut_from Try.underlying22 info_size _ _ _ _ _ rfl (by omega) hncm w
      have hne0 : (0 : Int) ≤ (ne : Int) := by omega
      go_wp2_with fail
      refine (same_v _ _ _ _ _ HS2.out HP.out).mono ?_
      rintro e w13 ⟨rfl, hx9⟩
      replace HL := Lib.hid (HL.out.ext hx9)
      replace HP := Lib.hid (HP.out.ext hx9)
      replace HA := Lib.hid (HA.out.ext hx9)
      replace HM := Lib.hid (HM.out.ext hx9)
      replace HS1 := Lib.hid (HS1.out.ext hx9)
      replace HS2 := Lib.hid (HS2.out.ext hx9)
      replace hz := Ext.trans hz hx9
      clear hx9
      rw [decide_eq_true rfl]
      have HCUT := Lib.hid (show LJb.Sl w13 (.slice (cutP pm cm ne LJb.size) (nm - ne) (cm - ne)) LL by
        have h1 := HRL.out
        rw [HNE.out] at h1
        rw [← h1]
        obtain ⟨p1, n1, c1, e, hr, _⟩ := HM.out
        injection e with e1 e2 e3
        subst e1 e2 e3
        exact Lay.Sl.mk (hr.cut_from hncm HPM.out ne (by omega)) (by omega) (by omega) (HPM.out.cut ne LJb.size))
      go_wp2_with fail
      refine (same_v _ _ _ _ _ HCUT.out HA.out).mono ?_
      rintro e w14 ⟨rfl, hx9⟩
      replace HL := Lib.hid (HL.out.ext hx9)
      replace HP := Lib.hid (HP.out.ext hx9)
      replace HA := Lib.hid (HA.out.ext hx9)
      replace HM := Lib.hid (HM.out.ext hx9)
      replace HS1 := Lib.hid (HS1.out.ext hx9)
      replace HS2 := Lib.hid (HS2.out.ext hx9)
      replace HCUT := Lib.hid (HCUT.out.ext hx9)
      replace hz := Ext.trans hz hx9
      clear hx9
      rw [decide_eq_true rfl]
      go_wp2
      go_ret
      exact ⟨rfl, hz⟩
end Go.Proofs.Ytlbpgaoindkgbaa.Me
