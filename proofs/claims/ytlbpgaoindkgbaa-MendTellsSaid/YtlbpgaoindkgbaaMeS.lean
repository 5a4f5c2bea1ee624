/- Jobs: what is spent is the budget, or all there is. -/
import Derived.Test.YtlbpgaoindkgbaaMeR
namespace Go.Proofs.Ytlbpgaoindkgbaa.Me
open Go.RowKit Go.Proofs.Ytlbpgaoindkgbaa Go.Sort
set_option linter.unusedVariables false

theorem setl_self (x : Jb) : setl x x.l = x := rfl
theorem step_spec : ∀ (L : List Jb) (r : Int), (∀ x ∈ L, 1 ≤ x.l) → 0 ≤ r → ∀ (i : Nat) (x : Jb), L[i]? = some x → (i < (stepL L r).2.length → (stepL L r).2[i]? = some (setl x 0)) ∧ ((stepL L r).2.length ≤ i → ∃ y, (stepL L r).1[i - (stepL L r).2.length]? = some (setl x y) ∧ 1 ≤ y ∧ y ≤ x.l ∧ ((stepL L r).2.length < i → y = x.l))
  | [], r, _, _, i, x, h => by simp at h
  | z :: m, r, hp, hr, i, x, h => by
    by_cases hc : r < z.l
    · have e : stepL (z :: m) r = (setl z (z.l - r) :: m, []) := by show (if r < z.l then _ else _) = _; rw [if_pos hc]
      rw [e]
      refine ⟨fun hi => by simp at hi, fun _ => ?_⟩
      cases i with
      | zero =>
        obtain rfl : z = x := by simpa using h
        exact ⟨z.l - r, rfl, by omega, by omega, fun h => by simp at h⟩
      | succ j =>
        have hm : m[j]? = some x := by simpa using h
        exact ⟨x.l, by rw [setl_self]; simpa using hm, hp x (by simp [List.mem_of_getElem? hm]), by omega, fun _ => rfl⟩
    · have e : stepL (z :: m) r = ((stepL m (r - z.l)).1, setl z 0 :: (stepL m (r - z.l)).2) := by show (if r < z.l then _ else _) = _; rw [if_neg hc]
      rw [e]
      cases i with
      | zero =>
        obtain rfl : z = x := by simpa using h
        exact ⟨fun _ => rfl, fun hi => by simp at hi⟩
      | succ j =>
        have hm : m[j]? = some x := by simpa using h
        obtain ⟨h1, h2⟩ := step_spec m (r - z.l) (fun a ha => hp a (by simp [ha])) (by omega) j x hm
        refine ⟨fun hi => ?_, fun hi => ?_⟩
        · have := h1 (by simpa using hi)
          simpa using this
        · obtain ⟨y, k1, k2, k3, k4⟩ := h2 (by simpa using hi)
          refine ⟨y, ?_, k2, k3, fun hh => k4 (by simpa using hh)⟩
          simpa using k1
def CntM (w0 : World) (n : Nat) (i : Value) (wr : World) : Prop := ∃ t : Nat, i = .int .i64 t ∧ t ≤ n ∧ Ext w0 wr
set_option maxRecDepth 100000 in
set_option maxHeartbeats 4000000 in
theorem budget_walk {u : Value} {l : List Jb} {bud : Int} {w : World} (hu : LJb.Sl w u l) (hb : (Lit.int .i64 bud).wf = true) : Calls Try.prog 5 #[u, .int .i64 bud] w fun e w' => e = .returned (.bool true) ∧ Ext w w' := by
  obtain ⟨R, hR⟩ : ∃ R, R = max bud 0 := ⟨_, rfl⟩
  have HR := Lib.hid hR
  have HWB := Lib.hid hb
  have HX := Lib.hid hu
  have hz : Ext w w := Ext.refl _
  clear hb hR hu
  go_enter Try.func5, Try.ntmps5
  go_wp2_with fail
  refine (head_v _).mono ?_
  rintro e w1 ⟨rfl, hx9⟩
  replace HX := Lib.hid (HX.out.ext hx9)
  replace hz := Ext.trans hz hx9
  clear hx9
  go_wp2_with fail
  refine (few_any _ l _ HX.out).mono ?_
  rintro e w2 ⟨⟨v1, rfl, hs⟩, hx9⟩
  replace HX := Lib.hid (HX.out.ext hx9)
  replace hz := Ext.trans hz hx9
  clear hx9
  have HF := Lib.hid hs
  clear hs
  go_wp2_with fail
  refine (rorder_v _ _ _ HF.out (by simp; omega)).mono ?_
  rintro e w3 ⟨⟨v2, rfl, hs⟩, hx9⟩
  replace HX := Lib.hid (HX.out.ext hx9)
  replace HF := Lib.hid (HF.out.ext hx9)
  replace hz := Ext.trans hz hx9
  clear hx9
  obtain ⟨L, hL⟩ : ∃ L, ordL (l.take 40) = L := ⟨_, rfl⟩
  have HQ : Hid (QOk L) := Lib.hid (by rw [← hL]; exact qok_ord _)
  have HN : Hid (L.length ≤ 40) := Lib.hid (by rw [← hL]; exact ord40 l)
  rw [hL] at hs
  have HL := Lib.hid hs
  clear hs hL
  go_wp2_with fail
  refine (step_v _ L bud R _ HL.out HQ.out.small (by have := HN.out; omega) HWB.out HR.out).mono ?_
  rintro e w4 ⟨⟨v3, v4, rfl, hs, hs2⟩, hx9⟩
  replace HX := Lib.hid (HX.out.ext hx9)
  replace HF := Lib.hid (HF.out.ext hx9)
  replace HL := Lib.hid (HL.out.ext hx9)
  replace hz := Ext.trans hz hx9
  clear hx9
  have HA := Lib.hid hs
  have HE := Lib.hid hs2
  clear hs hs2
  have hR0 : 0 ≤ R := by have := HR.out; omega
  have HQ1 : Hid (QOk (stepL L R).1) := Lib.hid (qok_step HQ.out hR0)
  have HTT : Hid (totI (stepL L R).1 = max 0 (totI L - R)) := Lib.hid (step_tot HQ.out.small hR0)
  have HSL := Lib.hid (step_len L R)
  have HSP := Lib.hid (step_spec L R (fun x hx => (may_l (HQ.out.1 x hx)).1) hR0)
  have HTB : Hid (0 ≤ totI L ∧ totI L ≤ 2600) := Lib.hid (by have := tot_bd HQ.out.small; have := HN.out; omega)
  obtain ⟨LL, hLL⟩ : ∃ x, (stepL L R).1 = x := ⟨_, rfl⟩
  obtain ⟨EE, hEE⟩ : ∃ x, (stepL L R).2 = x := ⟨_, rfl⟩
  rw [hLL] at HA HQ1 HTT HSL HSP
  rw [hEE] at HE HSL HSP
  clear hLL hEE
  obtain ⟨T, hT⟩ : ∃ T, totI L = T := ⟨_, rfl⟩
  have HT := Lib.hid hT
  rw [hT] at HTB HTT
  clear hT
  go_wp2_with fail
  refine (total_e _ L _ HL.out HQ.out.small (by have := HN.out; omega)).mono ?_
  rintro e w5 ⟨rfl, hx9⟩
  replace HX := Lib.hid (HX.out.ext hx9)
  replace HF := Lib.hid (HF.out.ext hx9)
  replace HL := Lib.hid (HL.out.ext hx9)
  replace HA := Lib.hid (HA.out.ext hx9)
  replace HE := Lib.hid (HE.out.ext hx9)
  replace hz := Ext.trans hz hx9
  clear hx9
  rw [HT.out]
  have HL1 := HL
  have HA1 := HA
  have HE1 := HE
  obtain ⟨pl, nl, cl, rfl, hrl, _, _, _⟩ := HL1.out
  obtain ⟨pa, na, ca, rfl, hra, _, _, _⟩ := HA1.out
  obtain ⟨pe, ne, ce, rfl, hre, _, _, _⟩ := HE1.out
  have HNL : Hid (L.length = nl) := Lib.hid hrl.1
  have HNA : Hid (LL.length = na) := Lib.hid hra.1
  have HNE : Hid (EE.length = ne) := Lib.hid hre.1
  obtain rfl : nl = na + ne := by have := hrl.1; have := hra.1; have := hre.1; have := HSL.out; omega
  have hn40 : na + ne ≤ 40 := by have := HN.out; have := hrl.1; omega
  clear hrl hra hre HL1 HA1 HE1
  go_wp2_with fail
  refine (total_e _ LL _ HA.out HQ1.out.small (by have := HNA.out; omega)).mono ?_
  rintro e w6 ⟨rfl, hx9⟩
  replace HX := Lib.hid (HX.out.ext hx9)
  replace HF := Lib.hid (HF.out.ext hx9)
  replace HL := Lib.hid (HL.out.ext hx9)
  replace HA := Lib.hid (HA.out.ext hx9)
  replace HE := Lib.hid (HE.out.ext hx9)
  replace hz := Ext.trans hz hx9
  clear hx9
  rw [HTT.out]
  have HTB2 := HTB.out
  obtain ⟨t0, t1⟩ := HTB2
  have hmx : max bud 0 = R := HR.out.symm
  obtain ⟨D, hD⟩ : ∃ D, max 0 (T - R) = D := ⟨_, rfl⟩
  have hD0 : 0 ≤ D ∧ D ≤ T ∧ T - D = min R T := by omega
  rw [hD]
  obtain ⟨hd0, hd1, hd2⟩ := hD0
  have hdn : (T - D != min R T) = false := by rw [hd2]; simp
  have hdn2 : (min R T != min R T) = false := by simp
  have HZ := Lib.hid hz
  clear hD hz HF
  go_wp2
  go_loopw [10, 11, 12, 13] (fun i _ _ _ wr => CntM w6 (na + ne) i wr) (fun i _ _ _ _ => na + ne - (intOf i).toNat)
  case atStart => exact ⟨0, rfl, by omega, Ext.refl _⟩
  case round =>
    obtain ⟨i, rfl, hi, hx⟩ := hrel
    have HXR := Lib.hid hx
    clear hx hmx hd0 hd1 hd2 hdn hdn2
    by_cases hlt : i < na + ne
    · obtain ⟨x, gx⟩ := get_of L i (by rw [HNL.out]; exact hlt)
      obtain ⟨b, off, hpl, hw, c0, c1, c2, c3, c4, c5⟩ := jb_at (by obtain ⟨p1, n1, cc1, e, hr, _⟩ := HL.out.ext HXR.out; injection e with e1 e2 e3; subst e1 e2 e3; exact hr) gx
      subst hpl
      obtain ⟨hs1, hs2⟩ := HSP.out i x gx
      rw [HNE.out] at hs1 hs2
      have hlt' : (i : Int) < (na : Int) + (ne : Int) := by omega
      have hlt0 : (0 : Int) ≤ (i : Int) := by omega
      have HXL := Lib.hid (may_l (HQ.out.1 x (List.mem_of_getElem? gx)))
      clear gx hw
      by_cases hie : i < ne
      · have gy := hs1 hie
        obtain ⟨b2, off2, hpe, _, y0, y1, y2, y3, y4, y5⟩ := jb_at (by obtain ⟨p1, n1, cc1, e, hr, _⟩ := HE.out.ext HXR.out; injection e with e1 e2 e3; subst e1 e2 e3; exact hr) gy
        subst hpe
        have hie' : (i : Int) < (ne : Int) := by omega
        have q0 : wr.cell? ⟨b2, off2 + i * 6, none⟩ = some (.int .i64 x.i) := y0
        have q1 : wr.cell? ⟨b2, off2 + i * 6 + 1, none⟩ = some (.int .i64 x.v) := y1
        have q2 : wr.cell? ⟨b2, off2 + i * 6 + 2, none⟩ = some (.int .i64 x.f) := y2
        have q3 : wr.cell? ⟨b2, off2 + i * 6 + 3, none⟩ = some (.int .i64 x.t) := y3
        have q4 : wr.cell? ⟨b2, off2 + i * 6 + 4, none⟩ = some (.int .i64 x.h) := y4
        have q5 : wr.cell? ⟨b2, off2 + i * 6 + 5, none⟩ = some (.int .i64 0) := y5
        clear y0 y1 y2 y3 y4 y5 gy hs1 hs2
        go_wp2
        obtain ⟨w1b, hw1b⟩ : ∃ w1b, wr.alloc (.cells #[.int .i64 x.i, .int .i64 x.v, .int .i64 x.f, .int .i64 x.t, .int .i64 x.h, .int .i64 0] 33) = w1b := ⟨_, rfl⟩
        have HX1 : Hid (Ext wr w1b) := Lib.hid (by rw [← hw1b]; exact Ext.alloc _ _)
        have d0 : ∀ g : Gr w1b, g.w.cell? ⟨wr.heap.size, 0, none⟩ = some (.int .i64 x.i) := fun g => g.cell (by rw [← hw1b]; exact cell_of_row _ _ 0 _ _ _ (heap_alloc_new wr _))
        have d1 : ∀ g : Gr w1b, g.w.cell? ⟨wr.heap.size, 1, none⟩ = some (.int .i64 x.v) := fun g => g.cell (by rw [← hw1b]; exact cell_of_row _ _ 1 _ _ _ (heap_alloc_new wr _))
        have d2 : ∀ g : Gr w1b, g.w.cell? ⟨wr.heap.size, 2, none⟩ = some (.int .i64 x.f) := fun g => g.cell (by rw [← hw1b]; exact cell_of_row _ _ 2 _ _ _ (heap_alloc_new wr _))
        have d3 : ∀ g : Gr w1b, g.w.cell? ⟨wr.heap.size, 3, none⟩ = some (.int .i64 x.t) := fun g => g.cell (by rw [← hw1b]; exact cell_of_row _ _ 3 _ _ _ (heap_alloc_new wr _))
        have d4 : ∀ g : Gr w1b, g.w.cell? ⟨wr.heap.size, 4, none⟩ = some (.int .i64 x.h) := fun g => g.cell (by rw [← hw1b]; exact cell_of_row _ _ 4 _ _ _ (heap_alloc_new wr _))
        have d5 : ∀ g : Gr w1b, g.w.cell? ⟨wr.heap.size, 5, none⟩ = some (.int .i64 0) := fun g => g.cell (by rw [← hw1b]; exact cell_of_row _ _ 5 _ _ _ (heap_alloc_new wr _))
        have f0 : ∀ g : Gr w1b, g.w.cell? ⟨b2, off2 + i * 6, none⟩ = some (.int .i64 x.i) := fun g => g.cell (HX1.out.cell q0)
        have f1 : ∀ g : Gr w1b, g.w.cell? ⟨b2, off2 + i * 6 + 1, none⟩ = some (.int .i64 x.v) := fun g => g.cell (HX1.out.cell q1)
        have f2 : ∀ g : Gr w1b, g.w.cell? ⟨b2, off2 + i * 6 + 2, none⟩ = some (.int .i64 x.f) := fun g => g.cell (HX1.out.cell q2)
        have f3 : ∀ g : Gr w1b, g.w.cell? ⟨b2, off2 + i * 6 + 3, none⟩ = some (.int .i64 x.t) := fun g => g.cell (HX1.out.cell q3)
        have f4 : ∀ g : Gr w1b, g.w.cell? ⟨b2, off2 + i * 6 + 4, none⟩ = some (.int .i64 x.h) := fun g => g.cell (HX1.out.cell q4)
        have f5 : ∀ g : Gr w1b, g.w.cell? ⟨b2, off2 + i * 6 + 5, none⟩ = some (.int .i64 0) := fun g => g.cell (HX1.out.cell q5)
        rw [hw1b]
        clear hw1b q0 q1 q2 q3 q4 q5 c0 c1 c2 c3 c4 c5
        refine wp_region_grown (Ext.refl w1b) (by kernel_rfl) (by kernel_rfl) ?_
        repeat (go_big_quiet_step (fail))
        refine wpQuiet_nil ?_
        intro gw
        have HX4 := Lib.hid (Ext.trans HXR.out (Ext.trans HX1.out gw.h))
        go_wp2
        go_roundw
        case rel => exact ⟨i + 1, by go_num, by omega, HX4.out⟩
        case measure => simp [intOf]; omega
      · obtain ⟨y, gy, k1, k2, k3⟩ := hs2 (by omega)
        obtain ⟨m, hmi⟩ : ∃ m, i - ne = m := ⟨_, rfl⟩
        rw [hmi] at gy
        have hsub : (i : Int) - (ne : Int) = (m : Int) := by omega
        obtain ⟨b2, off2, hpe, _, y0, y1, y2, y3, y4, y5⟩ := jb_at (by obtain ⟨p1, n1, cc1, e, hr, _⟩ := HA.out.ext HXR.out; injection e with e1 e2 e3; subst e1 e2 e3; exact hr) gy
        subst hpe
        have q0 : wr.cell? ⟨b2, off2 + m * 6, none⟩ = some (.int .i64 x.i) := y0
        have q1 : wr.cell? ⟨b2, off2 + m * 6 + 1, none⟩ = some (.int .i64 x.v) := y1
        have q2 : wr.cell? ⟨b2, off2 + m * 6 + 2, none⟩ = some (.int .i64 x.f) := y2
        have q3 : wr.cell? ⟨b2, off2 + m * 6 + 3, none⟩ = some (.int .i64 x.t) := y3
        have q4 : wr.cell? ⟨b2, off2 + m * 6 + 4, none⟩ = some (.int .i64 x.h) := y4
        have q5 : wr.cell? ⟨b2, off2 + m * 6 + 5, none⟩ = some (.int .i64 y) := y5
        have z0 : (wr.alloc (.cells #[.int .i64 x.i, .int .i64 x.v, .int .i64 x.f, .int .i64 x.t, .int .i64 x.h, .int .i64 x.l] 33)).cell? ⟨b2, off2 + m * 6, none⟩ = some (.int .i64 x.i) := (Ext.alloc _ _).cell q0
        have z1 : (wr.alloc (.cells #[.int .i64 x.i, .int .i64 x.v, .int .i64 x.f, .int .i64 x.t, .int .i64 x.h, .int .i64 x.l] 33)).cell? ⟨b2, off2 + m * 6 + 1, none⟩ = some (.int .i64 x.v) := (Ext.alloc _ _).cell q1
        have z2 : (wr.alloc (.cells #[.int .i64 x.i, .int .i64 x.v, .int .i64 x.f, .int .i64 x.t, .int .i64 x.h, .int .i64 x.l] 33)).cell? ⟨b2, off2 + m * 6 + 2, none⟩ = some (.int .i64 x.f) := (Ext.alloc _ _).cell q2
        have z3 : (wr.alloc (.cells #[.int .i64 x.i, .int .i64 x.v, .int .i64 x.f, .int .i64 x.t, .int .i64 x.h, .int .i64 x.l] 33)).cell? ⟨b2, off2 + m * 6 + 3, none⟩ = some (.int .i64 x.t) := (Ext.alloc _ _).cell q3
        have z4 : (wr.alloc (.cells #[.int .i64 x.i, .int .i64 x.v, .int .i64 x.f, .int .i64 x.t, .int .i64 x.h, .int .i64 x.l] 33)).cell? ⟨b2, off2 + m * 6 + 4, none⟩ = some (.int .i64 x.h) := (Ext.alloc _ _).cell q4
        have z5 : (wr.alloc (.cells #[.int .i64 x.i, .int .i64 x.v, .int .i64 x.f, .int .i64 x.t, .int .i64 x.h, .int .i64 x.l] 33)).cell? ⟨b2, off2 + m * 6 + 5, none⟩ = some (.int .i64 y) := (Ext.alloc _ _).cell q5
        clear q0 q1 q2 q3 q4 q5
        have hm1 : (m : Int) < (na : Int) := by omega
        have hm0 : (0 : Int) ≤ (m : Int) := by omega
        have hxl := HXL.out
        have d1 : decide (y < 1) = false := decide_eq_false (by omega)
        have d2 : decide (x.l < y) = false := decide_eq_false (by omega)
        clear y0 y1 y2 y3 y4 y5 gy hs1 hs2 hie
        have HX4 := Lib.hid (Ext.trans HXR.out (Ext.trans (Ext.alloc wr (.cells #[.int .i64 x.i, .int .i64 x.v, .int .i64 x.f, .int .i64 x.t, .int .i64 x.h, .int .i64 x.l] 33)) (Ext.alloc _ (.cells #[.int .i64 x.i, .int .i64 x.v, .int .i64 x.f, .int .i64 x.t, .int .i64 x.h, .int .i64 x.l] 33))))
        by_cases hm : m = 0
        · have e1 : ¬ (ne : Int) < (i : Int) := by omega
          have d3 : decide ((ne : Int) < (i : Int)) = false := decide_eq_false e1
          have d4 : decide (ne < i) = false := decide_eq_false (by omega)
          subst hm
          clear hmi
          have Z0 : (wr.alloc (.cells #[.int .i64 x.i, .int .i64 x.v, .int .i64 x.f, .int .i64 x.t, .int .i64 x.h, .int .i64 x.l] 33)).cell? ⟨b2, off2, none⟩ = some (.int .i64 x.i) := by simpa using z0
          have Z1 : (wr.alloc (.cells #[.int .i64 x.i, .int .i64 x.v, .int .i64 x.f, .int .i64 x.t, .int .i64 x.h, .int .i64 x.l] 33)).cell? ⟨b2, off2 + 1, none⟩ = some (.int .i64 x.v) := by simpa using z1
          have Z2 : (wr.alloc (.cells #[.int .i64 x.i, .int .i64 x.v, .int .i64 x.f, .int .i64 x.t, .int .i64 x.h, .int .i64 x.l] 33)).cell? ⟨b2, off2 + 2, none⟩ = some (.int .i64 x.f) := by simpa using z2
          have Z3 : (wr.alloc (.cells #[.int .i64 x.i, .int .i64 x.v, .int .i64 x.f, .int .i64 x.t, .int .i64 x.h, .int .i64 x.l] 33)).cell? ⟨b2, off2 + 3, none⟩ = some (.int .i64 x.t) := by simpa using z3
          have Z4 : (wr.alloc (.cells #[.int .i64 x.i, .int .i64 x.v, .int .i64 x.f, .int .i64 x.t, .int .i64 x.h, .int .i64 x.l] 33)).cell? ⟨b2, off2 + 4, none⟩ = some (.int .i64 x.h) := by simpa using z4
          have Z5 : (wr.alloc (.cells #[.int .i64 x.i, .int .i64 x.v, .int .i64 x.f, .int .i64 x.t, .int .i64 x.h, .int .i64 x.l] 33)).cell? ⟨b2, off2 + 5, none⟩ = some (.int .i64 y) := by simpa using z5
          go_wp2
          go_roundw
          case rel => exact ⟨i + 1, by go_num, by omega, HX4.out⟩
          case measure => simp [intOf]; omega
        · obtain rfl : y = x.l := k3 (by omega)
          have e1 : (ne : Int) < (i : Int) := by omega
          have d3 : decide ((ne : Int) < (i : Int)) = true := decide_eq_true e1
          have d4 : decide (ne < i) = true := decide_eq_true (by omega)
          clear hmi hm
          go_wp2
          go_roundw
          case rel => exact ⟨i + 1, by go_num, by omega, HX4.out⟩
          case measure => simp [intOf]; omega
    · obtain rfl : i = na + ne := by omega
      go_wp2
      go_ret
      exact ⟨rfl, Ext.trans HZ.out HXR.out⟩
end Go.Proofs.Ytlbpgaoindkgbaa.Me
