/- Written bytes: the walk of WriteTells. -/
import Derived.Test.YtcajmgdenhegjaaWrVa
import Derived.Test.YtcajmgdenhegjaaWrZc
import Derived.Deep.RegionHeld3
namespace Go.Proofs.Ytcajmgdenhegjaa.Wr
open Go.RowKit Go.Proofs.Ytcajmgdenhegjaa
set_option linter.unusedVariables false

/-- what Lay answers -/
def layC (F : List Int) (a : Int) (d : List Int) : Int × List Int :=
  if a < 0 then (1, []) else if d ≠ [] ∧ 4096 < a + (d.length : Int) then (2, []) else (0, rlaidL F a.toNat d)
theorem RetLay.tells {w0 w : World} {F : List Int} {a : Int} {d : List Int} {e : Ending} (h : RetLay w0 w F a d e) :
    ∃ p n c, e = .returned (.tuple #[.slice p n c, .int .i64 (layC F a d).1]) ∧ (Lay.int .u8).Sl w (.slice p n c) (layC F a d).2 := by
  obtain ⟨v, c, rfl, h1, h2, h3⟩ := h
  unfold layC
  by_cases h0 : a < 0
  · obtain ⟨rfl, rfl⟩ := h1 h0
    rw [if_pos h0]
    exact ⟨_, _, _, rfl, Lay.Sl.nil _ _⟩
  · rw [if_neg h0]
    by_cases hb : d ≠ [] ∧ 4096 < a + (d.length : Int)
    · obtain ⟨rfl, rfl⟩ := h2 (by omega) hb.1 hb.2
      rw [if_pos hb]
      exact ⟨_, _, _, rfl, Lay.Sl.nil _ _⟩
    · obtain ⟨rfl, ho⟩ := h3 (by omega) (fun hd => by
        have : ¬ (4096 < a + (d.length : Int)) := fun h => hb ⟨hd, h⟩
        omega)
      rw [if_neg hb]
      obtain ⟨p, n, c, rfl⟩ := own_form ho
      exact ⟨_, _, _, rfl, ho.sl⟩
set_option maxRecDepth 100000 in
set_option maxHeartbeats 8000000 in
theorem wtells_walk {v0 ud u : Value} {l : List Pc} {m f : Int} {data F : List Int} {w : World} (hl : LPc.Sl w v0 l) (hm : (Lit.int .i64 m).wf = true) (hf : (Lit.int .i64 f).wf = true) (hd : (Lay.int .u8).Sl w ud data) (hu : (Lay.int .u8).Sl w u F) : Calls Try.prog 3 #[v0, .int .i64 m, .int .i64 f, ud, u] w fun e w' => e = .returned (.bool true) ∧ Ext w w' := by
  obtain ⟨p, n, c, rfl, hn⟩ := sl_form hl
  obtain ⟨q, nf, cf, rfl, hnf⟩ := sl_form hu
  obtain ⟨qd, nd, cd, rfl, hnd⟩ := sl_form hd
  have HL := Lib.hid hl
  have HU := Lib.hid hu
  have HD := Lib.hid hd
  have HM := Lib.hid hm
  have HF := Lib.hid hf
  have HNL := Lib.hid hn
  have HNF := Lib.hid hnf
  have HND := Lib.hid hnd
  clear hl hu hd hm hf hn hnf hnd
  go_enter Try.func3, Try.ntmps3
  go_wp2_with fail
  refine (head_v _).mono ?_
  rintro e w1 ⟨rfl, hx1⟩
  have HX1 := Lib.hid hx1
  clear hx1
  go_wp2_with fail
  refine (fits_any p n c l w1 (sl_row (HL.out.ext HX1.out))).mono ?_
  rintro e w2 ⟨⟨b, rfl, hb⟩, hx2⟩
  have HX2 := Lib.hid (Ext.trans HX1.out hx2)
  cases b with
  | false =>
    clear hx2 hb
    go_wp2
    go_ret
    exact ⟨rfl, HX2.out⟩
  | true =>
    obtain ⟨h30, hall, _⟩ := hb.1 rfl
    have HR := Lib.hid hall
    have hn30 : n ≤ 30 := by rw [HNL.out]; exact h30
    clear hx2 hb h30 hall
    by_cases hd5 : 5000 < nd
    · have hd5' : (5000 : Int) < (nd : Int) := by omega
      go_wp2
      go_ret
      exact ⟨rfl, HX2.out⟩
    · have hd5' : ¬ (5000 : Int) < (nd : Int) := by omega
      have HDL : Hid (data.length ≤ 5000) := Lib.hid (by rw [← HND.out]; omega)
      by_cases hf4 : 4096 < nf
      · have hf4' : (4096 : Int) < (nf : Int) := by omega
        go_wp2
        go_ret
        exact ⟨rfl, HX2.out⟩
      · have hf4' : ¬ (4096 : Int) < (nf : Int) := by omega
        have HFL : Hid (F.length ≤ 4096) := Lib.hid (by rw [← HNF.out]; omega)
        obtain ⟨C, hC⟩ : ∃ C, (layC F f data).1 = C := ⟨_, rfl⟩
        obtain ⟨G, hG⟩ : ∃ G, (layC F f data).2 = G := ⟨_, rfl⟩
        have HC1 : Hid (Calls Try.prog 11 #[.slice q nf cf, .int .i64 f, .slice qd nd cd] w2 fun e w' => (∃ p n c, e = .returned (.tuple #[.slice p n c, .int .i64 C]) ∧ (Lay.int .u8).Sl w' (.slice p n c) G) ∧ Ext w2 w') := Lib.hid ((lay_v _ F data f qd nd cd w2 (HU.out.ext HX2.out) (HD.out.ext HX2.out) (by have := HFL.out; omega) HF.out).mono fun e w' ⟨h1, h2⟩ => by
          have h := h1.tells
          rw [hC, hG] at h
          exact ⟨h, h2⟩)
        have HC2 : Hid (∀ W, Ext w W → Calls Try.prog 12 #[.slice q nf cf, .int .i64 f, .slice qd nd cd] W fun e w' => (∃ p n c, e = .returned (.tuple #[.slice p n c, .int .i64 C]) ∧ (Lay.int .u8).Sl w' (.slice p n c) G) ∧ Ext W w') := Lib.hid fun W hW => ((rlay_v _ F data f qd nd cd W (HU.out.ext hW) (sl_row (HD.out.ext hW)) (by have := HFL.out; omega) (by omega)).mono fun e w' ⟨h1, h2⟩ => by
          have h := h1.tells
          rw [hC, hG] at h
          exact ⟨h, h2⟩)
        clear hC hG
        go_wp2_with fail
        refine HC1.out.mono ?_
        rintro e w3 ⟨⟨ga, gna, gca, rfl, hga⟩, hx3⟩
        have HX3 := Lib.hid (Ext.trans HX2.out hx3)
        have HGA3 := Lib.hid hga
        clear hx3 hga HC1
        go_wp2_with fail
        refine (HC2.out _ HX3.out).mono ?_
        rintro e w4 ⟨⟨gb, gnb, gcb, rfl, hgb⟩, hx4⟩
        have HX4 := Lib.hid (Ext.trans HX3.out hx4)
        have HGA := Lib.hid (HGA3.out.ext hx4)
        have HGB := Lib.hid hgb
        clear hx4 hgb HC2
        go_wp2_with fail
        refine (next_v p n c l w4 (HL.out.ext HX4.out)).mono ?_
        rintro e w5 ⟨hr, hx5⟩
        have HX45 := Lib.hid hx5
        have HX5 := Lib.hid (Ext.trans HX4.out hx5)
        clear hx5
        cases l with
        | nil =>
          obtain rfl := hr.1 rfl
          obtain rfl : n = 0 := by have := HNL.out; simpa using this
          clear hr
          have hx5W : Ext w5 (w5.alloc (.cells #[.int .i64 0, .int .i64 0, .slice none 0 0] 30)) := Ext.alloc _ _
          have g0 := (box3 (Ext.refl (w5.alloc (.cells #[.int .i64 0, .int .i64 0, .slice none 0 0] 30)))).1
          have HX5W := Lib.hid hx5W
          have HG0 := Lib.hid g0
          clear hx5W g0
          go_wp2
          have k0 : ∀ g : Gr (w5.alloc (.cells #[.int .i64 0, .int .i64 0, .slice none 0 0] 30)), g.w.cell? ⟨w5.heap.size, 0, none⟩ = some (.int .i64 0) := fun g => g.cell HG0.out
          refine wp_region_grown (Ext.refl (w5.alloc (.cells #[.int .i64 0, .int .i64 0, .slice none 0 0] 30))) (by kernel_rfl) (by kernel_rfl) ?_
          repeat (go_big_quiet_step (fail))
          refine wpQuiet_nil ?_
          intro gw
          have hxg := gw.h
          clear k0
          generalize gw.w = w8 at hxg ⊢
          have HX9 := Lib.hid (Ext.trans HX5.out (Ext.trans HX5W.out hxg))
          have HX49 := Lib.hid (Ext.trans HX45.out (Ext.trans HX5W.out hxg))
          clear hxg

          go_wp2_with fail
          refine (put_v _ _ _ _ m f _ data w8 (HL.out.ext HX9.out) HR.out (by omega) (HD.out.ext HX9.out) (by have := HDL.out; omega) HM.out HF.out).mono ?_
          rintro e w10 ⟨⟨v10, l10, rfl, h10, hp10⟩, hx10⟩
          obtain ⟨pa, na, ca, rfl, hn10⟩ := sl_form h10
          have HX10 := Lib.hid hx10
          have HA10 := Lib.hid h10
          have HPA := Lib.hid hp10
          clear h10 hp10 hx10 hn10
          go_wp2_with fail
          refine (rput_v _ _ _ _ m f qd nd cd data w10 (HL.out.ext (Ext.trans HX9.out HX10.out)) HR.out (by omega) (HD.out.ext (Ext.trans HX9.out HX10.out)) HM.out HF.out).mono ?_
          rintro e w11 ⟨⟨v11, l11, rfl, h11, hp11⟩, hx11⟩
          obtain ⟨pb, nb, cb, rfl, hn11⟩ := sl_form h11
          obtain rfl := PutS.uniq HPA.out hp11
          have HX11 := Lib.hid (Ext.trans HX10.out hx11)
          have HA11 := Lib.hid (HA10.out.ext hx11)
          have HB11 := Lib.hid h11
          clear h11 hp11 hx11 hn11
          have hsm := rsame_any pa pb na ca nb cb l10 l10 w11 (sl_row HA11.out) (sl_row HB11.out)
          rw [decide_eq_true rfl] at hsm
          have HSM := Lib.hid hsm
          clear hsm
          go_wp2_with fail
          refine HSM.out.mono ?_
          rintro e w12 ⟨rfl, hx12⟩
          have HX12 := Lib.hid (Ext.trans HX11.out hx12)
          clear hx12
          have hby := rbytes_any G G ga gb gna gca gnb gcb w12 (sl_row (HGA.out.ext (Ext.trans HX49.out HX12.out))) (sl_row (HGB.out.ext (Ext.trans HX49.out HX12.out)))
          rw [decide_eq_true rfl] at hby
          have HBY := Lib.hid hby
          clear hby
          go_wp2_with fail
          refine HBY.out.mono ?_
          rintro e w13 ⟨rfl, hx13⟩
          have HX13 := Lib.hid (Ext.trans HX9.out (Ext.trans HX12.out hx13))
          clear hx13
          go_wp2_with fail
          refine (csee_v _ F _ _ _ _ m w13 (HU.out.ext HX13.out) (sl_row (HL.out.ext HX13.out)) HR.out (by omega) (by have := HFL.out; omega)).mono ?_
          rintro e w14 ⟨⟨v14, rfl, ho14⟩, hx14⟩
          obtain ⟨sa, sna, sca, rfl⟩ := own_form ho14
          have HX14 := Lib.hid (Ext.trans HX13.out hx14)
          have HS14 := Lib.hid ho14.sl
          clear ho14 hx14
          go_wp2_with fail
          refine (rsee_v _ F _ m _ _ _ w14 (HU.out.ext HX14.out) (sl_row (HL.out.ext HX14.out)) HR.out (by have := HFL.out; omega)).mono ?_
          rintro e w15 ⟨⟨v15, rfl, ho15⟩, hx15⟩
          obtain ⟨sb, snb, scb, rfl, hn15⟩ := sl_form ho15
          have HX15 := Lib.hid (Ext.trans HX14.out hx15)
          have hsy := rbytes_any _ _ sa sb sna sca snb scb w15 (sl_row (HS14.out.ext hx15)) (sl_row ho15)
          rw [decide_eq_true rfl] at hsy
          have HSY := Lib.hid hsy
          clear ho15 hx15 hn15 hsy
          go_wp2_with fail
          refine HSY.out.mono ?_
          rintro e w16 ⟨rfl, hx16⟩
          have HX16 := Lib.hid (Ext.trans HX15.out hx16)
          clear hx16
          go_wp2
          go_ret
          exact ⟨rfl, HX16.out⟩
        | cons x l' =>
          obtain ⟨p1, n1, c1, q2, m2, d2, rfl, htx, hleft⟩ := hr.2 x l' rfl
          have hnl : n = l'.length + 1 := by have := HNL.out; simpa using this
          have hn0' : (0 : Int) < (n : Int) := by omega
          have hn1' : (1 : Int) ≤ (n : Int) := by omega
          obtain ⟨hrow, hnc, hcm, hpl⟩ := sl_parts HL.out
          obtain ⟨b, off, rfl⟩ := hpl (by omega)
          have HTX := Lib.hid htx
          have HLEFT := Lib.hid hleft
          have hn1 : 1 ≤ n := by omega
          have hn0 : 0 < n := hn1
          clear hr htx hleft hnl
          obtain ⟨W, hW⟩ : ∃ W, (w5.alloc (.cells #[.int .i64 x.i, .int .i64 x.f, .slice p1 n1 c1] 30)) = W := ⟨_, rfl⟩
          obtain ⟨bx, hbx⟩ : ∃ bx, w5.heap.size = bx := ⟨_, rfl⟩
          have hx5W : Ext w5 W := by rw [← hW]; exact Ext.alloc _ _
          have HX5W := Lib.hid hx5W
          have hbox : Ext (w5.alloc (.cells #[.int .i64 x.i, .int .i64 x.f, .slice p1 n1 c1] 30)) W := by rw [hW]; exact Ext.refl _
          obtain ⟨g0, g1, g2⟩ := box3 hbox
          rw [hbx] at g0 g1 g2
          have HS9 : Hid (∀ w', Ext W w' → (fun w' : World => w'.cell? ⟨bx, 0, none⟩ = some (.int .i64 x.i) ∧ w'.cell? ⟨bx, 1, none⟩ = some (.int .i64 x.f) ∧ w'.cell? ⟨bx, 2, none⟩ = some (.slice p1 n1 c1)) w') := Lib.hid fun w' h => ⟨h.cell g0, h.cell g1, h.cell g2⟩
          obtain ⟨off2, hcut⟩ := cut_one b off c (by omega)
          have hsl1 : ∀ W, (Instr.slice 22 (.slice (some ⟨b, off, none⟩) n c) none (some (.int .i64 1)) none).run Try.prog W = .ok (.slice (some ⟨b, off, none⟩) 1 c) W := fun W =>
            run_cut_to (P := Try.prog) (t := 22) (e := 30) Try.underlying22 rowsize_pc (some ⟨b, off, none⟩) n c 1 1 rfl (by omega) (fun _ => ⟨b, off, rfl⟩) W
          have hsl2 : ∀ W, (Instr.slice 22 (.slice (some ⟨b, off, none⟩) n c) (some (.int .i64 1)) none none).run Try.prog W = .ok (.slice (some ⟨b, off2, none⟩) (n - 1) (c - 1)) W := fun W => by
            have h := run_cut_from (P := Try.prog) (t := 22) (e := 30) Try.underlying22 rowsize_pc (some ⟨b, off, none⟩) n c 1 1 rfl (by omega) hnc W
            rw [hcut] at h
            exact h
          have hrest : LPc.Row w (some ⟨b, off2, none⟩) (n - 1) l' := by
            have h := hrow.cut_from hnc (fun _ => ⟨b, off, rfl⟩) 1 (by omega)
            have e : cutP (some ⟨b, off, none⟩) c 1 LPc.size = cutP (some ⟨b, off, none⟩) c 1 3 := rfl
            rw [e, hcut] at h
            exact h
          have hfirst : LPc.Row w (some ⟨b, off, none⟩) 1 [x] := by
            have h := hrow.pre 1 (by omega)
            simpa using h
          have HC1 : Hid (Calls Try.prog 14 #[.slice (some ⟨W.heap.size, 0, none⟩) 1 1, .slice (some ⟨b, off, none⟩) 1 c] (W.alloc (.cells #[.int .i64 x.i, .int .i64 x.f, .slice p1 n1 c1] 30)).drew fun e w' => e = .returned (.bool true) ∧ Ext (W.alloc (.cells #[.int .i64 x.i, .int .i64 x.f, .slice p1 n1 c1] 30)).drew w') := Lib.hid (by
            have hxx : Ext w5 (W.alloc (.cells #[.int .i64 x.i, .int .i64 x.f, .slice p1 n1 c1] 30)).drew := Ext.trans hx5W (Ext.drew (Ext.alloc _ _))
            have h := rsame_any (some ⟨W.heap.size, 0, none⟩) (some ⟨b, off, none⟩) 1 1 1 c [x] [x] _ (pcs_one 30 (TriC.ext HTX.out hxx) (Ext.drew (Ext.refl _))) (hfirst.ext (Ext.trans HX5.out hxx))
            rw [decide_eq_true rfl] at h
            exact h)
          have HC2 : Hid (∀ W2, Ext W W2 → Calls Try.prog 14 #[.slice q2 m2 d2, .slice (some ⟨b, off2, none⟩) (n - 1) (c - 1)] W2 fun e w' => e = .returned (.bool true) ∧ Ext W2 w') := Lib.hid fun W2 h2 => by
            have h := rsame_any q2 (some ⟨b, off2, none⟩) m2 d2 (n - 1) (c - 1) l' l' W2 (sl_row (HLEFT.out.ext (Ext.trans hx5W h2))) (hrest.ext (Ext.trans HX5.out (Ext.trans hx5W h2)))
            rw [decide_eq_true rfl] at h
            exact h
          clear hrow hpl hcut hrest hfirst hbox hx5W
          go_wp2
          try rw [hW]
          try rw [hbx]
          clear hW hbx
          refine wp_region_held_drew (S := fun w' : World => w'.cell? ⟨bx, 0, none⟩ = some (.int .i64 x.i) ∧ w'.cell? ⟨bx, 1, none⟩ = some (.int .i64 x.f) ∧ w'.cell? ⟨bx, 2, none⟩ = some (.slice p1 n1 c1)) (by kernel_rfl) (HS9.out _ (Ext.drew (Ext.refl _))) (fun _ => ?_)
          refine wpAnyH_take (i := 0) (oi := ⟨some 54, _, _, _, _, _⟩) (v := .bool true) rfl (by kernel_rfl) (by kernel_rfl) (by kernel_rfl) (fun _ _ _ h => h) (Or.inl ⟨by rfl, ?_⟩) (HS9.out _ (Ext.drew (Ext.refl _))) ?_
          · rintro w' ⟨q1, q2, q3⟩
            go_simp
          try simp only [Act.put, List.setIfInBounds_toArray, List.set_cons_zero, List.set_cons_succ]
          refine wpAnyH_take (i := 1) (oi := ⟨some 55, _, _, _, _, _⟩) (v := .slice (some ⟨b, off, none⟩) n c) rfl (by kernel_rfl) (by kernel_rfl) (by kernel_rfl) (fun _ _ _ h => h) (Or.inl ⟨by rfl, ?_⟩) (HS9.out _ (Ext.drew (Ext.refl _))) ?_
          · rintro w' ⟨q1, q2, q3⟩
            go_simp
          try simp only [Act.put, List.setIfInBounds_toArray, List.set_cons_zero, List.set_cons_succ]
          refine wpAnyH_take (i := 2) (oi := ⟨some 56, _, _, _, _, _⟩) (v := .int .i64 (n : Int)) rfl (by kernel_rfl) (by kernel_rfl) (by kernel_rfl) (fun _ _ _ h => h) (Or.inl ⟨by rfl, ?_⟩) (HS9.out _ (Ext.drew (Ext.refl _))) ?_
          · rintro w' ⟨q1, q2, q3⟩
            go_simp
          try simp only [Act.put, List.setIfInBounds_toArray, List.set_cons_zero, List.set_cons_succ]
          refine wpAnyH_take (i := 3) (oi := ⟨some 57, _, _, _, _, _⟩) (v := .bool true) rfl (by kernel_rfl) (by kernel_rfl) (by kernel_rfl) (fun _ _ _ h => h) (Or.inl ⟨by rfl, ?_⟩) (HS9.out _ (Ext.drew (Ext.refl _))) ?_
          · rintro w' ⟨q1, q2, q3⟩
            go_simp
          try simp only [Act.put, List.setIfInBounds_toArray, List.set_cons_zero, List.set_cons_succ]
          refine wpAnyH_take (i := 4) (oi := ⟨some 58, _, _, _, _, _⟩) (v := .bool false) rfl (by kernel_rfl) (by kernel_rfl) (by kernel_rfl) (fun _ _ _ h => h) (Or.inl ⟨by rfl, ?_⟩) (HS9.out _ (Ext.drew (Ext.refl _))) ?_
          · rintro w' ⟨q1, q2, q3⟩
            go_simp
          try simp only [Act.put, List.setIfInBounds_toArray, List.set_cons_zero, List.set_cons_succ]
          refine wpAnyH_take (i := 5) (oi := ⟨some 59, _, _, _, _, _⟩) (v := .bool false) rfl (by kernel_rfl) (by kernel_rfl) (by kernel_rfl) (fun _ _ _ h => h) (Or.inl ⟨by rfl, ?_⟩) (HS9.out _ (Ext.drew (Ext.refl _))) ?_
          · rintro w' ⟨q1, q2, q3⟩
            go_simp
          try simp only [Act.put, List.setIfInBounds_toArray, List.set_cons_zero, List.set_cons_succ]
          refine wpAnyH_take (i := 6) (oi := ⟨some 60, _, _, _, _, _⟩) (v := .bool true) rfl (by kernel_rfl) (by kernel_rfl) (by kernel_rfl) (fun _ _ _ h => h) (Or.inl ⟨by rfl, ?_⟩) (HS9.out _ (Ext.drew (Ext.refl _))) ?_
          · rintro w' ⟨q1, q2, q3⟩
            go_simp
          try simp only [Act.put, List.setIfInBounds_toArray, List.set_cons_zero, List.set_cons_succ]
          refine wpAnyH_take (i := 7) (oi := ⟨some 61, _, _, _, _, _⟩) (v := .bool true) rfl (by kernel_rfl) (by kernel_rfl) (by kernel_rfl) (fun _ _ _ h => h) (Or.inl ⟨by rfl, ?_⟩) (HS9.out _ (Ext.drew (Ext.refl _))) ?_
          · rintro w' ⟨q1, q2, q3⟩
            go_simp
          try simp only [Act.put, List.setIfInBounds_toArray, List.set_cons_zero, List.set_cons_succ]
          refine wpAnyH_take (i := 8) (oi := ⟨some 62, _, _, _, _, _⟩) (v := .agg #[.int .i64 x.i, .int .i64 x.f, .slice p1 n1 c1]) rfl (by kernel_rfl) (by kernel_rfl) (by kernel_rfl) (fun _ _ _ h => h) (Or.inl ⟨by rfl, ?_⟩) (HS9.out _ (Ext.drew (Ext.refl _))) ?_
          · rintro w' ⟨q1, q2, q3⟩
            go_simp
          try simp only [Act.put, List.setIfInBounds_toArray, List.set_cons_zero, List.set_cons_succ]
          refine wpAnyH_take (i := 10) (oi := ⟨some 64, _, _, _, _, _⟩) (v := .slice (some ⟨b, off, none⟩) n c) rfl (by kernel_rfl) (by kernel_rfl) (by kernel_rfl) (fun _ _ _ h => h) (Or.inl ⟨by rfl, ?_⟩) (HS9.out _ (Ext.drew (Ext.refl _))) ?_
          · rintro w' ⟨q1, q2, q3⟩
            go_simp
          try simp only [Act.put, List.setIfInBounds_toArray, List.set_cons_zero, List.set_cons_succ]
          refine wpAnyH_take (i := 11) (oi := ⟨some 65, _, _, _, _, _⟩) (v := .slice (some ⟨b, off, none⟩) 1 c) rfl (by kernel_rfl) (by kernel_rfl) (by kernel_rfl) (fun _ _ _ h => h) (Or.inl ⟨by rfl, ?_⟩) (HS9.out _ (Ext.drew (Ext.refl _))) ?_
          · rintro w' ⟨q1, q2, q3⟩
            go_simp
          try simp only [Act.put, List.setIfInBounds_toArray, List.set_cons_zero, List.set_cons_succ]
          refine wpAnyH_ready (rs := [9]) (by kernel_rfl) (by simp) ?_
          refine AllReadyH.cons (o := ⟨some 63, .buildSlice 22 1 #[(0, .tmp 62)], _, _, _, _⟩) rfl (fun K hK => ?_) AllReadyH.nil
          go_simp
          refine hK.out _ _ (HS9.out _ (Ext.drew (Ext.alloc _ _))) (fun _ => ?_)
          clear hK K
          try simp only [Act.put, List.setIfInBounds_toArray, List.set_cons_zero, List.set_cons_succ]
          refine wpAnyH_ready (rs := [12]) (by kernel_rfl) (by simp) ?_
          refine AllReadyH.cons (o := ⟨some 66, .call { callee := .value (.func 14), args := #[.tmp 63, .tmp 65], argTypes := #[22, 22] }, _, _, _, _⟩) rfl (fun K hK => ?_) AllReadyH.nil
          go_simp
          refine HC1.out.mono ?_
          rintro e w7 ⟨rfl, hx7⟩
          have HX7 := Lib.hid (Ext.trans (Ext.drew (Ext.alloc W _)) hx7)
          clear hx7
          go_wp2_with fail
          refine hK.out _ _ (HS9.out _ HX7.out) (fun _ => ?_)
          clear hK K
          try simp only [Act.put, List.setIfInBounds_toArray, List.set_cons_zero, List.set_cons_succ]
          refine wpAnyH_take (i := 13) (oi := ⟨some 67, _, _, _, _, _⟩) (v := .bool false) rfl (by kernel_rfl) (by kernel_rfl) (by kernel_rfl) (fun _ _ _ h => h) (Or.inl ⟨by rfl, ?_⟩) (HS9.out _ HX7.out) ?_
          · rintro w' ⟨q1, q2, q3⟩
            go_simp
          try simp only [Act.put, List.setIfInBounds_toArray, List.set_cons_zero, List.set_cons_succ]
          refine wpAnyH_take (i := 14) (oi := ⟨some 68, _, _, _, _, _⟩) (v := .bool false) rfl (by kernel_rfl) (by kernel_rfl) (by kernel_rfl) (fun _ _ _ h => h) (Or.inl ⟨by rfl, ?_⟩) (HS9.out _ HX7.out) ?_
          · rintro w' ⟨q1, q2, q3⟩
            go_simp
          try simp only [Act.put, List.setIfInBounds_toArray, List.set_cons_zero, List.set_cons_succ]
          refine wpAnyH_take (i := 15) (oi := ⟨some 69, _, _, _, _, _⟩) (v := .slice q2 m2 d2) rfl (by kernel_rfl) (by kernel_rfl) (by kernel_rfl) (fun _ _ _ h => h) (Or.inl ⟨by rfl, ?_⟩) (HS9.out _ HX7.out) ?_
          · rintro w' ⟨q1, q2, q3⟩
            go_simp
          try simp only [Act.put, List.setIfInBounds_toArray, List.set_cons_zero, List.set_cons_succ]
          refine wpAnyH_take (i := 16) (oi := ⟨some 70, _, _, _, _, _⟩) (v := .slice (some ⟨b, off, none⟩) n c) rfl (by kernel_rfl) (by kernel_rfl) (by kernel_rfl) (fun _ _ _ h => h) (Or.inl ⟨by rfl, ?_⟩) (HS9.out _ HX7.out) ?_
          · rintro w' ⟨q1, q2, q3⟩
            go_simp
          try simp only [Act.put, List.setIfInBounds_toArray, List.set_cons_zero, List.set_cons_succ]
          refine wpAnyH_take (i := 17) (oi := ⟨some 71, _, _, _, _, _⟩) (v := .slice (some ⟨b, off2, none⟩) (n - 1) (c - 1)) rfl (by kernel_rfl) (by kernel_rfl) (by kernel_rfl) (fun _ _ _ h => h) (Or.inl ⟨by rfl, ?_⟩) (HS9.out _ HX7.out) ?_
          · rintro w' ⟨q1, q2, q3⟩
            go_simp
          try simp only [Act.put, List.setIfInBounds_toArray, List.set_cons_zero, List.set_cons_succ]
          refine wpAnyH_ready (rs := [18]) (by kernel_rfl) (by simp) ?_
          refine AllReadyH.cons (o := ⟨some 72, .call { callee := .value (.func 14), args := #[.tmp 69, .tmp 71], argTypes := #[22, 22] }, _, _, _, _⟩) rfl (fun K hK => ?_) AllReadyH.nil
          go_simp
          refine (HC2.out _ HX7.out).mono ?_
          rintro e w8 ⟨rfl, hx8⟩
          have HX8 := Lib.hid (Ext.trans HX7.out hx8)
          clear hx8
          go_wp2_with fail
          refine hK.out _ _ (HS9.out _ HX8.out) (fun _ => ?_)
          clear hK K
          try simp only [Act.put, List.setIfInBounds_toArray, List.set_cons_zero, List.set_cons_succ]
          refine wpAnyH_take (i := 19) (oi := ⟨some 73, _, _, _, _, _⟩) (v := .bool false) rfl (by kernel_rfl) (by kernel_rfl) (by kernel_rfl) (fun _ _ _ h => h) (Or.inl ⟨by rfl, ?_⟩) (HS9.out _ HX8.out) ?_
          · rintro w' ⟨q1, q2, q3⟩
            go_simp
          try simp only [Act.put, List.setIfInBounds_toArray, List.set_cons_zero, List.set_cons_succ]
          refine wpAnyH_take (i := 20) (oi := ⟨some 74, _, _, _, _, _⟩) (v := .bool false) rfl (by kernel_rfl) (by kernel_rfl) (by kernel_rfl) (fun _ _ _ h => h) (Or.inl ⟨by rfl, ?_⟩) (HS9.out _ HX8.out) ?_
          · rintro w' ⟨q1, q2, q3⟩
            go_simp
          try simp only [Act.put, List.setIfInBounds_toArray, List.set_cons_zero, List.set_cons_succ]
          refine wpAnyH_take (i := 21) (oi := ⟨some 75, _, _, _, _, _⟩) (v := .bool false) rfl (by kernel_rfl) (by kernel_rfl) (by kernel_rfl) (fun _ _ _ h => h) (Or.inl ⟨by rfl, ?_⟩) (HS9.out _ HX8.out) ?_
          · rintro w' ⟨q1, q2, q3⟩
            go_simp
          try simp only [Act.put, List.setIfInBounds_toArray, List.set_cons_zero, List.set_cons_succ]
          refine wpAnyH_take (i := 22) (oi := ⟨some 76, _, _, _, _, _⟩) (v := .bool false) rfl (by kernel_rfl) (by kernel_rfl) (by kernel_rfl) (fun _ _ _ h => h) (Or.inl ⟨by rfl, ?_⟩) (HS9.out _ HX8.out) ?_
          · rintro w' ⟨q1, q2, q3⟩
            go_simp
          try simp only [Act.put, List.setIfInBounds_toArray, List.set_cons_zero, List.set_cons_succ]
          refine wpAnyH_take (i := 23) (oi := ⟨some 77, _, _, _, _, _⟩) (v := .bool false) rfl (by kernel_rfl) (by kernel_rfl) (by kernel_rfl) (fun _ _ _ h => h) (Or.inl ⟨by rfl, ?_⟩) (HS9.out _ HX8.out) ?_
          · rintro w' ⟨q1, q2, q3⟩
            go_simp
          try simp only [Act.put, List.setIfInBounds_toArray, List.set_cons_zero, List.set_cons_succ]
          refine wpAnyH_take (i := 24) (oi := ⟨some 78, _, _, _, _, _⟩) (v := .bool true) rfl (by kernel_rfl) (by kernel_rfl) (by kernel_rfl) (fun _ _ _ h => h) (Or.inl ⟨by rfl, ?_⟩) (HS9.out _ HX8.out) ?_
          · rintro w' ⟨q1, q2, q3⟩
            go_simp
          try simp only [Act.put, List.setIfInBounds_toArray, List.set_cons_zero, List.set_cons_succ]
          refine wpAnyH_take (i := 25) (oi := ⟨some 79, _, _, _, _, _⟩) (v := .bool false) rfl (by kernel_rfl) (by kernel_rfl) (by kernel_rfl) (fun _ _ _ h => h) (Or.inl ⟨by rfl, ?_⟩) (HS9.out _ HX8.out) ?_
          · rintro w' ⟨q1, q2, q3⟩
            go_simp
          try simp only [Act.put, List.setIfInBounds_toArray, List.set_cons_zero, List.set_cons_succ]
          refine wpAnyH_take (i := 26) (oi := ⟨some 80, _, _, _, _, _⟩) (v := .bool false) rfl (by kernel_rfl) (by kernel_rfl) (by kernel_rfl) (fun _ _ _ h => h) (Or.inl ⟨by rfl, ?_⟩) (HS9.out _ HX8.out) ?_
          · rintro w' ⟨q1, q2, q3⟩
            go_simp
          try simp only [Act.put, List.setIfInBounds_toArray, List.set_cons_zero, List.set_cons_succ]
          refine wpAnyH_take (i := 27) (oi := ⟨some 81, _, _, _, _, _⟩) (v := undef) rfl (by kernel_rfl) (by kernel_rfl) (by kernel_rfl) (fun _ _ _ h => h) (Or.inr ⟨by rfl, rfl⟩) (HS9.out _ HX8.out) ?_
          try simp only [Act.put, List.setIfInBounds_toArray, List.set_cons_zero, List.set_cons_succ]
          refine wpAnyH_take (i := 28) (oi := ⟨some 82, _, _, _, _, _⟩) (v := undef) rfl (by kernel_rfl) (by kernel_rfl) (by kernel_rfl) (fun _ _ _ h => h) (Or.inr ⟨by rfl, rfl⟩) (HS9.out _ HX8.out) ?_
          try simp only [Act.put, List.setIfInBounds_toArray, List.set_cons_zero, List.set_cons_succ]
          refine wpAnyH_take (i := 29) (oi := ⟨some 83, _, _, _, _, _⟩) (v := undef) rfl (by kernel_rfl) (by kernel_rfl) (by kernel_rfl) (fun _ _ _ h => h) (Or.inr ⟨by rfl, rfl⟩) (HS9.out _ HX8.out) ?_
          try simp only [Act.put, List.setIfInBounds_toArray, List.set_cons_zero, List.set_cons_succ]
          refine wpAnyH_take (i := 30) (oi := ⟨some 84, _, _, _, _, _⟩) (v := undef) rfl (by kernel_rfl) (by kernel_rfl) (by kernel_rfl) (fun _ _ _ h => h) (Or.inr ⟨by rfl, rfl⟩) (HS9.out _ HX8.out) ?_
          try simp only [Act.put, List.setIfInBounds_toArray, List.set_cons_zero, List.set_cons_succ]
          refine wpAnyH_take (i := 31) (oi := ⟨some 85, _, _, _, _, _⟩) (v := undef) rfl (by kernel_rfl) (by kernel_rfl) (by kernel_rfl) (fun _ _ _ h => h) (Or.inr ⟨by rfl, rfl⟩) (HS9.out _ HX8.out) ?_
          try simp only [Act.put, List.setIfInBounds_toArray, List.set_cons_zero, List.set_cons_succ]
          refine wpAnyH_take (i := 32) (oi := ⟨some 86, _, _, _, _, _⟩) (v := undef) rfl (by kernel_rfl) (by kernel_rfl) (by kernel_rfl) (fun _ _ _ h => h) (Or.inr ⟨by rfl, rfl⟩) (HS9.out _ HX8.out) ?_
          try simp only [Act.put, List.setIfInBounds_toArray, List.set_cons_zero, List.set_cons_succ]
          refine wpAnyH_take (i := 33) (oi := ⟨some 87, _, _, _, _, _⟩) (v := undef) rfl (by kernel_rfl) (by kernel_rfl) (by kernel_rfl) (fun _ _ _ h => h) (Or.inr ⟨by rfl, rfl⟩) (HS9.out _ HX8.out) ?_
          try simp only [Act.put, List.setIfInBounds_toArray, List.set_cons_zero, List.set_cons_succ]
          refine wpAnyH_take (i := 34) (oi := ⟨some 88, _, _, _, _, _⟩) (v := undef) rfl (by kernel_rfl) (by kernel_rfl) (by kernel_rfl) (fun _ _ _ h => h) (Or.inr ⟨by rfl, rfl⟩) (HS9.out _ HX8.out) ?_
          try simp only [Act.put, List.setIfInBounds_toArray, List.set_cons_zero, List.set_cons_succ]
          refine wpAnyH_take (i := 35) (oi := ⟨some 89, _, _, _, _, _⟩) (v := .bool false) rfl (by kernel_rfl) (by kernel_rfl) (by kernel_rfl) (fun _ _ _ h => h) (Or.inl ⟨by rfl, ?_⟩) (HS9.out _ HX8.out) ?_
          · rintro w' ⟨q1, q2, q3⟩
            go_simp
          try simp only [Act.put, List.setIfInBounds_toArray, List.set_cons_zero, List.set_cons_succ]
          refine wpAnyH_take (i := 36) (oi := ⟨some 90, _, _, _, _, _⟩) (v := .bool false) rfl (by kernel_rfl) (by kernel_rfl) (by kernel_rfl) (fun _ _ _ h => h) (Or.inl ⟨by rfl, ?_⟩) (HS9.out _ HX8.out) ?_
          · rintro w' ⟨q1, q2, q3⟩
            go_simp
          try simp only [Act.put, List.setIfInBounds_toArray, List.set_cons_zero, List.set_cons_succ]
          refine wpAnyH_done (by kernel_rfl) ?_ _

          have HX9 := Lib.hid (Ext.trans HX5.out (Ext.trans HX5W.out HX8.out))
          have HX49 := Lib.hid (Ext.trans HX45.out (Ext.trans HX5W.out HX8.out))

          go_wp2_with fail
          refine (put_v _ _ _ _ m f _ data w8 (HL.out.ext HX9.out) HR.out (by omega) (HD.out.ext HX9.out) (by have := HDL.out; omega) HM.out HF.out).mono ?_
          rintro e w10 ⟨⟨v10, l10, rfl, h10, hp10⟩, hx10⟩
          obtain ⟨pa, na, ca, rfl, hn10⟩ := sl_form h10
          have HX10 := Lib.hid hx10
          have HA10 := Lib.hid h10
          have HPA := Lib.hid hp10
          clear h10 hp10 hx10 hn10
          go_wp2_with fail
          refine (rput_v _ _ _ _ m f qd nd cd data w10 (HL.out.ext (Ext.trans HX9.out HX10.out)) HR.out (by omega) (HD.out.ext (Ext.trans HX9.out HX10.out)) HM.out HF.out).mono ?_
          rintro e w11 ⟨⟨v11, l11, rfl, h11, hp11⟩, hx11⟩
          obtain ⟨pb, nb, cb, rfl, hn11⟩ := sl_form h11
          obtain rfl := PutS.uniq HPA.out hp11
          have HX11 := Lib.hid (Ext.trans HX10.out hx11)
          have HA11 := Lib.hid (HA10.out.ext hx11)
          have HB11 := Lib.hid h11
          clear h11 hp11 hx11 hn11
          have hsm := rsame_any pa pb na ca nb cb l10 l10 w11 (sl_row HA11.out) (sl_row HB11.out)
          rw [decide_eq_true rfl] at hsm
          have HSM := Lib.hid hsm
          clear hsm
          go_wp2_with fail
          refine HSM.out.mono ?_
          rintro e w12 ⟨rfl, hx12⟩
          have HX12 := Lib.hid (Ext.trans HX11.out hx12)
          clear hx12
          have hby := rbytes_any G G ga gb gna gca gnb gcb w12 (sl_row (HGA.out.ext (Ext.trans HX49.out HX12.out))) (sl_row (HGB.out.ext (Ext.trans HX49.out HX12.out)))
          rw [decide_eq_true rfl] at hby
          have HBY := Lib.hid hby
          clear hby
          go_wp2_with fail
          refine HBY.out.mono ?_
          rintro e w13 ⟨rfl, hx13⟩
          have HX13 := Lib.hid (Ext.trans HX9.out (Ext.trans HX12.out hx13))
          clear hx13
          go_wp2_with fail
          refine (csee_v _ F _ _ _ _ m w13 (HU.out.ext HX13.out) (sl_row (HL.out.ext HX13.out)) HR.out (by omega) (by have := HFL.out; omega)).mono ?_
          rintro e w14 ⟨⟨v14, rfl, ho14⟩, hx14⟩
          obtain ⟨sa, sna, sca, rfl⟩ := own_form ho14
          have HX14 := Lib.hid (Ext.trans HX13.out hx14)
          have HS14 := Lib.hid ho14.sl
          clear ho14 hx14
          go_wp2_with fail
          refine (rsee_v _ F _ m _ _ _ w14 (HU.out.ext HX14.out) (sl_row (HL.out.ext HX14.out)) HR.out (by have := HFL.out; omega)).mono ?_
          rintro e w15 ⟨⟨v15, rfl, ho15⟩, hx15⟩
          obtain ⟨sb, snb, scb, rfl, hn15⟩ := sl_form ho15
          have HX15 := Lib.hid (Ext.trans HX14.out hx15)
          have hsy := rbytes_any _ _ sa sb sna sca snb scb w15 (sl_row (HS14.out.ext hx15)) (sl_row ho15)
          rw [decide_eq_true rfl] at hsy
          have HSY := Lib.hid hsy
          clear ho15 hx15 hn15 hsy
          go_wp2_with fail
          refine HSY.out.mono ?_
          rintro e w16 ⟨rfl, hx16⟩
          have HX16 := Lib.hid (Ext.trans HX15.out hx16)
          clear hx16
          go_wp2
          go_ret
          exact ⟨rfl, HX16.out⟩
end Go.Proofs.Ytcajmgdenhegjaa.Wr
