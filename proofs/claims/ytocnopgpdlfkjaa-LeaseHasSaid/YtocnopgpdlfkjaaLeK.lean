/- Leases: what is had is had. -/
import Derived.Test.YtocnopgpdlfkjaaLeJ
import Derived.BigQuiet
namespace Go.Proofs.Ytocnopgpdlfkjaa.Ls
open Go.RowKit Go.Proofs.Ytocnopgpdlfkjaa Go.Sort
set_option linter.unusedVariables false

theorem u16_bd {x : Int} (h : (Lit.int .u16 x).wf = true) : 0 ≤ x ∧ x ≤ 65535 := by
  simp [Lit.wf, IntKind.min, IntKind.max, IntKind.signed, IntKind.bits] at h
  exact h
set_option maxRecDepth 100000 in
set_option maxHeartbeats 4000000 in
theorem has_walk {p : Option Addr} {n c : Nat} {l : List Stp} {w : World} (hr : LStp.Row w p n l) (q : Le) (hw : LeWf q) (long ca cb : Int) (ha : 0 ≤ ca ∧ ca ≤ 65535) (hb : 0 ≤ cb ∧ cb ≤ 65535) : Calls Try.prog 7 #[.slice p n c, .agg #[.int .i64 q.c, .int .i64 q.i, .int .i64 q.k, .int .i64 q.f, .int .i64 q.t, .int .i64 q.u, .int .i64 q.e], .int .i64 long, .agg #[.int .u16 ca, .int .u16 cb]] w fun e w' => e = .returned (.bool true) ∧ Ext w w' := by
  have HP := Lib.hid hr
  have HW := Lib.hid hw
  have HCA := Lib.hid ha
  have HCB := Lib.hid hb
  clear hr hw ha hb
  go_enter Try.func7, Try.ntmps7
  go_wp2_with fail
  refine (head_v _).mono ?_
  rintro e w1 ⟨rfl, hx⟩
  have b0 : w1.cell? ⟨w.heap.size, 0, none⟩ = some (.int .i64 q.c) := hx.cell ((Ext.alloc _ _).cell (cell_of_row _ _ 0 _ _ _ (heap_alloc_new w _)))
  have b1 : w1.cell? ⟨w.heap.size, 1, none⟩ = some (.int .i64 q.i) := hx.cell ((Ext.alloc _ _).cell (cell_of_row _ _ 1 _ _ _ (heap_alloc_new w _)))
  have b2 : w1.cell? ⟨w.heap.size, 2, none⟩ = some (.int .i64 q.k) := hx.cell ((Ext.alloc _ _).cell (cell_of_row _ _ 2 _ _ _ (heap_alloc_new w _)))
  have b3 : w1.cell? ⟨w.heap.size, 3, none⟩ = some (.int .i64 q.f) := hx.cell ((Ext.alloc _ _).cell (cell_of_row _ _ 3 _ _ _ (heap_alloc_new w _)))
  have b4 : w1.cell? ⟨w.heap.size, 4, none⟩ = some (.int .i64 q.t) := hx.cell ((Ext.alloc _ _).cell (cell_of_row _ _ 4 _ _ _ (heap_alloc_new w _)))
  have b5 : w1.cell? ⟨w.heap.size, 5, none⟩ = some (.int .i64 q.u) := hx.cell ((Ext.alloc _ _).cell (cell_of_row _ _ 5 _ _ _ (heap_alloc_new w _)))
  have b6 : w1.cell? ⟨w.heap.size, 6, none⟩ = some (.int .i64 q.e) := hx.cell ((Ext.alloc _ _).cell (cell_of_row _ _ 6 _ _ _ (heap_alloc_new w _)))
  have d0 : w1.cell? ⟨w.heap.size + 1, 0, none⟩ = some (.int .u16 ca) := hx.cell (by simp)
  have d1 : w1.cell? ⟨w.heap.size + 1, 1, none⟩ = some (.int .u16 cb) := hx.cell (by simp)
  have HX1 := Lib.hid (Ext.trans (Ext.trans (Ext.alloc _ _) (Ext.alloc _ _)) hx)
  clear hx
  go_wp2_with fail
  refine (table_any _ _ _ l _ (HP.out.ext HX1.out)).mono ?_
  rintro e w2 ⟨⟨v, rfl, hs⟩, hx⟩
  have HI := Lib.hid (inv_tab l)
  have HB := Lib.hid (tab_bd l)
  obtain ⟨L, T, hLT⟩ : ∃ L T, tabL l = (L, T) := ⟨_, _, rfl⟩
  rw [hLT] at hs HI HB ⊢
  simp only at hs
  have HS := Lib.hid hs
  obtain ⟨pL, nL, cL, rfl, _⟩ := hs
  obtain ⟨is, his⟩ : ∃ is, decide (l.length ≤ 40) = is := ⟨_, rfl⟩
  rw [his]
  clear his hLT
  replace b0 := hx.cell b0
  replace b1 := hx.cell b1
  replace b2 := hx.cell b2
  replace b3 := hx.cell b3
  replace b4 := hx.cell b4
  replace b5 := hx.cell b5
  replace b6 := hx.cell b6
  replace d0 := hx.cell d0
  replace d1 := hx.cell d1
  have HX2 := Lib.hid (Ext.trans HX1.out hx)
  clear hx
  go_wp2_with fail
  refine (ask_v _ L T q long _ HS.out (by have := HB.out; omega) HW.out (by have := HB.out; omega)).mono ?_
  rintro e w3 ⟨⟨v, kk, K, r, rfl, hr, hs, hk2, _⟩, hx⟩
  obtain ⟨L2, g⟩ := r
  simp only at hs ⊢
  have HR : Hid (askL L T q long = (L2, g)) := Lib.hid hr.symm
  have HS2 := Lib.hid hs
  obtain ⟨p2, n2, c2, rfl, _⟩ := hs
  obtain ⟨pk, nk, ck, rfl, _⟩ := hk2
  clear hr
  replace b0 := hx.cell b0
  replace b1 := hx.cell b1
  replace b2 := hx.cell b2
  replace b3 := hx.cell b3
  replace b4 := hx.cell b4
  replace b5 := hx.cell b5
  replace b6 := hx.cell b6
  replace d0 := hx.cell d0
  replace d1 := hx.cell d1
  have HX3 := Lib.hid (Ext.trans HX2.out hx)
  clear hx
  cases is
  · go_wp2
    go_ret
    exact ⟨rfl, HX3.out⟩
  cases g
  · go_wp2
    go_ret
    exact ⟨rfl, HX3.out⟩
  have hat := ask_true (L := L) (T := T) (q := q) (m := long) (by rw [HR.out])
  rw [HR.out] at hat
  have HAT := Lib.hid hat
  have HO := Lib.hid (bad_not hat.1)
  have HI2 : Hid (Inv L2 T) := Lib.hid (by have h := inv_ask HI.out (by have := HB.out; exact this.2.1) (by have := HB.out; exact Int.le_trans this.2.2 (by decide)) q long; rw [HR.out] at h; exact h)
  have HQ : Hid (0 ≤ q.f ∧ q.f < q.t ∧ q.t ≤ 1099511627776) := Lib.hid (by
    have h2 := of_decide_eq_true HO.out.1
    simp only [q0, qu] at h2
    omega)
  clear hat
  obtain ⟨S, hS⟩ : ∃ S, q.t - q.f = S := ⟨_, rfl⟩
  have HSS := Lib.hid hS
  have h1 : IntKind.i64.wrap (q.t - q.f) = S := by rw [hS]; exact IntWalk.i64_in _ (by have := HQ.out; omega)
  have h2 : IntKind.i64.wrap ca = ca := IntWalk.i64_in _ (by have := HCA.out; omega)
  have h3 : IntKind.i64.wrap cb = cb := IntWalk.i64_in _ (by have := HCB.out; omega)
  have h4 : ¬ S = 0 := by have := HQ.out; omega
  clear hS
  obtain ⟨A, hA⟩ : ∃ A, ca.tmod S = A := ⟨_, rfl⟩
  have HAA : Hid (0 ≤ A ∧ A < S) := Lib.hid (by
    have := HQ.out
    have := HSS.out
    rw [← hA]
    exact ⟨Int.tmod_nonneg _ (by have := HCA.out; omega), Int.tmod_lt_of_pos _ (by omega)⟩)
  obtain ⟨F, hF⟩ : ∃ F, q.f + A = F := ⟨_, rfl⟩
  have HF : Hid (q.f ≤ F ∧ F < q.t) := Lib.hid (by have := HAA.out; have := HSS.out; omega)
  obtain ⟨R, hR⟩ : ∃ R, q.t - F = R := ⟨_, rfl⟩
  have HRR : Hid (q.t - F = R ∧ 0 < R) := Lib.hid (by have := HF.out; omega)
  obtain ⟨B, hB⟩ : ∃ B, cb.tmod R = B := ⟨_, rfl⟩
  have HBB : Hid (0 ≤ B ∧ B < R) := Lib.hid (by
    have := HRR.out
    rw [← hB]
    exact ⟨Int.tmod_nonneg _ (by have := HCB.out; omega), Int.tmod_lt_of_pos _ (by omega)⟩)
  obtain ⟨E, hE⟩ : ∃ E, F + 1 + B = E := ⟨_, rfl⟩
  have HEE : Hid (F < E ∧ E ≤ q.t ∧ 0 ≤ E ∧ E ≤ 1099511627776) := Lib.hid (by have := HBB.out; have := HRR.out; have := HF.out; have := HQ.out; omega)
  have w1_ : IntKind.i64.wrap A = A := IntWalk.i64_in _ (by have := HAA.out; have := HSS.out; have := HQ.out; omega)
  have w2_ : IntKind.i64.wrap (q.f + A) = F := by rw [hF]; exact IntWalk.i64_in _ (by have := HF.out; have := HQ.out; omega)
  have w3_ : IntKind.i64.wrap (F + 1) = F + 1 := IntWalk.i64_in _ (by have := HF.out; have := HQ.out; omega)
  have w4_ : IntKind.i64.wrap (q.t - F) = R := by rw [hR]; exact IntWalk.i64_in _ (by have := HRR.out; have := HF.out; have := HQ.out; omega)
  have w5_ : IntKind.i64.wrap B = B := IntWalk.i64_in _ (by have := HBB.out; have := HRR.out; have := HF.out; have := HQ.out; omega)
  have w6_ : IntKind.i64.wrap (F + 1 + B) = E := by rw [hE]; exact IntWalk.i64_in _ (by have := HEE.out; omega)
  have w7_ : ¬ R = 0 := by have := HRR.out; omega
  have w8_ : IntKind.i64.wrap (T + 128) = T + 128 := IntWalk.i64_in _ (by have := HB.out.2; omega)
  clear hF hR hE
  go_wp2
  go_quiet (fail)
  generalize hw4 : w3.drewN nq = w4
  have hx : Ext w3 w4 := hw4 ▸ Ext.drewN (Ext.refl _) _
  clear hw4
  have HX34 := Lib.hid hx
  replace b0 := hx.cell b0
  replace b1 := hx.cell b1
  replace b2 := hx.cell b2
  replace b3 := hx.cell b3
  replace b4 := hx.cell b4
  replace b5 := hx.cell b5
  replace b6 := hx.cell b6
  replace d0 := hx.cell d0
  replace d1 := hx.cell d1
  have HX4 := Lib.hid (Ext.trans HX3.out hx)
  clear hx
  have HS4 := Lib.hid (HS2.out.ext (show Ext w3 w4 from HX34.out))
  have hx : Ext w4 (w4.alloc (.cells #[.int .i64 F, .int .i64 E] 24)) := Ext.alloc _ _
  have g0 : ((w4.alloc (.cells #[.int .i64 F, .int .i64 E] 24))).cell? ⟨w4.heap.size, 0, none⟩ = some (.int .i64 F) := by simp
  have g1 : ((w4.alloc (.cells #[.int .i64 F, .int .i64 E] 24))).cell? ⟨w4.heap.size, 1, none⟩ = some (.int .i64 E) := by simp
  have HL2 : Hid (L2 = othersL (overL L T) q ++ [qu q (T + Clk.wt (Clk.aa long))]) := Lib.hid HAT.out.2.2.2
  have HLN : Hid (L2.length ≤ 64) := Lib.hid HI2.out.len
  have HWF : Hid ((Lit.int .i64 F).wf = true ∧ (Lit.int .i64 E).wf = true) := Lib.hid (by
    have := HF.out
    have := HEE.out
    have := HQ.out
    constructor <;> simp [Lit.wf, IntKind.min, IntKind.max, IntKind.signed, IntKind.bits] <;> omega)
  have e0 := hx.cell b0
  have e1 := hx.cell b1
  have e2 := hx.cell b2
  have e3 := hx.cell b3
  have e4 := hx.cell b4
  have e5 := hx.cell b5
  have e6 := hx.cell b6
  have HX5 := Lib.hid (Ext.trans HX4.out hx)
  have HS5 := Lib.hid (HS4.out.ext hx)
  clear hx
  go_wp2_with fail
  refine (has_w _ L2 q.c q.i q.k q.f q.t true _ HS5.out (by have := HLN.out; omega) HW.out.2.2.2.1 HW.out.2.2.2.2.1 (⟨fun _ => (by rw [HL2.out]; exact had_last HO.out.1 (.inl rfl) (Int.le_refl _) HQ.out.2.1 (Int.le_refl _)), fun _ => rfl⟩)).mono ?_
  rintro e w6 ⟨rfl, hx⟩
  replace b0 := hx.cell e0
  replace b1 := hx.cell e1
  replace b2 := hx.cell e2
  replace b3 := hx.cell e3
  replace b4 := hx.cell e4
  replace b5 := hx.cell e5
  replace b6 := hx.cell e6
  clear d0 d1 e0 e1 e2 e3 e4 e5 e6
  replace g0 := hx.cell g0
  replace g1 := hx.cell g1
  have HX6 := Lib.hid (Ext.trans HX5.out hx)
  have HS6 := Lib.hid (HS5.out.ext hx)
  clear hx
  go_wp2_with fail
  refine (has_w _ L2 q.c q.i q.k F E true _ HS6.out (by have := HLN.out; omega) HWF.out.1 HWF.out.2 (⟨fun _ => (by rw [HL2.out]; exact had_last HO.out.1 (.inl rfl) HF.out.1 HEE.out.1 HEE.out.2.1), fun _ => rfl⟩)).mono ?_
  rintro e w7 ⟨rfl, hx⟩
  replace b0 := hx.cell b0
  replace b1 := hx.cell b1
  replace b2 := hx.cell b2
  replace b3 := hx.cell b3
  replace b4 := hx.cell b4
  replace b5 := hx.cell b5
  replace b6 := hx.cell b6
  replace g0 := hx.cell g0
  replace g1 := hx.cell g1
  have HX7 := Lib.hid (Ext.trans HX6.out hx)
  have HS7 := Lib.hid (HS6.out.ext hx)
  clear hx
  go_wp2_with fail
  refine (has_w _ L2 q.c q.i 1 F E true _ HS7.out (by have := HLN.out; omega) HWF.out.1 HWF.out.2 (⟨fun _ => (by rw [HL2.out]; exact had_last HO.out.1 (.inr ⟨rfl, trivial⟩) HF.out.1 HEE.out.1 HEE.out.2.1), fun _ => rfl⟩)).mono ?_
  rintro e w8 ⟨rfl, hx⟩
  replace b0 := hx.cell b0
  replace b1 := hx.cell b1
  replace b2 := hx.cell b2
  replace b3 := hx.cell b3
  replace b4 := hx.cell b4
  replace b5 := hx.cell b5
  replace b6 := hx.cell b6
  replace g0 := hx.cell g0
  replace g1 := hx.cell g1
  have HX8 := Lib.hid (Ext.trans HX7.out hx)
  have HS8 := Lib.hid (HS7.out.ext hx)
  clear hx
  go_wp2_with fail
  refine (back_v _ L2 q.c q.i _ HS8.out (by have := HLN.out; omega)).mono ?_
  rintro e w9 ⟨⟨v, rfl, hown⟩, hx⟩
  have HSB9 := Lib.hid hown.sl
  have HLB : Hid ((backL L2 q.c q.i).length ≤ 1000) := Lib.hid (Nat.le_trans (List.length_filter_le _ _) (by have := HLN.out; omega))
  obtain ⟨pb, cb2, rfl, _⟩ := hown.opened
  clear hown
  replace b0 := hx.cell b0
  replace b1 := hx.cell b1
  replace b2 := hx.cell b2
  replace b3 := hx.cell b3
  replace b4 := hx.cell b4
  replace b5 := hx.cell b5
  replace b6 := hx.cell b6
  replace g0 := hx.cell g0
  replace g1 := hx.cell g1
  have HX9 := Lib.hid (Ext.trans HX8.out hx)
  have HS9 := Lib.hid (HS8.out.ext hx)
  clear hx
  go_wp2_with fail
  refine (over_v _ L2 (T + 128) _ HS9.out (by have := HLN.out; omega)).mono ?_
  rintro e w10 ⟨⟨v, rfl, hown⟩, hx⟩
  rw [over_end HI2.out (by omega)] at hown
  have HSD10 := Lib.hid hown.sl
  obtain ⟨pd, cd, hv, _⟩ := hown.opened
  rw [show ([] : List Le).length = 0 from rfl] at hv
  subst hv
  have HSB10 := Lib.hid (HSB9.out.ext hx)
  clear hown
  replace b0 := hx.cell b0
  replace b1 := hx.cell b1
  replace b2 := hx.cell b2
  replace b3 := hx.cell b3
  replace b4 := hx.cell b4
  replace b5 := hx.cell b5
  replace b6 := hx.cell b6
  replace g0 := hx.cell g0
  replace g1 := hx.cell g1
  have HX10 := Lib.hid (Ext.trans HX9.out hx)
  have HS10 := Lib.hid (HS9.out.ext hx)
  clear hx
  go_wp2_with fail
  refine (has_w _ (backL L2 q.c q.i) q.c q.i 1 F E false _ HSB10.out HLB.out HWF.out.1 HWF.out.2 (⟨fun h => (by cases h), fun h => absurd h (had_back HEE.out.1)⟩)).mono ?_
  rintro e w11 ⟨rfl, hx⟩
  have HSD11 := Lib.hid (HSD10.out.ext hx)
  replace b0 := hx.cell b0
  replace b1 := hx.cell b1
  replace b2 := hx.cell b2
  replace b3 := hx.cell b3
  replace b4 := hx.cell b4
  replace b5 := hx.cell b5
  replace b6 := hx.cell b6
  replace g0 := hx.cell g0
  replace g1 := hx.cell g1
  have HX11 := Lib.hid (Ext.trans HX10.out hx)
  have HS11 := Lib.hid (HS10.out.ext hx)
  clear hx
  go_wp2_with fail
  refine (has_w _ [] q.c q.i 1 F E false _ HSD11.out (by simp) HWF.out.1 HWF.out.2 (⟨fun h => (by cases h), fun h => absurd h (had_nil HEE.out.1)⟩)).mono ?_
  rintro e w12 ⟨rfl, hx⟩
  replace b0 := hx.cell b0
  replace b1 := hx.cell b1
  replace b2 := hx.cell b2
  replace b3 := hx.cell b3
  replace b4 := hx.cell b4
  replace b5 := hx.cell b5
  replace b6 := hx.cell b6
  replace g0 := hx.cell g0
  replace g1 := hx.cell g1
  have HX12 := Lib.hid (Ext.trans HX11.out hx)
  have HS12 := Lib.hid (HS11.out.ext hx)
  clear hx
  go_wp2
  go_ret
  exact ⟨rfl, HX12.out⟩
end Go.Proofs.Ytocnopgpdlfkjaa.Ls
