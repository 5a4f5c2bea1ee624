/- Leases: the statement LeaseTells. -/
import Derived.Test.YtocnopgpdlfkjaaLeS
import Derived.Deep.RegionHeld3
namespace Go.Proofs.Ytocnopgpdlfkjaa.Ls
open Go.RowKit Go.Proofs.Ytocnopgpdlfkjaa Go.Sort
set_option linter.unusedVariables false

theorem who_same {l : List Le} {T m : Int} {q : Le} {K M : List Int} (h : WhoIs l T q m K) (k : WhoIs l T q m M) : K = M := by
  unfold WhoIs at h k
  split at h
  · rename_i e; rw [if_pos e] at k; rw [h, k]
  · rename_i e; rw [if_neg e] at k
    exact up_eq h.1 k.1 fun x => by rw [h.2.1, k.2.1]
set_option maxRecDepth 100000 in
set_option maxHeartbeats 4000000 in
theorem tells_walk {p : Option Addr} {n c : Nat} {l : List Le} {w : World} (hr : LLe.Row w p n l) (hnc : n ≤ c) (hc : c ≤ 9223372036854775807) (hpl : Pl p c) (now : Int) (q : Le) (hw : LeWf q) (long sf st : Int) (hf : (Lit.int .i64 sf).wf = true) (ht : (Lit.int .i64 st).wf = true) : Calls Try.prog 3 #[.slice p n c, .int .i64 now, .agg #[.int .i64 q.c, .int .i64 q.i, .int .i64 q.k, .int .i64 q.f, .int .i64 q.t, .int .i64 q.u, .int .i64 q.e], .int .i64 long, .agg #[.int .i64 sf, .int .i64 st]] w fun e w' => e = .returned (.bool true) ∧ Ext w w' := by
  have HS : Hid (LLe.Sl w (.slice p n c) l) := Lib.hid ⟨p, n, c, rfl, hr, hnc, hc, hpl⟩
  have HLN : Hid (l.length = n) := Lib.hid hr.1
  have hn63 := hr.2.1
  have HW := Lib.hid hw
  have HWF := Lib.hid hf
  have HWT := Lib.hid ht
  clear hr hpl hw hf ht
  go_enter Try.func3, Try.ntmps3
  go_wp2_with fail
  refine (head_v _).mono ?_
  rintro e w1 ⟨rfl, hx⟩
  have b0 : w1.cell? ⟨w.heap.size, 0, none⟩ = some (.int .i64 q.c) := hx.cell ((Ext.alloc _ _).cell (cell_of_row _ _ 0 _ _ _ (heap_alloc_new w _)))
  have b1 : w1.cell? ⟨w.heap.size, 1, none⟩ = some (.int .i64 q.i) := hx.cell ((Ext.alloc _ _).cell (cell_of_row _ _ 1 _ _ _ (heap_alloc_new w _)))
  have b2 : w1.cell? ⟨w.heap.size, 2, none⟩ = some (.int .i64 q.k) := hx.cell ((Ext.alloc _ _).cell (cell_of_row _ _ 2 _ _ _ (heap_alloc_new w _)))
  have b3 : w1.cell? ⟨w.heap.size, 3, none⟩ = some (.int .i64 q.f) := hx.cell ((Ext.alloc _ _).cell (cell_of_row _ _ 3 _ _ _ (heap_alloc_new w _)))
  have b4 : w1.cell? ⟨w.heap.size, 4, none⟩ = some (.int .i64 q.t) := hx.cell ((Ext.alloc _ _).cell (cell_of_row _ _ 4 _ _ _ (heap_alloc_new w _)))
  have b5 : w1.cell? ⟨w.heap.size, 5, none⟩ = some (.int .i64 q.u) := hx.cell ((Ext.alloc _ _).cell (cell_of_row _ _ 5 _ _ _ (heap_alloc_new w _)))
  have b6 : w1.cell? ⟨w.heap.size, 6, none⟩ = some (.int .i64 q.e) := hx.cell ((Ext.alloc _ _).cell (cell_of_row _ _ 6 _ _ _ (heap_alloc_new w _)))
  have b7 : w1.cell? ⟨w.heap.size + 1, 0, none⟩ = some (.int .i64 sf) := hx.cell (by simp)
  have b8 : w1.cell? ⟨w.heap.size + 1, 1, none⟩ = some (.int .i64 st) := hx.cell (by simp)
  have HX1 := Lib.hid (Ext.trans (Ext.trans (Ext.alloc _ _) (Ext.alloc _ _)) hx)
  clear hx
  by_cases h80 : 80 < n
  · have d80 : (80 : Int) < (n : Int) := by omega
    go_wp2
    go_ret
    exact ⟨rfl, HX1.out⟩
  have d80 : ¬ (80 : Int) < (n : Int) := by omega
  have H80 : Hid (l.length ≤ 80) := Lib.hid (by rw [HLN.out]; omega)
  clear h80
  obtain ⟨R, hR⟩ : ∃ R, rightB l = R := ⟨_, rfl⟩
  have HR := Lib.hid hR
  clear hR
  go_wp2_with fail
  refine (right_v _ l _ (HS.out.ext HX1.out) (by have := H80.out; omega)).mono ?_
  rintro e w2 ⟨rfl, hx⟩
  rw [HR.out]
  replace b0 := hx.cell b0
  replace b1 := hx.cell b1
  replace b2 := hx.cell b2
  replace b3 := hx.cell b3
  replace b4 := hx.cell b4
  replace b5 := hx.cell b5
  replace b6 := hx.cell b6
  replace b7 := hx.cell b7
  replace b8 := hx.cell b8
  have HX2 := Lib.hid (Ext.trans HX1.out hx)
  clear hx
  go_wp2_with fail
  refine (rright_v _ l _ (HS.out.ext HX2.out)).mono ?_
  rintro e w3 ⟨rfl, hx⟩
  rw [HR.out]
  replace b0 := hx.cell b0
  replace b1 := hx.cell b1
  replace b2 := hx.cell b2
  replace b3 := hx.cell b3
  replace b4 := hx.cell b4
  replace b5 := hx.cell b5
  replace b6 := hx.cell b6
  replace b7 := hx.cell b7
  replace b8 := hx.cell b8
  have HX3 := Lib.hid (Ext.trans HX2.out hx)
  clear hx
  have hRR : (R != R) = false := by cases R <;> rfl
  go_wp2_with fail
  refine (rright_v _ l _ (HS.out.ext HX3.out)).mono ?_
  rintro e w4 ⟨rfl, hx⟩
  rw [HR.out]
  replace b0 := hx.cell b0
  replace b1 := hx.cell b1
  replace b2 := hx.cell b2
  replace b3 := hx.cell b3
  replace b4 := hx.cell b4
  replace b5 := hx.cell b5
  replace b6 := hx.cell b6
  replace b7 := hx.cell b7
  replace b8 := hx.cell b8
  have HX4 := Lib.hid (Ext.trans HX3.out hx)
  clear hx
  cases R
  · go_wp2
    go_ret
    exact ⟨rfl, HX4.out⟩
  have HONE : Hid (∀ x ∈ l, oneB x = true) := Lib.hid (fun x hx => ((of_decide_eq_true HR.out).2 x hx).1)
  go_wp2_with fail
  refine (time_any now _).mono ?_
  rintro e w5 ⟨rfl, rfl⟩
  obtain ⟨T, hT⟩ : ∃ T, tmq now = T := ⟨_, rfl⟩
  have HT : Hid (0 ≤ T ∧ T ≤ 1000000000000000) := Lib.hid (by rw [← hT]; have := tmq_bd now; omega)
  rw [hT]
  clear hT
  go_wp2_with fail
  refine (ask_v _ l T q long _ (HS.out.ext HX4.out) (by have := H80.out; omega) HW.out HT.out).mono ?_
  rintro e w5 ⟨⟨v, kk, K, r, rfl, hr, hs, hk, hwho⟩, hx⟩
  have HR1 := Lib.hid hr
  have HW1 := hwho
  have HV5 := Lib.hid hs
  have HK5 := Lib.hid hk
  obtain ⟨pr, nr, cr, rfl, _⟩ := hs
  obtain ⟨pk, nk, ck, rfl, _⟩ := hk
  clear hr hwho
  replace b0 := hx.cell b0
  replace b1 := hx.cell b1
  replace b2 := hx.cell b2
  replace b3 := hx.cell b3
  replace b4 := hx.cell b4
  replace b5 := hx.cell b5
  replace b6 := hx.cell b6
  replace b7 := hx.cell b7
  replace b8 := hx.cell b8
  have HX5 := Lib.hid (Ext.trans HX4.out hx)
  clear hx
  go_wp2_with fail
  refine (rask_v _ l T q long _ (HS.out.ext HX5.out) (by have := H80.out; omega) HW.out HT.out HONE.out).mono ?_
  rintro e w6 ⟨⟨v, kk, M, r2, rfl, hr, hs, hk, hwho⟩, hx⟩
  obtain rfl : r2 = r := hr.trans HR1.out.symm
  obtain rfl : M = K := who_same hwho.out HW1.out
  have HV6 := Lib.hid (HV5.out.ext hx)
  have HK6 := Lib.hid (HK5.out.ext hx)
  have HV26 := Lib.hid hs
  have HK26 := Lib.hid hk
  obtain ⟨pr2, nr2, cr2, rfl, _⟩ := hs
  obtain ⟨pk2, nk2, ck2, rfl, _⟩ := hk
  clear hr hwho
  replace b0 := hx.cell b0
  replace b1 := hx.cell b1
  replace b2 := hx.cell b2
  replace b3 := hx.cell b3
  replace b4 := hx.cell b4
  replace b5 := hx.cell b5
  replace b6 := hx.cell b6
  replace b7 := hx.cell b7
  replace b8 := hx.cell b8
  have HX6 := Lib.hid (Ext.trans HX5.out hx)
  clear hx
  obtain ⟨g, hg⟩ : ∃ g, r2.2 = g := ⟨_, rfl⟩
  rw [hg]
  clear hg
  have hgg : (g == g) = true := by cases g <;> rfl
  obtain ⟨B, hB⟩ : ∃ B : Bool, B = true ↔ hadP l q.c q.i q.k sf st := ⟨@decide _ (Classical.propDecidable _), @decide_eq_true_iff _ (Classical.propDecidable _)⟩
  have HB := Lib.hid hB
  have hBB : (B == B) = true := by cases B <;> rfl
  have HSS : Hid (∀ w', Ext w6 w' → w'.cell? ⟨w.heap.size, 0, none⟩ = some (.int .i64 q.c) ∧ w'.cell? ⟨w.heap.size, 1, none⟩ = some (.int .i64 q.i) ∧ w'.cell? ⟨w.heap.size, 2, none⟩ = some (.int .i64 q.k) ∧ w'.cell? ⟨w.heap.size, 3, none⟩ = some (.int .i64 q.f) ∧ w'.cell? ⟨w.heap.size, 4, none⟩ = some (.int .i64 q.t) ∧ w'.cell? ⟨w.heap.size, 5, none⟩ = some (.int .i64 q.u) ∧ w'.cell? ⟨w.heap.size, 6, none⟩ = some (.int .i64 q.e) ∧ w'.cell? ⟨w.heap.size + 1, 0, none⟩ = some (.int .i64 sf) ∧ w'.cell? ⟨w.heap.size + 1, 1, none⟩ = some (.int .i64 st)) := Lib.hid (fun w' h => ⟨h.cell b0, h.cell b1, h.cell b2, h.cell b3, h.cell b4, h.cell b5, h.cell b6, h.cell b7, h.cell b8⟩)
  have HS6 := Lib.hid (HS.out.ext HX6.out)
  clear b0 b1 b2 b3 b4 b5 b6 b7 b8 hB
  go_wp2
  have hxx : Ext w6 w6.drew := Ext.drew (Ext.refl _)
  go_region_held3 (fun w' => w'.cell? ⟨w.heap.size, 0, none⟩ = some (.int .i64 q.c) ∧ w'.cell? ⟨w.heap.size, 1, none⟩ = some (.int .i64 q.i) ∧ w'.cell? ⟨w.heap.size, 2, none⟩ = some (.int .i64 q.k) ∧ w'.cell? ⟨w.heap.size, 3, none⟩ = some (.int .i64 q.f) ∧ w'.cell? ⟨w.heap.size, 4, none⟩ = some (.int .i64 q.t) ∧ w'.cell? ⟨w.heap.size, 5, none⟩ = some (.int .i64 q.u) ∧ w'.cell? ⟨w.heap.size, 6, none⟩ = some (.int .i64 q.e) ∧ w'.cell? ⟨w.heap.size + 1, 0, none⟩ = some (.int .i64 sf) ∧ w'.cell? ⟨w.heap.size + 1, 1, none⟩ = some (.int .i64 st)) ((refine HSS.out _ ?_; first | (with_reducible exact hxx))) (first | (go_at_call 17; refine (over_v _ l T _ (HS6.out.ext hxx) (by have := H80.out; omega)).mono ?_; rintro e w11 ⟨⟨v1, rfl, hown⟩, hx9⟩; have HV1 : Hid (LLe.Sl w11 v1 (overL l T)) := Lib.hid hown.sl; (try replace hy2 := Ext.trans hy2 hx9); (try replace hy3 := Ext.trans hy3 hx9); (try replace hy4 := Ext.trans hy4 hx9); have hy1 : Ext w11 w11 := Ext.refl _; replace hxx := Ext.trans hxx hx9; clear hx9 hown) | (go_at_call 18; refine (rover_v _ l T _ (HS6.out.ext hxx) (by have := H80.out; omega)).mono ?_; rintro e w12 ⟨⟨v2, rfl, hown⟩, hx9⟩; have HV2 : Hid (LLe.Sl w12 v2 (overL l T)) := Lib.hid hown.sl; (try replace hy1 := Ext.trans hy1 hx9); (try replace hy3 := Ext.trans hy3 hx9); (try replace hy4 := Ext.trans hy4 hx9); have hy2 : Ext w12 w12 := Ext.refl _; replace hxx := Ext.trans hxx hx9; clear hx9 hown) | (go_at_call 19; refine (back_v _ l q.c q.i _ (HS6.out.ext hxx) (by have := H80.out; omega)).mono ?_; rintro e w13 ⟨⟨v3, rfl, hown⟩, hx9⟩; have HV3 : Hid (LLe.Sl w13 v3 (backL l q.c q.i)) := Lib.hid hown.sl; (try replace hy1 := Ext.trans hy1 hx9); (try replace hy2 := Ext.trans hy2 hx9); (try replace hy4 := Ext.trans hy4 hx9); have hy3 : Ext w13 w13 := Ext.refl _; replace hxx := Ext.trans hxx hx9; clear hx9 hown) | (go_at_call 20; refine (rback_v _ l q.c q.i _ (HS6.out.ext hxx) (by have := H80.out; omega)).mono ?_; rintro e w14 ⟨⟨v4, rfl, hown⟩, hx9⟩; have HV4 : Hid (LLe.Sl w14 v4 (backL l q.c q.i)) := Lib.hid hown.sl; (try replace hy1 := Ext.trans hy1 hx9); (try replace hy2 := Ext.trans hy2 hx9); (try replace hy3 := Ext.trans hy3 hx9); have hy4 : Ext w14 w14 := Ext.refl _; replace hxx := Ext.trans hxx hx9; clear hx9 hown) | (go_at_call 15; refine (same_v v3 v4 (backL l q.c q.i) (backL l q.c q.i) _ (HV3.out.ext hy3) (HV4.out.ext hy4)).mono ?_; rintro e w' ⟨rfl, hx9⟩; rw [decide_eq_true (rfl : (backL l q.c q.i) = (backL l q.c q.i))]; (try replace hy1 := Ext.trans hy1 hx9); (try replace hy2 := Ext.trans hy2 hx9); (try replace hy3 := Ext.trans hy3 hx9); (try replace hy4 := Ext.trans hy4 hx9); replace hxx := Ext.trans hxx hx9; clear hx9) | (go_at_call 15; refine (same_v v1 v2 (overL l T) (overL l T) _ (HV1.out.ext hy1) (HV2.out.ext hy2)).mono ?_; rintro e w' ⟨rfl, hx9⟩; rw [decide_eq_true (rfl : (overL l T) = (overL l T))]; (try replace hy1 := Ext.trans hy1 hx9); (try replace hy2 := Ext.trans hy2 hx9); (try replace hy3 := Ext.trans hy3 hx9); (try replace hy4 := Ext.trans hy4 hx9); replace hxx := Ext.trans hxx hx9; clear hx9) | (go_at_call 15; refine (same_v (.slice pr nr cr) (.slice pr2 nr2 cr2) r2.1 r2.1 _ (HV6.out.ext hxx) (HV26.out.ext hxx)).mono ?_; rintro e w' ⟨rfl, hx9⟩; rw [decide_eq_true (rfl : r2.1 = r2.1)]; replace hxx := Ext.trans hxx hx9; clear hx9) | (go_at_call 16; refine (rints_any pk pk2 nk ck nk2 ck2 M M _ (sl_row (HK6.out.ext hxx)).ints.1 (sl_row (HK26.out.ext hxx)).ints.1).mono ?_; rintro e w' ⟨rfl, hx9⟩; rw [decide_eq_true (rfl : M = M)]; replace hxx := Ext.trans hxx hx9; clear hx9) | (go_at_call 21; refine (has_w _ l q.c q.i q.k sf st B _ (HS6.out.ext hxx) (by have := H80.out; omega) HWF.out HWT.out HB.out).mono ?_; rintro e w' ⟨rfl, hx9⟩; replace hxx := Ext.trans hxx hx9; clear hx9) | (go_at_call 22; refine (rhas_v _ l q.c q.i q.k sf st B _ (HS6.out.ext hxx) HB.out).mono ?_; rintro e w' ⟨rfl, hx9⟩; replace hxx := Ext.trans hxx hx9; clear hx9))
  have HX7 := Lib.hid (Ext.trans HX6.out hxx)
  clear hxx
  go_wp2
  go_ret
  exact ⟨rfl, HX7.out⟩
end Go.Proofs.Ytocnopgpdlfkjaa.Ls
