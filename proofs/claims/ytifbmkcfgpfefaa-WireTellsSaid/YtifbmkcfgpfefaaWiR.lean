/- Messages: the walk of WireTells. -/
import Derived.Test.YtifbmkcfgpfefaaWiO
namespace Go.Proofs.Ytifbmkcfgpfefaa.Wi
open Go.RowKit Go.Proofs.Ytifbmkcfgpfefaa
set_option linter.unusedVariables false

set_option maxRecDepth 100000 in
set_option maxHeartbeats 16000000 in
theorem tells_walk {cs0 : List Value} {x : Mg} {p : Option Addr} {n c : Nat} {l : List Mg} {ps : Option Addr} {ns cs : Nat} {sd : List Int} {f i : Int} {w : World} (hl : LMg.Sl w (.slice p n c) l) (hd : LMg.R w cs0 x) (hu : (Lay.int .i64).Sl w (.slice ps ns cs) sd) : Calls Try.prog 3 #[.slice p n c, .agg cs0.toArray, .int .i64 f, .int .i64 i, .slice ps ns cs] w fun e w' => e = .returned (.bool true) ∧ Ext w w' := by
  obtain ⟨p1, n1, c1, q1, m1, d1, rfl, hx⟩ := mg_cells hd
  have HM := Lib.hid hx
  have HL := Lib.hid hl
  have hln : l.length = n := (sl_parts hl).1.1
  have HLN := Lib.hid hln
  have HXA : Hid (Ext w (w.alloc (.cells #[.int .i64 x.a, .int .i64 x.b, .int .i64 x.k, .slice p1 n1 c1, .slice q1 m1 d1] 26))) := Lib.hid (Ext.alloc _ _)
  clear hl hd hx
  have HU := Lib.hid hu
  clear hu
  go_enter Try.func3, Try.ntmps3
  go_wp2_with fail
  refine (head_v _).mono ?_
  rintro e w2 ⟨rfl, hx2⟩
  have HX2 := Lib.hid hx2
  have HW2 := Lib.hid (Ext.trans HXA.out hx2)
  have HL2 := Lib.hid (HL.out.ext HW2.out)
  have HM2 := Lib.hid (HM.out.ext HW2.out)
  clear hx2
  obtain ⟨a0, a1, a2, a3, a4⟩ := box5 HX2.out
  go_wp2_with fail
  refine (great_any p n c l w2 (sl_row HL2.out)).mono ?_
  rintro e w3 ⟨⟨g, rfl, hg⟩, hw3⟩
  obtain rfl : w2 = w3 := hw3.symm
  cases g
  · have HS : Hid (Small l) := Lib.hid (hg.1 rfl)
    clear hg
    have hn220 : n ≤ 220 := by rw [← HLN.out]; exact HS.out.1
    go_wp2_with fail
    refine (great_any _ 1 1 [x] _ (mg_one _ (HM2.out.ext (Ext.alloc _ _)) (Ext.refl _))).mono ?_
    rintro e w4 ⟨⟨g2, rfl, hg2⟩, hw4⟩
    have HX4 : Hid (Ext w2 w4) := Lib.hid (by rw [hw4]; exact Ext.alloc _ _)
    clear hw4
    have HW4 := Lib.hid (Ext.trans HW2.out HX4.out)
    have HB4 := Lib.hid (Ext.trans HX2.out HX4.out)
    have HL4 := Lib.hid (HL.out.ext HW4.out)
    have HM4 := Lib.hid (HM.out.ext HW4.out)
    clear a0 a1 a2 a3 a4
    obtain ⟨a0, a1, a2, a3, a4⟩ := box5 HB4.out
    cases g2
    · clear hg2
      by_cases h20 : ¬ (20 : Int) < (ns : Int)
      · have HNB : Hid (n ≤ 1000) := Lib.hid (by omega)
        go_wp2_with fail
        refine (take_v p n c l i w4 HL4.out HNB.out).mono ?_
        obtain ⟨tl, tx, tb, hT⟩ : ∃ tl tx tb, takeS l i = (tl, tx, tb) := ⟨_, _, _, rfl⟩
        rintro e v6 ⟨⟨pb6, nb6, cb6, qb6, mb6, db6, u6, rfl, hs6, hm6⟩, hx6⟩
        rw [hT] at hs6 hm6 ⊢
        dsimp only at hs6 hm6 ⊢
        obtain ⟨pt6, nt6, ct6, rfl, hn6⟩ := sl_form hs6
        have GT6 := Lib.hid hs6
        have GB6 := Lib.hid hm6
        have HX6 := Lib.hid hx6
        have HTT := Lib.hid hT
        clear hs6 hm6 hx6 hn6 hT a0 a1 a2 a3 a4
        go_wp2_with fail
        refine (rtake_v p n c l i _ (HL4.out.ext (Ext.trans HX6.out (Ext.alloc _ _))) HNB.out).mono ?_
        rintro e v7 ⟨⟨pb7, nb7, cb7, qb7, mb7, db7, u7, rfl, hs7, hm7⟩, hx7⟩
        rw [HTT.out] at hs7 hm7 ⊢
        dsimp only at hs7 hm7 ⊢
        obtain ⟨pt7, nt7, ct7, rfl, hn7⟩ := sl_form hs7
        have GT7 := Lib.hid hs7
        have GB7 := Lib.hid hm7
        have HX7 := Lib.hid hx7
        clear hs7 hm7 hx7 hn7
        obtain ⟨Wd, hWd⟩ : ∃ Wd, (v7.alloc (.cells #[.int .i64 tx.a, .int .i64 tx.b, .int .i64 tx.k, .slice pb7 nb7 cb7, .slice qb7 mb7 db7] 26)).drew = Wd := ⟨_, rfl⟩
        have K7 : Hid (Ext (v7.alloc (.cells #[.int .i64 tx.a, .int .i64 tx.b, .int .i64 tx.k, .slice pb7 nb7 cb7, .slice qb7 mb7 db7] 26)) Wd) := Lib.hid (by rw [← hWd]; exact Ext.drew (Ext.refl _))
        have K6 : Hid (Ext (v6.alloc (.cells #[.int .i64 tx.a, .int .i64 tx.b, .int .i64 tx.k, .slice pb6 nb6 cb6, .slice qb6 mb6 db6] 26)) Wd) := Lib.hid (Ext.trans HX7.out (Ext.trans (Ext.alloc _ _) K7.out))
        have K4 : Hid (Ext w4 Wd) := Lib.hid (Ext.trans HX6.out (Ext.trans (Ext.alloc _ _) K6.out))
        have HWd := Lib.hid (Ext.trans HW4.out K4.out)
        have HLd := Lib.hid (HL.out.ext HWd.out)
        have HMd := Lib.hid (HM.out.ext HWd.out)
        have HUd := Lib.hid (HU.out.ext HWd.out)
        have HT6 := Lib.hid (GT6.out.ext (Ext.trans (Ext.alloc _ _) K6.out))
        have HB6 := Lib.hid (GB6.out.ext (Ext.trans (Ext.alloc _ _) K6.out))
        have HT7 := Lib.hid (GT7.out.ext (Ext.trans (Ext.alloc _ _) K7.out))
        have HB7 := Lib.hid (GB7.out.ext (Ext.trans (Ext.alloc _ _) K7.out))
        have HSD : Hid (∀ w', Ext Wd w' → (fun w' : World => w'.cell? ⟨w.heap.size, 0, none⟩ = some (.int .i64 x.a) ∧ w'.cell? ⟨w.heap.size, 1, none⟩ = some (.int .i64 x.b) ∧ w'.cell? ⟨w.heap.size, 2, none⟩ = some (.int .i64 x.k) ∧ w'.cell? ⟨w.heap.size, 3, none⟩ = some (.slice p1 n1 c1) ∧ w'.cell? ⟨w.heap.size, 4, none⟩ = some (.slice q1 m1 d1) ∧ w'.cell? ⟨v6.heap.size, 0, none⟩ = some (.int .i64 tx.a) ∧ w'.cell? ⟨v6.heap.size, 1, none⟩ = some (.int .i64 tx.b) ∧ w'.cell? ⟨v6.heap.size, 2, none⟩ = some (.int .i64 tx.k) ∧ w'.cell? ⟨v6.heap.size, 3, none⟩ = some (.slice pb6 nb6 cb6) ∧ w'.cell? ⟨v6.heap.size, 4, none⟩ = some (.slice qb6 mb6 db6) ∧ w'.cell? ⟨v7.heap.size, 0, none⟩ = some (.int .i64 tx.a) ∧ w'.cell? ⟨v7.heap.size, 1, none⟩ = some (.int .i64 tx.b) ∧ w'.cell? ⟨v7.heap.size, 2, none⟩ = some (.int .i64 tx.k) ∧ w'.cell? ⟨v7.heap.size, 3, none⟩ = some (.slice pb7 nb7 cb7) ∧ w'.cell? ⟨v7.heap.size, 4, none⟩ = some (.slice qb7 mb7 db7)) w') := Lib.hid fun w' h => (by
          obtain ⟨a0, a1, a2, a3, a4⟩ := box5 (Ext.trans HB4.out (Ext.trans K4.out h))
          obtain ⟨b0, b1, b2, b3, b4⟩ := box5 (Ext.trans K6.out h)
          obtain ⟨c0, c1, c2, c3, c4⟩ := box5 (Ext.trans K7.out h)
          exact ⟨a0, a1, a2, a3, a4, b0, b1, b2, b3, b4, c0, c1, c2, c3, c4⟩)
        have HSD0 : (fun w' : World => w'.cell? ⟨w.heap.size, 0, none⟩ = some (.int .i64 x.a) ∧ w'.cell? ⟨w.heap.size, 1, none⟩ = some (.int .i64 x.b) ∧ w'.cell? ⟨w.heap.size, 2, none⟩ = some (.int .i64 x.k) ∧ w'.cell? ⟨w.heap.size, 3, none⟩ = some (.slice p1 n1 c1) ∧ w'.cell? ⟨w.heap.size, 4, none⟩ = some (.slice q1 m1 d1) ∧ w'.cell? ⟨v6.heap.size, 0, none⟩ = some (.int .i64 tx.a) ∧ w'.cell? ⟨v6.heap.size, 1, none⟩ = some (.int .i64 tx.b) ∧ w'.cell? ⟨v6.heap.size, 2, none⟩ = some (.int .i64 tx.k) ∧ w'.cell? ⟨v6.heap.size, 3, none⟩ = some (.slice pb6 nb6 cb6) ∧ w'.cell? ⟨v6.heap.size, 4, none⟩ = some (.slice qb6 mb6 db6) ∧ w'.cell? ⟨v7.heap.size, 0, none⟩ = some (.int .i64 tx.a) ∧ w'.cell? ⟨v7.heap.size, 1, none⟩ = some (.int .i64 tx.b) ∧ w'.cell? ⟨v7.heap.size, 2, none⟩ = some (.int .i64 tx.k) ∧ w'.cell? ⟨v7.heap.size, 3, none⟩ = some (.slice pb7 nb7 cb7) ∧ w'.cell? ⟨v7.heap.size, 4, none⟩ = some (.slice qb7 mb7 db7)) (v7.alloc (.cells #[.int .i64 tx.a, .int .i64 tx.b, .int .i64 tx.k, .slice pb7 nb7 cb7, .slice qb7 mb7 db7] 26)).drew := by rw [hWd]; exact HSD.out _ (Ext.refl _)
        go_wp2
        refine wp_region_held_drew (S := (fun w' : World => w'.cell? ⟨w.heap.size, 0, none⟩ = some (.int .i64 x.a) ∧ w'.cell? ⟨w.heap.size, 1, none⟩ = some (.int .i64 x.b) ∧ w'.cell? ⟨w.heap.size, 2, none⟩ = some (.int .i64 x.k) ∧ w'.cell? ⟨w.heap.size, 3, none⟩ = some (.slice p1 n1 c1) ∧ w'.cell? ⟨w.heap.size, 4, none⟩ = some (.slice q1 m1 d1) ∧ w'.cell? ⟨v6.heap.size, 0, none⟩ = some (.int .i64 tx.a) ∧ w'.cell? ⟨v6.heap.size, 1, none⟩ = some (.int .i64 tx.b) ∧ w'.cell? ⟨v6.heap.size, 2, none⟩ = some (.int .i64 tx.k) ∧ w'.cell? ⟨v6.heap.size, 3, none⟩ = some (.slice pb6 nb6 cb6) ∧ w'.cell? ⟨v6.heap.size, 4, none⟩ = some (.slice qb6 mb6 db6) ∧ w'.cell? ⟨v7.heap.size, 0, none⟩ = some (.int .i64 tx.a) ∧ w'.cell? ⟨v7.heap.size, 1, none⟩ = some (.int .i64 tx.b) ∧ w'.cell? ⟨v7.heap.size, 2, none⟩ = some (.int .i64 tx.k) ∧ w'.cell? ⟨v7.heap.size, 3, none⟩ = some (.slice pb7 nb7 cb7) ∧ w'.cell? ⟨v7.heap.size, 4, none⟩ = some (.slice qb7 mb7 db7))) (by kernel_rfl) HSD0 (fun _ => ?_)
        rw [hWd]
        clear hWd HSD0
        refine wpAnyH_take (i := 0) (oi := ⟨some 46, _, _, _, _, _⟩) (v := .bool true) rfl (by kernel_rfl) (by kernel_rfl) (by kernel_rfl) (fun _ _ _ h => h) (Or.inl ⟨by rfl, ?_⟩) (HSD.out _ (Ext.refl _)) ?_
        · rintro w' ⟨s0, s1, s2, s3, s4, s5, s6, s7, s8, s9, s10, s11, s12, s13, s14⟩
          go_simp
        try simp only [Act.put, List.setIfInBounds_toArray, List.set_cons_zero, List.set_cons_succ]
        refine wpAnyH_take (i := 1) (oi := ⟨some 47, _, _, _, _, _⟩) (v := .bool true) rfl (by kernel_rfl) (by kernel_rfl) (by kernel_rfl) (fun _ _ _ h => h) (Or.inl ⟨by rfl, ?_⟩) (HSD.out _ (Ext.refl _)) ?_
        · rintro w' ⟨s0, s1, s2, s3, s4, s5, s6, s7, s8, s9, s10, s11, s12, s13, s14⟩
          go_simp
        try simp only [Act.put, List.setIfInBounds_toArray, List.set_cons_zero, List.set_cons_succ]
        refine wpAnyH_take (i := 2) (oi := ⟨some 48, _, _, _, _, _⟩) (v := .slice p n c) rfl (by kernel_rfl) (by kernel_rfl) (by kernel_rfl) (fun _ _ _ h => h) (Or.inl ⟨by rfl, ?_⟩) (HSD.out _ (Ext.refl _)) ?_
        · rintro w' ⟨s0, s1, s2, s3, s4, s5, s6, s7, s8, s9, s10, s11, s12, s13, s14⟩
          go_simp
        try simp only [Act.put, List.setIfInBounds_toArray, List.set_cons_zero, List.set_cons_succ]
        refine wpAnyH_take (i := 3) (oi := ⟨some 49, _, _, _, _, _⟩) (v := .agg #[.int .i64 x.a, .int .i64 x.b, .int .i64 x.k, .slice p1 n1 c1, .slice q1 m1 d1]) rfl (by kernel_rfl) (by kernel_rfl) (by kernel_rfl) (fun _ _ _ h => h) (Or.inl ⟨by rfl, ?_⟩) (HSD.out _ (Ext.refl _)) ?_
        · rintro w' ⟨s0, s1, s2, s3, s4, s5, s6, s7, s8, s9, s10, s11, s12, s13, s14⟩
          go_simp
        try simp only [Act.put, List.setIfInBounds_toArray, List.set_cons_zero, List.set_cons_succ]
        refine wpAnyH_take (i := 4) (oi := ⟨some 50, _, _, _, _, _⟩) (v := .int .i64 f) rfl (by kernel_rfl) (by kernel_rfl) (by kernel_rfl) (fun _ _ _ h => h) (Or.inl ⟨by rfl, ?_⟩) (HSD.out _ (Ext.refl _)) ?_
        · rintro w' ⟨s0, s1, s2, s3, s4, s5, s6, s7, s8, s9, s10, s11, s12, s13, s14⟩
          go_simp
        try simp only [Act.put, List.setIfInBounds_toArray, List.set_cons_zero, List.set_cons_succ]
        refine wpAnyH_take (i := 6) (oi := ⟨some 52, _, _, _, _, _⟩) (v := .slice p n c) rfl (by kernel_rfl) (by kernel_rfl) (by kernel_rfl) (fun _ _ _ h => h) (Or.inl ⟨by rfl, ?_⟩) (HSD.out _ (Ext.refl _)) ?_
        · rintro w' ⟨s0, s1, s2, s3, s4, s5, s6, s7, s8, s9, s10, s11, s12, s13, s14⟩
          go_simp
        try simp only [Act.put, List.setIfInBounds_toArray, List.set_cons_zero, List.set_cons_succ]
        refine wpAnyH_take (i := 7) (oi := ⟨some 53, _, _, _, _, _⟩) (v := .agg #[.int .i64 x.a, .int .i64 x.b, .int .i64 x.k, .slice p1 n1 c1, .slice q1 m1 d1]) rfl (by kernel_rfl) (by kernel_rfl) (by kernel_rfl) (fun _ _ _ h => h) (Or.inl ⟨by rfl, ?_⟩) (HSD.out _ (Ext.refl _)) ?_
        · rintro w' ⟨s0, s1, s2, s3, s4, s5, s6, s7, s8, s9, s10, s11, s12, s13, s14⟩
          go_simp
        try simp only [Act.put, List.setIfInBounds_toArray, List.set_cons_zero, List.set_cons_succ]
        refine wpAnyH_take (i := 8) (oi := ⟨some 54, _, _, _, _, _⟩) (v := .int .i64 f) rfl (by kernel_rfl) (by kernel_rfl) (by kernel_rfl) (fun _ _ _ h => h) (Or.inl ⟨by rfl, ?_⟩) (HSD.out _ (Ext.refl _)) ?_
        · rintro w' ⟨s0, s1, s2, s3, s4, s5, s6, s7, s8, s9, s10, s11, s12, s13, s14⟩
          go_simp
        try simp only [Act.put, List.setIfInBounds_toArray, List.set_cons_zero, List.set_cons_succ]
        refine wpAnyH_ready (rs := [5]) (by kernel_rfl) (by simp) ?_
        refine AllReadyH.cons (o := ⟨some 51, .call { callee := .value (.func 14), args := #[.tmp 48, .tmp 49, .tmp 50], argTypes := #[22, 26, 3] }, _, _, _, _⟩) rfl (fun K hK => ?_) AllReadyH.nil
        go_simp
        refine (send_v p n c l x p1 n1 c1 q1 m1 d1 f Wd (HLd.out.ext (Ext.refl _)) (HMd.out.ext (Ext.refl _)) HNB.out).mono ?_
        rintro e Va1 ⟨⟨v1, rfl, hs1⟩, hx1⟩
        have E1 := Lib.hid hx1
        obtain ⟨p51, n51, c51, rfl, hn51⟩ := sl_form hs1
        have H51 := Lib.hid hs1
        clear hs1 hn51
        clear hx1
        go_wp2_with fail
        refine hK.out _ _ (HSD.out _ E1.out) (fun _ => ?_)
        clear hK K
        try simp only [Act.put, List.setIfInBounds_toArray, List.set_cons_zero, List.set_cons_succ]
        refine wpAnyH_ready (rs := [9]) (by kernel_rfl) (by simp) ?_
        refine AllReadyH.cons (o := ⟨some 55, .call { callee := .value (.func 15), args := #[.tmp 52, .tmp 53, .tmp 54], argTypes := #[22, 26, 3] }, _, _, _, _⟩) rfl (fun K hK => ?_) AllReadyH.nil
        go_simp
        refine (rsend_v p n c l x p1 n1 c1 q1 m1 d1 f Va1 (HLd.out.ext E1.out) (HMd.out.ext E1.out) HNB.out).mono ?_
        rintro e Va2 ⟨⟨v2, rfl, hs2⟩, hx2⟩
        have E2 := Lib.hid hx2
        obtain ⟨p55, n55, c55, rfl, hn55⟩ := sl_form hs2
        have H55 := Lib.hid hs2
        clear hs2 hn55
        clear hx2
        go_wp2_with fail
        refine hK.out _ _ (HSD.out _ (Ext.trans E1.out E2.out)) (fun _ => ?_)
        clear hK K
        try simp only [Act.put, List.setIfInBounds_toArray, List.set_cons_zero, List.set_cons_succ]
        refine wpAnyH_ready (rs := [10]) (by kernel_rfl) (by simp) ?_
        refine AllReadyH.cons (o := ⟨some 56, .call { callee := .value (.func 13), args := #[.tmp 51, .tmp 55], argTypes := #[22, 22] }, _, _, _, _⟩) rfl (fun K hK => ?_) AllReadyH.nil
        go_simp
        refine (rsame_t (H51.out.ext E2.out) (H55.out.ext (Ext.refl _)) rfl).mono ?_
        rintro e Va3 ⟨rfl, hx3⟩
        have E3 := Lib.hid hx3
        clear hx3
        go_wp2_with fail
        refine hK.out _ _ (HSD.out _ (Ext.trans E1.out (Ext.trans E2.out E3.out))) (fun _ => ?_)
        clear hK K
        try simp only [Act.put, List.setIfInBounds_toArray, List.set_cons_zero, List.set_cons_succ]
        refine wpAnyH_take (i := 11) (oi := ⟨some 57, _, _, _, _, _⟩) (v := .bool true) rfl (by kernel_rfl) (by kernel_rfl) (by kernel_rfl) (fun _ _ _ h => h) (Or.inl ⟨by rfl, ?_⟩) (HSD.out _ (Ext.trans E1.out (Ext.trans E2.out E3.out))) ?_
        · rintro w' ⟨s0, s1, s2, s3, s4, s5, s6, s7, s8, s9, s10, s11, s12, s13, s14⟩
          go_simp
        try simp only [Act.put, List.setIfInBounds_toArray, List.set_cons_zero, List.set_cons_succ]
        refine wpAnyH_take (i := 12) (oi := ⟨some 58, _, _, _, _, _⟩) (v := .bool true) rfl (by kernel_rfl) (by kernel_rfl) (by kernel_rfl) (fun _ _ _ h => h) (Or.inl ⟨by rfl, ?_⟩) (HSD.out _ (Ext.trans E1.out (Ext.trans E2.out E3.out))) ?_
        · rintro w' ⟨s0, s1, s2, s3, s4, s5, s6, s7, s8, s9, s10, s11, s12, s13, s14⟩
          go_simp
        try simp only [Act.put, List.setIfInBounds_toArray, List.set_cons_zero, List.set_cons_succ]
        refine wpAnyH_take (i := 13) (oi := ⟨some 59, _, _, _, _, _⟩) (v := .slice pt6 nt6 ct6) rfl (by kernel_rfl) (by kernel_rfl) (by kernel_rfl) (fun _ _ _ h => h) (Or.inl ⟨by rfl, ?_⟩) (HSD.out _ (Ext.trans E1.out (Ext.trans E2.out E3.out))) ?_
        · rintro w' ⟨s0, s1, s2, s3, s4, s5, s6, s7, s8, s9, s10, s11, s12, s13, s14⟩
          go_simp
        try simp only [Act.put, List.setIfInBounds_toArray, List.set_cons_zero, List.set_cons_succ]
        refine wpAnyH_take (i := 14) (oi := ⟨some 60, _, _, _, _, _⟩) (v := .slice pt7 nt7 ct7) rfl (by kernel_rfl) (by kernel_rfl) (by kernel_rfl) (fun _ _ _ h => h) (Or.inl ⟨by rfl, ?_⟩) (HSD.out _ (Ext.trans E1.out (Ext.trans E2.out E3.out))) ?_
        · rintro w' ⟨s0, s1, s2, s3, s4, s5, s6, s7, s8, s9, s10, s11, s12, s13, s14⟩
          go_simp
        try simp only [Act.put, List.setIfInBounds_toArray, List.set_cons_zero, List.set_cons_succ]
        refine wpAnyH_ready (rs := [15]) (by kernel_rfl) (by simp) ?_
        refine AllReadyH.cons (o := ⟨some 61, .call { callee := .value (.func 13), args := #[.tmp 59, .tmp 60], argTypes := #[22, 22] }, _, _, _, _⟩) rfl (fun K hK => ?_) AllReadyH.nil
        go_simp
        refine (rsame_t (HT6.out.ext (Ext.trans E1.out (Ext.trans E2.out E3.out))) (HT7.out.ext (Ext.trans E1.out (Ext.trans E2.out E3.out))) rfl).mono ?_
        rintro e Va4 ⟨rfl, hx4⟩
        have E4 := Lib.hid hx4
        clear hx4
        go_wp2_with fail
        refine hK.out _ _ (HSD.out _ (Ext.trans E1.out (Ext.trans E2.out (Ext.trans E3.out E4.out)))) (fun _ => ?_)
        clear hK K
        try simp only [Act.put, List.setIfInBounds_toArray, List.set_cons_zero, List.set_cons_succ]
        refine wpAnyH_take (i := 16) (oi := ⟨some 62, _, _, _, _, _⟩) (v := .bool true) rfl (by kernel_rfl) (by kernel_rfl) (by kernel_rfl) (fun _ _ _ h => h) (Or.inl ⟨by rfl, ?_⟩) (HSD.out _ (Ext.trans E1.out (Ext.trans E2.out (Ext.trans E3.out E4.out)))) ?_
        · rintro w' ⟨s0, s1, s2, s3, s4, s5, s6, s7, s8, s9, s10, s11, s12, s13, s14⟩
          go_simp
        try simp only [Act.put, List.setIfInBounds_toArray, List.set_cons_zero, List.set_cons_succ]
        refine wpAnyH_take (i := 17) (oi := ⟨some 63, _, _, _, _, _⟩) (v := .bool true) rfl (by kernel_rfl) (by kernel_rfl) (by kernel_rfl) (fun _ _ _ h => h) (Or.inl ⟨by rfl, ?_⟩) (HSD.out _ (Ext.trans E1.out (Ext.trans E2.out (Ext.trans E3.out E4.out)))) ?_
        · rintro w' ⟨s0, s1, s2, s3, s4, s5, s6, s7, s8, s9, s10, s11, s12, s13, s14⟩
          go_simp
        try simp only [Act.put, List.setIfInBounds_toArray, List.set_cons_zero, List.set_cons_succ]
        refine wpAnyH_take (i := 18) (oi := ⟨some 64, _, _, _, _, _⟩) (v := .agg #[.int .i64 tx.a, .int .i64 tx.b, .int .i64 tx.k, .slice pb6 nb6 cb6, .slice qb6 mb6 db6]) rfl (by kernel_rfl) (by kernel_rfl) (by kernel_rfl) (fun _ _ _ h => h) (Or.inl ⟨by rfl, ?_⟩) (HSD.out _ (Ext.trans E1.out (Ext.trans E2.out (Ext.trans E3.out E4.out)))) ?_
        · rintro w' ⟨s0, s1, s2, s3, s4, s5, s6, s7, s8, s9, s10, s11, s12, s13, s14⟩
          go_simp
        try simp only [Act.put, List.setIfInBounds_toArray, List.set_cons_zero, List.set_cons_succ]
        refine wpAnyH_take (i := 19) (oi := ⟨some 65, _, _, _, _, _⟩) (v := .agg #[.int .i64 tx.a, .int .i64 tx.b, .int .i64 tx.k, .slice pb7 nb7 cb7, .slice qb7 mb7 db7]) rfl (by kernel_rfl) (by kernel_rfl) (by kernel_rfl) (fun _ _ _ h => h) (Or.inl ⟨by rfl, ?_⟩) (HSD.out _ (Ext.trans E1.out (Ext.trans E2.out (Ext.trans E3.out E4.out)))) ?_
        · rintro w' ⟨s0, s1, s2, s3, s4, s5, s6, s7, s8, s9, s10, s11, s12, s13, s14⟩
          go_simp
        try simp only [Act.put, List.setIfInBounds_toArray, List.set_cons_zero, List.set_cons_succ]
        refine wpAnyH_ready (rs := [20]) (by kernel_rfl) (by simp) ?_
        refine AllReadyH.cons (o := ⟨some 66, .call { callee := .value (.func 16), args := #[.tmp 64, .tmp 65], argTypes := #[26, 26] }, _, _, _, _⟩) rfl (fun K hK => ?_) AllReadyH.nil
        go_simp
        refine (rsame1_t (x := tx) (y := tx) (HB6.out.ext (Ext.trans E1.out (Ext.trans E2.out (Ext.trans E3.out E4.out)))) (HB7.out.ext (Ext.trans E1.out (Ext.trans E2.out (Ext.trans E3.out E4.out)))) rfl).mono ?_
        rintro e Va5 ⟨rfl, hx5⟩
        have E5 := Lib.hid hx5
        clear hx5
        go_wp2_with fail
        refine hK.out _ _ (HSD.out _ (Ext.trans E1.out (Ext.trans E2.out (Ext.trans E3.out (Ext.trans E4.out E5.out))))) (fun _ => ?_)
        clear hK K
        try simp only [Act.put, List.setIfInBounds_toArray, List.set_cons_zero, List.set_cons_succ]
        refine wpAnyH_take (i := 21) (oi := ⟨some 67, _, _, _, _, _⟩) (v := .bool true) rfl (by kernel_rfl) (by kernel_rfl) (by kernel_rfl) (fun _ _ _ h => h) (Or.inl ⟨by rfl, ?_⟩) (HSD.out _ (Ext.trans E1.out (Ext.trans E2.out (Ext.trans E3.out (Ext.trans E4.out E5.out))))) ?_
        · rintro w' ⟨s0, s1, s2, s3, s4, s5, s6, s7, s8, s9, s10, s11, s12, s13, s14⟩
          go_simp
        try simp only [Act.put, List.setIfInBounds_toArray, List.set_cons_zero, List.set_cons_succ]
        refine wpAnyH_take (i := 22) (oi := ⟨some 68, _, _, _, _, _⟩) (v := .bool true) rfl (by kernel_rfl) (by kernel_rfl) (by kernel_rfl) (fun _ _ _ h => h) (Or.inl ⟨by rfl, ?_⟩) (HSD.out _ (Ext.trans E1.out (Ext.trans E2.out (Ext.trans E3.out (Ext.trans E4.out E5.out))))) ?_
        · rintro w' ⟨s0, s1, s2, s3, s4, s5, s6, s7, s8, s9, s10, s11, s12, s13, s14⟩
          go_simp
        try simp only [Act.put, List.setIfInBounds_toArray, List.set_cons_zero, List.set_cons_succ]
        refine wpAnyH_take (i := 23) (oi := ⟨some 69, _, _, _, _, _⟩) (v := .bool tb) rfl (by kernel_rfl) (by kernel_rfl) (by kernel_rfl) (fun _ _ _ h => h) (Or.inl ⟨by rfl, ?_⟩) (HSD.out _ (Ext.trans E1.out (Ext.trans E2.out (Ext.trans E3.out (Ext.trans E4.out E5.out))))) ?_
        · rintro w' ⟨s0, s1, s2, s3, s4, s5, s6, s7, s8, s9, s10, s11, s12, s13, s14⟩
          go_simp
        try simp only [Act.put, List.setIfInBounds_toArray, List.set_cons_zero, List.set_cons_succ]
        refine wpAnyH_take (i := 24) (oi := ⟨some 70, _, _, _, _, _⟩) (v := .bool tb) rfl (by kernel_rfl) (by kernel_rfl) (by kernel_rfl) (fun _ _ _ h => h) (Or.inl ⟨by rfl, ?_⟩) (HSD.out _ (Ext.trans E1.out (Ext.trans E2.out (Ext.trans E3.out (Ext.trans E4.out E5.out))))) ?_
        · rintro w' ⟨s0, s1, s2, s3, s4, s5, s6, s7, s8, s9, s10, s11, s12, s13, s14⟩
          go_simp
        try simp only [Act.put, List.setIfInBounds_toArray, List.set_cons_zero, List.set_cons_succ]
        refine wpAnyH_take (i := 25) (oi := ⟨some 71, _, _, _, _, _⟩) (v := .bool true) rfl (by kernel_rfl) (by kernel_rfl) (by kernel_rfl) (fun _ _ _ h => h) (Or.inl ⟨by rfl, ?_⟩) (HSD.out _ (Ext.trans E1.out (Ext.trans E2.out (Ext.trans E3.out (Ext.trans E4.out E5.out))))) ?_
        · rintro w' ⟨s0, s1, s2, s3, s4, s5, s6, s7, s8, s9, s10, s11, s12, s13, s14⟩
          go_simp
        try simp only [Act.put, List.setIfInBounds_toArray, List.set_cons_zero, List.set_cons_succ]
        refine wpAnyH_take (i := 26) (oi := ⟨some 72, _, _, _, _, _⟩) (v := .bool true) rfl (by kernel_rfl) (by kernel_rfl) (by kernel_rfl) (fun _ _ _ h => h) (Or.inl ⟨by rfl, ?_⟩) (HSD.out _ (Ext.trans E1.out (Ext.trans E2.out (Ext.trans E3.out (Ext.trans E4.out E5.out))))) ?_
        · rintro w' ⟨s0, s1, s2, s3, s4, s5, s6, s7, s8, s9, s10, s11, s12, s13, s14⟩
          go_simp
        try simp only [Act.put, List.setIfInBounds_toArray, List.set_cons_zero, List.set_cons_succ]
        refine wpAnyH_take (i := 27) (oi := ⟨some 73, _, _, _, _, _⟩) (v := .bool true) rfl (by kernel_rfl) (by kernel_rfl) (by kernel_rfl) (fun _ _ _ h => h) (Or.inl ⟨by rfl, ?_⟩) (HSD.out _ (Ext.trans E1.out (Ext.trans E2.out (Ext.trans E3.out (Ext.trans E4.out E5.out))))) ?_
        · rintro w' ⟨s0, s1, s2, s3, s4, s5, s6, s7, s8, s9, s10, s11, s12, s13, s14⟩
          go_simp
        try simp only [Act.put, List.setIfInBounds_toArray, List.set_cons_zero, List.set_cons_succ]
        refine wpAnyH_take (i := 28) (oi := ⟨some 74, _, _, _, _, _⟩) (v := .slice p n c) rfl (by kernel_rfl) (by kernel_rfl) (by kernel_rfl) (fun _ _ _ h => h) (Or.inl ⟨by rfl, ?_⟩) (HSD.out _ (Ext.trans E1.out (Ext.trans E2.out (Ext.trans E3.out (Ext.trans E4.out E5.out))))) ?_
        · rintro w' ⟨s0, s1, s2, s3, s4, s5, s6, s7, s8, s9, s10, s11, s12, s13, s14⟩
          go_simp
        try simp only [Act.put, List.setIfInBounds_toArray, List.set_cons_zero, List.set_cons_succ]
        refine wpAnyH_take (i := 29) (oi := ⟨some 75, _, _, _, _, _⟩) (v := .pointer (some ⟨w.heap.size, 1, none⟩)) rfl (by kernel_rfl) (by kernel_rfl) (by kernel_rfl) (fun _ _ _ h => h) (Or.inl ⟨by rfl, ?_⟩) (HSD.out _ (Ext.trans E1.out (Ext.trans E2.out (Ext.trans E3.out (Ext.trans E4.out E5.out))))) ?_
        · rintro w' ⟨s0, s1, s2, s3, s4, s5, s6, s7, s8, s9, s10, s11, s12, s13, s14⟩
          go_simp
        try simp only [Act.put, List.setIfInBounds_toArray, List.set_cons_zero, List.set_cons_succ]
        refine wpAnyH_take (i := 30) (oi := ⟨some 76, _, _, _, _, _⟩) (v := .int .i64 x.b) rfl (by kernel_rfl) (by kernel_rfl) (by kernel_rfl) (fun _ _ _ h => h) (Or.inl ⟨by rfl, ?_⟩) (HSD.out _ (Ext.trans E1.out (Ext.trans E2.out (Ext.trans E3.out (Ext.trans E4.out E5.out))))) ?_
        · rintro w' ⟨s0, s1, s2, s3, s4, s5, s6, s7, s8, s9, s10, s11, s12, s13, s14⟩
          go_simp
        try simp only [Act.put, List.setIfInBounds_toArray, List.set_cons_zero, List.set_cons_succ]
        refine wpAnyH_take (i := 32) (oi := ⟨some 78, _, _, _, _, _⟩) (v := .slice p n c) rfl (by kernel_rfl) (by kernel_rfl) (by kernel_rfl) (fun _ _ _ h => h) (Or.inl ⟨by rfl, ?_⟩) (HSD.out _ (Ext.trans E1.out (Ext.trans E2.out (Ext.trans E3.out (Ext.trans E4.out E5.out))))) ?_
        · rintro w' ⟨s0, s1, s2, s3, s4, s5, s6, s7, s8, s9, s10, s11, s12, s13, s14⟩
          go_simp
        try simp only [Act.put, List.setIfInBounds_toArray, List.set_cons_zero, List.set_cons_succ]
        refine wpAnyH_take (i := 33) (oi := ⟨some 79, _, _, _, _, _⟩) (v := .pointer (some ⟨w.heap.size, 1, none⟩)) rfl (by kernel_rfl) (by kernel_rfl) (by kernel_rfl) (fun _ _ _ h => h) (Or.inl ⟨by rfl, ?_⟩) (HSD.out _ (Ext.trans E1.out (Ext.trans E2.out (Ext.trans E3.out (Ext.trans E4.out E5.out))))) ?_
        · rintro w' ⟨s0, s1, s2, s3, s4, s5, s6, s7, s8, s9, s10, s11, s12, s13, s14⟩
          go_simp
        try simp only [Act.put, List.setIfInBounds_toArray, List.set_cons_zero, List.set_cons_succ]
        refine wpAnyH_take (i := 34) (oi := ⟨some 80, _, _, _, _, _⟩) (v := .int .i64 x.b) rfl (by kernel_rfl) (by kernel_rfl) (by kernel_rfl) (fun _ _ _ h => h) (Or.inl ⟨by rfl, ?_⟩) (HSD.out _ (Ext.trans E1.out (Ext.trans E2.out (Ext.trans E3.out (Ext.trans E4.out E5.out))))) ?_
        · rintro w' ⟨s0, s1, s2, s3, s4, s5, s6, s7, s8, s9, s10, s11, s12, s13, s14⟩
          go_simp
        try simp only [Act.put, List.setIfInBounds_toArray, List.set_cons_zero, List.set_cons_succ]
        refine wpAnyH_ready (rs := [31]) (by kernel_rfl) (by simp) ?_
        refine AllReadyH.cons (o := ⟨some 77, .call { callee := .value (.func 18), args := #[.tmp 74, .tmp 76], argTypes := #[22, 3] }, _, _, _, _⟩) rfl (fun K hK => ?_) AllReadyH.nil
        go_simp
        refine (to_v p n c l x.b Va5 (sl_row (HLd.out.ext (Ext.trans E1.out (Ext.trans E2.out (Ext.trans E3.out (Ext.trans E4.out E5.out)))))) HNB.out).mono ?_
        rintro e Va6 ⟨⟨v6, rfl, hs6⟩, hx6⟩
        have E6 := Lib.hid hx6
        obtain ⟨p77, n77, c77, rfl, hn77⟩ := sl_form hs6
        have H77 := Lib.hid hs6
        clear hs6 hn77
        clear hx6
        go_wp2_with fail
        refine hK.out _ _ (HSD.out _ (Ext.trans E1.out (Ext.trans E2.out (Ext.trans E3.out (Ext.trans E4.out (Ext.trans E5.out E6.out)))))) (fun _ => ?_)
        clear hK K
        try simp only [Act.put, List.setIfInBounds_toArray, List.set_cons_zero, List.set_cons_succ]
        refine wpAnyH_ready (rs := [35]) (by kernel_rfl) (by simp) ?_
        refine AllReadyH.cons (o := ⟨some 81, .call { callee := .value (.func 19), args := #[.tmp 78, .tmp 80], argTypes := #[22, 3] }, _, _, _, _⟩) rfl (fun K hK => ?_) AllReadyH.nil
        go_simp
        refine (rto_v p n c l x.b Va6 (sl_row (HLd.out.ext (Ext.trans E1.out (Ext.trans E2.out (Ext.trans E3.out (Ext.trans E4.out (Ext.trans E5.out E6.out))))))) HNB.out).mono ?_
        rintro e Va7 ⟨⟨v7, rfl, hs7⟩, hx7⟩
        have E7 := Lib.hid hx7
        replace hs7 := hs7.sl
        obtain ⟨p81, n81, c81, rfl, hn81⟩ := sl_form hs7
        have H81 := Lib.hid hs7
        clear hs7 hn81
        clear hx7
        go_wp2_with fail
        refine hK.out _ _ (HSD.out _ (Ext.trans E1.out (Ext.trans E2.out (Ext.trans E3.out (Ext.trans E4.out (Ext.trans E5.out (Ext.trans E6.out E7.out))))))) (fun _ => ?_)
        clear hK K
        try simp only [Act.put, List.setIfInBounds_toArray, List.set_cons_zero, List.set_cons_succ]
        refine wpAnyH_ready (rs := [36]) (by kernel_rfl) (by simp) ?_
        refine AllReadyH.cons (o := ⟨some 82, .call { callee := .value (.func 17), args := #[.tmp 77, .tmp 81], argTypes := #[23, 23] }, _, _, _, _⟩) rfl (fun K hK => ?_) AllReadyH.nil
        go_simp
        refine (rints_t (H77.out.ext E7.out) (H81.out.ext (Ext.refl _)) rfl).mono ?_
        rintro e Va8 ⟨rfl, hx8⟩
        have E8 := Lib.hid hx8
        clear hx8
        go_wp2_with fail
        refine hK.out _ _ (HSD.out _ (Ext.trans E1.out (Ext.trans E2.out (Ext.trans E3.out (Ext.trans E4.out (Ext.trans E5.out (Ext.trans E6.out (Ext.trans E7.out E8.out)))))))) (fun _ => ?_)
        clear hK K
        try simp only [Act.put, List.setIfInBounds_toArray, List.set_cons_zero, List.set_cons_succ]
        refine wpAnyH_take (i := 37) (oi := ⟨some 83, _, _, _, _, _⟩) (v := .bool true) rfl (by kernel_rfl) (by kernel_rfl) (by kernel_rfl) (fun _ _ _ h => h) (Or.inl ⟨by rfl, ?_⟩) (HSD.out _ (Ext.trans E1.out (Ext.trans E2.out (Ext.trans E3.out (Ext.trans E4.out (Ext.trans E5.out (Ext.trans E6.out (Ext.trans E7.out E8.out)))))))) ?_
        · rintro w' ⟨s0, s1, s2, s3, s4, s5, s6, s7, s8, s9, s10, s11, s12, s13, s14⟩
          go_simp
        try simp only [Act.put, List.setIfInBounds_toArray, List.set_cons_zero, List.set_cons_succ]
        refine wpAnyH_take (i := 38) (oi := ⟨some 84, _, _, _, _, _⟩) (v := .bool true) rfl (by kernel_rfl) (by kernel_rfl) (by kernel_rfl) (fun _ _ _ h => h) (Or.inl ⟨by rfl, ?_⟩) (HSD.out _ (Ext.trans E1.out (Ext.trans E2.out (Ext.trans E3.out (Ext.trans E4.out (Ext.trans E5.out (Ext.trans E6.out (Ext.trans E7.out E8.out)))))))) ?_
        · rintro w' ⟨s0, s1, s2, s3, s4, s5, s6, s7, s8, s9, s10, s11, s12, s13, s14⟩
          go_simp
        try simp only [Act.put, List.setIfInBounds_toArray, List.set_cons_zero, List.set_cons_succ]
        refine wpAnyH_take (i := 39) (oi := ⟨some 85, _, _, _, _, _⟩) (v := .slice p n c) rfl (by kernel_rfl) (by kernel_rfl) (by kernel_rfl) (fun _ _ _ h => h) (Or.inl ⟨by rfl, ?_⟩) (HSD.out _ (Ext.trans E1.out (Ext.trans E2.out (Ext.trans E3.out (Ext.trans E4.out (Ext.trans E5.out (Ext.trans E6.out (Ext.trans E7.out E8.out)))))))) ?_
        · rintro w' ⟨s0, s1, s2, s3, s4, s5, s6, s7, s8, s9, s10, s11, s12, s13, s14⟩
          go_simp
        try simp only [Act.put, List.setIfInBounds_toArray, List.set_cons_zero, List.set_cons_succ]
        refine wpAnyH_take (i := 40) (oi := ⟨some 86, _, _, _, _, _⟩) (v := .slice ps ns cs) rfl (by kernel_rfl) (by kernel_rfl) (by kernel_rfl) (fun _ _ _ h => h) (Or.inl ⟨by rfl, ?_⟩) (HSD.out _ (Ext.trans E1.out (Ext.trans E2.out (Ext.trans E3.out (Ext.trans E4.out (Ext.trans E5.out (Ext.trans E6.out (Ext.trans E7.out E8.out)))))))) ?_
        · rintro w' ⟨s0, s1, s2, s3, s4, s5, s6, s7, s8, s9, s10, s11, s12, s13, s14⟩
          go_simp
        try simp only [Act.put, List.setIfInBounds_toArray, List.set_cons_zero, List.set_cons_succ]
        refine wpAnyH_take (i := 42) (oi := ⟨some 88, _, _, _, _, _⟩) (v := .slice p n c) rfl (by kernel_rfl) (by kernel_rfl) (by kernel_rfl) (fun _ _ _ h => h) (Or.inl ⟨by rfl, ?_⟩) (HSD.out _ (Ext.trans E1.out (Ext.trans E2.out (Ext.trans E3.out (Ext.trans E4.out (Ext.trans E5.out (Ext.trans E6.out (Ext.trans E7.out E8.out)))))))) ?_
        · rintro w' ⟨s0, s1, s2, s3, s4, s5, s6, s7, s8, s9, s10, s11, s12, s13, s14⟩
          go_simp
        try simp only [Act.put, List.setIfInBounds_toArray, List.set_cons_zero, List.set_cons_succ]
        refine wpAnyH_take (i := 43) (oi := ⟨some 89, _, _, _, _, _⟩) (v := .slice ps ns cs) rfl (by kernel_rfl) (by kernel_rfl) (by kernel_rfl) (fun _ _ _ h => h) (Or.inl ⟨by rfl, ?_⟩) (HSD.out _ (Ext.trans E1.out (Ext.trans E2.out (Ext.trans E3.out (Ext.trans E4.out (Ext.trans E5.out (Ext.trans E6.out (Ext.trans E7.out E8.out)))))))) ?_
        · rintro w' ⟨s0, s1, s2, s3, s4, s5, s6, s7, s8, s9, s10, s11, s12, s13, s14⟩
          go_simp
        try simp only [Act.put, List.setIfInBounds_toArray, List.set_cons_zero, List.set_cons_succ]
        refine wpAnyH_ready (rs := [41]) (by kernel_rfl) (by simp) ?_
        refine AllReadyH.cons (o := ⟨some 87, .call { callee := .value (.func 20), args := #[.tmp 85, .tmp 86], argTypes := #[22, 23] }, _, _, _, _⟩) rfl (fun K hK => ?_) AllReadyH.nil
        go_simp
        refine (cut_v p n c l ps ns cs sd Va8 (sl_row (HLd.out.ext (Ext.trans E1.out (Ext.trans E2.out (Ext.trans E3.out (Ext.trans E4.out (Ext.trans E5.out (Ext.trans E6.out (Ext.trans E7.out E8.out))))))))) (sl_row (HUd.out.ext (Ext.trans E1.out (Ext.trans E2.out (Ext.trans E3.out (Ext.trans E4.out (Ext.trans E5.out (Ext.trans E6.out (Ext.trans E7.out E8.out))))))))) HNB.out).mono ?_
        rintro e Va9 ⟨⟨v9, rfl, hs9⟩, hx9⟩
        have E9 := Lib.hid hx9
        obtain ⟨p87, n87, c87, rfl, hn87⟩ := sl_form hs9
        have H87 := Lib.hid hs9
        clear hs9 hn87
        clear hx9
        go_wp2_with fail
        refine hK.out _ _ (HSD.out _ (Ext.trans E1.out (Ext.trans E2.out (Ext.trans E3.out (Ext.trans E4.out (Ext.trans E5.out (Ext.trans E6.out (Ext.trans E7.out (Ext.trans E8.out E9.out))))))))) (fun _ => ?_)
        clear hK K
        try simp only [Act.put, List.setIfInBounds_toArray, List.set_cons_zero, List.set_cons_succ]
        refine wpAnyH_ready (rs := [44]) (by kernel_rfl) (by simp) ?_
        refine AllReadyH.cons (o := ⟨some 90, .call { callee := .value (.func 21), args := #[.tmp 88, .tmp 89], argTypes := #[22, 23] }, _, _, _, _⟩) rfl (fun K hK => ?_) AllReadyH.nil
        go_simp
        refine (rcut_v p n c l ps ns cs sd Va9 (sl_row (HLd.out.ext (Ext.trans E1.out (Ext.trans E2.out (Ext.trans E3.out (Ext.trans E4.out (Ext.trans E5.out (Ext.trans E6.out (Ext.trans E7.out (Ext.trans E8.out E9.out)))))))))) (sl_row (HUd.out.ext (Ext.trans E1.out (Ext.trans E2.out (Ext.trans E3.out (Ext.trans E4.out (Ext.trans E5.out (Ext.trans E6.out (Ext.trans E7.out (Ext.trans E8.out E9.out)))))))))) HNB.out).mono ?_
        rintro e Va10 ⟨⟨v10, rfl, hs10⟩, hx10⟩
        have E10 := Lib.hid hx10
        replace hs10 := hs10.sl
        obtain ⟨p90, n90, c90, rfl, hn90⟩ := sl_form hs10
        have H90 := Lib.hid hs10
        clear hs10 hn90
        clear hx10
        go_wp2_with fail
        refine hK.out _ _ (HSD.out _ (Ext.trans E1.out (Ext.trans E2.out (Ext.trans E3.out (Ext.trans E4.out (Ext.trans E5.out (Ext.trans E6.out (Ext.trans E7.out (Ext.trans E8.out (Ext.trans E9.out E10.out)))))))))) (fun _ => ?_)
        clear hK K
        try simp only [Act.put, List.setIfInBounds_toArray, List.set_cons_zero, List.set_cons_succ]
        refine wpAnyH_ready (rs := [45]) (by kernel_rfl) (by simp) ?_
        refine AllReadyH.cons (o := ⟨some 91, .call { callee := .value (.func 13), args := #[.tmp 87, .tmp 90], argTypes := #[22, 22] }, _, _, _, _⟩) rfl (fun K hK => ?_) AllReadyH.nil
        go_simp
        refine (rsame_t (H87.out.ext E10.out) (H90.out.ext (Ext.refl _)) rfl).mono ?_
        rintro e Va11 ⟨rfl, hx11⟩
        have E11 := Lib.hid hx11
        clear hx11
        go_wp2_with fail
        refine hK.out _ _ (HSD.out _ (Ext.trans E1.out (Ext.trans E2.out (Ext.trans E3.out (Ext.trans E4.out (Ext.trans E5.out (Ext.trans E6.out (Ext.trans E7.out (Ext.trans E8.out (Ext.trans E9.out (Ext.trans E10.out E11.out))))))))))) (fun _ => ?_)
        clear hK K
        try simp only [Act.put, List.setIfInBounds_toArray, List.set_cons_zero, List.set_cons_succ]
        refine wpAnyH_take (i := 46) (oi := ⟨some 92, _, _, _, _, _⟩) (v := .bool true) rfl (by kernel_rfl) (by kernel_rfl) (by kernel_rfl) (fun _ _ _ h => h) (Or.inl ⟨by rfl, ?_⟩) (HSD.out _ (Ext.trans E1.out (Ext.trans E2.out (Ext.trans E3.out (Ext.trans E4.out (Ext.trans E5.out (Ext.trans E6.out (Ext.trans E7.out (Ext.trans E8.out (Ext.trans E9.out (Ext.trans E10.out E11.out))))))))))) ?_
        · rintro w' ⟨s0, s1, s2, s3, s4, s5, s6, s7, s8, s9, s10, s11, s12, s13, s14⟩
          go_simp
        try simp only [Act.put, List.setIfInBounds_toArray, List.set_cons_zero, List.set_cons_succ]
        refine wpAnyH_take (i := 47) (oi := ⟨some 10, _, _, _, _, _⟩) (v := .bool true) rfl (by kernel_rfl) (by kernel_rfl) (by kernel_rfl) (fun _ _ _ h => h) (Or.inl ⟨by rfl, ?_⟩) (HSD.out _ (Ext.trans E1.out (Ext.trans E2.out (Ext.trans E3.out (Ext.trans E4.out (Ext.trans E5.out (Ext.trans E6.out (Ext.trans E7.out (Ext.trans E8.out (Ext.trans E9.out (Ext.trans E10.out E11.out))))))))))) ?_
        · rintro w' ⟨s0, s1, s2, s3, s4, s5, s6, s7, s8, s9, s10, s11, s12, s13, s14⟩
          go_simp
        try simp only [Act.put, List.setIfInBounds_toArray, List.set_cons_zero, List.set_cons_succ]
        refine wpAnyH_done (by kernel_rfl) ?_ _
        go_wp2
        go_ret
        exact ⟨rfl, Ext.trans HWd.out (Ext.trans E1.out (Ext.trans E2.out (Ext.trans E3.out (Ext.trans E4.out (Ext.trans E5.out (Ext.trans E6.out (Ext.trans E7.out (Ext.trans E8.out (Ext.trans E9.out (Ext.trans E10.out E11.out))))))))))⟩
      · have h20 : (20 : Int) < (ns : Int) := by omega
        go_wp2
        go_ret
        exact ⟨rfl, HW4.out⟩
    · clear hg2
      go_wp2
      go_ret
      exact ⟨rfl, HW4.out⟩
  · clear hg
    go_wp2
    go_ret
    exact ⟨rfl, HW2.out⟩
end Go.Proofs.Ytifbmkcfgpfefaa.Wi
