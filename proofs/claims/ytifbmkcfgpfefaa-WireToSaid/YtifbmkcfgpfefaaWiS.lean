/- Messages: the walk of WireTo. -/
import Derived.Test.YtifbmkcfgpfefaaWiO
import Derived.Test.YtifbmkcfgpfefaaGrow
namespace Go.Proofs.Ytifbmkcfgpfefaa.Wi
open Go.RowKit Go.Proofs.Ytifbmkcfgpfefaa
set_option linter.unusedVariables false

theorem places_tail (f : Mg → Bool) (l : List Mg) (j : Nat) (hj : j ≤ l.length) : ∃ R, placesN f l = placesN f (l.take j) ++ R ∧ ∀ r ∈ R, j ≤ r := by
  refine ⟨(((l.drop j).zipIdx (l.take j).length).filter (fun y => f y.1)).map (·.2), ?_, ?_⟩
  · unfold placesN
    conv => lhs; rw [← List.take_append_drop j l]
    rw [List.zipIdx_append, List.filter_append, List.map_append, Nat.zero_add]
  · intro r hr
    obtain ⟨y, hy, rfl⟩ := List.mem_map.1 hr
    have h := List.le_snd_of_mem_zipIdx (List.mem_filter.1 hy).1
    rw [List.length_take] at h
    omega
theorem to_tail (l : List Mg) (m : Int) (j : Nat) (hj : j ≤ l.length) : ∃ R, toL l m = toL (l.take j) m ++ R ∧ ∀ r ∈ R, (j : Int) ≤ r := by
  obtain ⟨R, h1, h2⟩ := places_tail (fun x => decide (x.b = m)) l j hj
  refine ⟨R.map (fun (k : Nat) => (k : Int)), ?_, ?_⟩
  · unfold toL; rw [h1, List.map_append]
  · intro r hr
    obtain ⟨y, hy, rfl⟩ := List.mem_map.1 hr
    have := h2 y hy
    omega
theorem to_yes {l : List Mg} {m : Int} {j : Nat} {x : Mg} (h : l[j]? = some x) (hb : x.b = m) : (toL l m)[(toL (l.take j) m).length]? = some (j : Int) := by
  have hl := (List.getElem?_eq_some_iff.1 h).1
  obtain ⟨R, h1, _⟩ := to_tail l m (j + 1) (by omega)
  rw [h1, to_step h, if_pos hb]
  simp
theorem to_no {l : List Mg} {m : Int} {j : Nat} {x : Mg} (h : l[j]? = some x) (hb : ¬ x.b = m) {r : Int} (hr : (toL l m)[(toL (l.take j) m).length]? = some r) : r ≠ (j : Int) := by
  have hl := (List.getElem?_eq_some_iff.1 h).1
  obtain ⟨R, h1, h2⟩ := to_tail l m (j + 1) (by omega)
  rw [h1, to_step h, if_neg hb, List.append_nil, List.getElem?_append_right (Nat.le_refl _)] at hr
  have := h2 r (List.mem_of_getElem? hr)
  omega
theorem to_more {l : List Mg} {x : Mg} {n : Nat} (h : l.length = n) : toL (l ++ [x]) x.b = toL l x.b ++ [(n : Int)] := by
  subst h
  unfold toL
  rw [places_snoc, List.map_append]
  simp
theorem at_of {l : List Int} {k : Nat} {r : Int} (h : l[k]? = some r) : at0 l k = r := by
  unfold at0; simp [h]
def ToR (w5 : World) (l : List Mg) (m : Int) (n : Nat) (u i : Value) (wr : World) : Prop :=
  ∃ j : Nat, i = .int .i64 j ∧ j ≤ n ∧ u = .int .i64 ((toL (l.take j) m).length : Nat) ∧ Ext w5 wr
theorem sendone {l : List Mg} {x : Mg} {n : Nat} (h : l.length = n) (h2 : n < 200) : sendS l x 1 = l ++ [x] := by
  unfold sendS; rw [if_neg (by omega), if_pos rfl]
set_option maxRecDepth 100000 in
set_option maxHeartbeats 16000000 in
theorem to_walk {cs0 : List Value} {x : Mg} {p : Option Addr} {n c : Nat} {l : List Mg} {w : World} (hl : LMg.Sl w (.slice p n c) l) (hd : LMg.R w cs0 x) : Calls Try.prog 8 #[.slice p n c, .agg cs0.toArray] w fun e w' => e = .returned (.bool true) ∧ Ext w w' := by
  obtain ⟨p1, n1, c1, q1, m1, d1, rfl, hx⟩ := mg_cells hd
  have HM := Lib.hid hx
  have HL := Lib.hid hl
  have hln : l.length = n := (sl_parts hl).1.1
  have HLN := Lib.hid hln
  have HXA : Hid (Ext w (w.alloc (.cells #[.int .i64 x.a, .int .i64 x.b, .int .i64 x.k, .slice p1 n1 c1, .slice q1 m1 d1] 26))) := Lib.hid (Ext.alloc _ _)
  clear hl hd hx
  go_enter Try.func8, Try.ntmps8
  go_wp2_with fail
  refine (head_v _).mono ?_
  rintro e w2 ⟨rfl, hx2⟩
  have HX2 := Lib.hid hx2
  have HW2 := Lib.hid (Ext.trans HXA.out hx2)
  have HL2 := Lib.hid (HL.out.ext HW2.out)
  have HM2 := Lib.hid (HM.out.ext HW2.out)
  clear hx2
  obtain ⟨a0, a1, a2, a3, a4⟩ := box5 HX2.out
  go_wp2_with fail
  refine (great_any p n c l w2 (sl_row HL2.out)).mono ?_
  rintro e w3 ⟨⟨g, rfl, hg⟩, hw3⟩
  obtain rfl : w2 = w3 := hw3.symm
  cases g
  · have HS : Hid (Small l) := Lib.hid (hg.1 rfl)
    clear hg
    have hn220 : n ≤ 220 := by rw [← HLN.out]; exact HS.out.1
    go_wp2_with fail
    refine (great_any _ 1 1 [x] _ (mg_one _ (HM2.out.ext (Ext.alloc _ _)) (Ext.refl _))).mono ?_
    rintro e w4 ⟨⟨g2, rfl, hg2⟩, hw4⟩
    have HX4 : Hid (Ext w2 w4) := Lib.hid (by rw [hw4]; exact Ext.alloc _ _)
    clear hw4
    have HW4 := Lib.hid (Ext.trans HW2.out HX4.out)
    have HB4 := Lib.hid (Ext.trans HX2.out HX4.out)
    have HL4 := Lib.hid (HL.out.ext HW4.out)
    have HM4 := Lib.hid (HM.out.ext HW4.out)
    clear a0 a1 a2 a3 a4
    obtain ⟨a0, a1, a2, a3, a4⟩ := box5 HB4.out
    cases g2
    · clear hg2
      by_cases h190 : ¬ (190 : Int) < (n : Int)
      · have HNB : Hid (n ≤ 1000) := Lib.hid (by omega)
        have HN200 : Hid (n < 200) := Lib.hid (by omega)
        obtain ⟨i0, hi0, hzi0, hzi1, hzi2⟩ := info_parts info_int
        go_wp2_with fail
        refine (to_v p n c l x.b w4 (sl_row HL4.out) HNB.out).mono ?_
        rintro e w5 ⟨⟨v5, rfl, hs5⟩, hx5⟩
        obtain ⟨p5, n5, c5, rfl, hn5⟩ := sl_form hs5
        have HS5 := Lib.hid hs5
        have HX5 := Lib.hid hx5
        have HW5 := Lib.hid (Ext.trans HW4.out hx5)
        have HB5 := Lib.hid (Ext.trans HB4.out hx5)
        have HL5 := Lib.hid (HL.out.ext HW5.out)
        have H5N := Lib.hid hn5
        clear hs5 hx5 hn5 a0 a1 a2 a3 a4
        go_wp2
        go_loopw [7, 8] (fun u i wr => ToR w5 l x.b n u i wr) (fun _ i _ => n - (intOf i).toNat)
        case atStart => exact ⟨0, rfl, by omega, by simp [toL, placesN], Ext.refl _⟩
        case round =>
          obtain ⟨j, rfl, hj, rfl, hx⟩ := hrel
          have HX := Lib.hid hx
          by_cases hlt : j < n
          · have hlt' : (j : Int) < (n : Int) := by omega
            have hlt0 : (0 : Int) ≤ (j : Int) := by omega
            obtain ⟨y, gy⟩ : ∃ y, l[j]? = some y := ⟨_, List.getElem?_eq_getElem (by rw [HLN.out]; exact hlt)⟩
            obtain ⟨b, off, p2, n2, c2, q2, m2, d2, hp2, x0, x1, x2, x3, x4, ty⟩ := mg_at (sl_row HL5.out) gy
            subst hp2
            obtain ⟨a0, a1, a2, a3, a4⟩ := box5 HB5.out
            have A1 : ∀ g : Gr wr, g.w.cell? ⟨w.heap.size, 1, none⟩ = some (.int .i64 x.b) := fun g => (Ext.trans HX.out g.h).cell a1
            have X1 : ∀ g : Gr wr, g.w.cell? ⟨b, off + j * 5 + 1, none⟩ = some (.int .i64 y.b) := fun g => (Ext.trans HX.out g.h).cell x1
            have GY := Lib.hid gy
            have HROW5 := Lib.hid (sl_row HS5.out).ints.1
            obtain ⟨k, hk⟩ : ∃ k, (toL (l.take j) x.b).length = k := ⟨_, rfl⟩
            have HK := Lib.hid hk
            rw [hk]
            have hk0 : (0 : Int) ≤ (k : Int) := by omega
            have hkb : k ≤ n := by rw [← hk]; have := to_len (l.take j) x.b; rw [List.length_take, HLN.out] at this; omega
            have hw1 : IntKind.i64.wrap ((k : Int) + 1) = (k : Int) + 1 := IntWalk.i64_in _ (by omega)
            clear a0 a1 a2 a3 a4 x0 x1 x2 x3 x4 gy ty hk
            by_cases hy : y.b = x.b
            · have HY := Lib.hid hy
              have hyes := to_yes GY.out hy
              rw [HK.out] at hyes
              have hk5 : k < n5 := by rw [H5N.out]; exact (List.getElem?_eq_some_iff.1 hyes).1
              have hk5' : (k : Int) < (n5 : Int) := by omega
              obtain ⟨b5, o5, rfl, hc5⟩ := HROW5.out.2.2 (by omega)
              have cx := HX.out.cell (hc5 k hk5)
              rw [at_of hyes] at cx
              have hyb : (y.b == x.b) = true := by simp [hy]
              have HYB : Hid ((y.b == x.b) = true) := Lib.hid hyb
              clear hc5 hyes hy
              go_wp2
              refine wp_region_grown (Ext.refl wr) (by kernel_rfl) (by kernel_rfl) ?_
              repeat (go_big_quiet_step (fail))
              refine wpQuiet_nil ?_
              intro gw
              have HG := Lib.hid gw.h
              clear A1 X1 cx
              generalize gw.w = wg at HG ⊢
              go_wp2
              go_roundw
              case rel => exact ⟨j + 1, by go_num, by omega, by rw [to_step GY.out, if_pos HY.out, List.length_append, HK.out]; go_num, Ext.trans HX.out HG.out⟩
              case measure => simp [intOf]; omega
            · have HY := Lib.hid hy
              have hyb : (y.b == x.b) = false := by simp [hy]
              by_cases hk5 : k < n5
              · have hk5' : (k : Int) < (n5 : Int) := by omega
                obtain ⟨b5, o5, rfl, hc5⟩ := HROW5.out.2.2 (by omega)
                have cx := HX.out.cell (hc5 k hk5)
                obtain ⟨r, hr⟩ : ∃ r, (toL l x.b)[k]? = some r := ⟨_, List.getElem?_eq_getElem (by rw [← H5N.out]; exact hk5)⟩
                have hrj := to_no GY.out hy (by rw [HK.out]; exact hr)
                rw [at_of hr] at cx
                have hrb : (r == (j : Int)) = false := by simp [hrj]
                clear hc5 hr hy hrj
                go_wp2
                refine wp_region_grown (Ext.refl wr) (by kernel_rfl) (by kernel_rfl) ?_
                repeat (go_big_quiet_step (fail))
                refine wpQuiet_nil ?_
                intro gw
                have HG := Lib.hid gw.h
                clear A1 X1
                generalize gw.w = wg at HG ⊢
                go_wp2
                go_roundw
                case rel => exact ⟨j + 1, by go_num, by omega, by rw [to_step GY.out, if_neg HY.out, List.append_nil, HK.out], Ext.trans HX.out HG.out⟩
                case measure => simp [intOf]; omega
              · have hk5' : ¬ (k : Int) < (n5 : Int) := by omega
                clear hy
                go_wp2
                refine wp_region_grown (Ext.refl wr) (by kernel_rfl) (by kernel_rfl) ?_
                repeat (go_big_quiet_step (fail))
                refine wpQuiet_nil ?_
                intro gw
                have HG := Lib.hid gw.h
                clear A1 X1
                generalize gw.w = wg at HG ⊢
                go_wp2
                go_roundw
                case rel => exact ⟨j + 1, by go_num, by omega, by rw [to_step GY.out, if_neg HY.out, List.append_nil, HK.out], Ext.trans HX.out HG.out⟩
                case measure => simp [intOf]; omega
          · obtain rfl : n = j := by omega
            have hlt' : ¬ (n : Int) < (n : Int) := by omega
            have hL : l.take n = l := List.take_of_length_le (by have := HLN.out; omega)
            rw [hL]
            rw [← H5N.out]
            have HWr := Lib.hid (Ext.trans HW5.out hx)
            have HBr := Lib.hid (Ext.trans HB5.out hx)
            obtain ⟨Wd, hWd⟩ : ∃ Wd, wr.drew = Wd := ⟨_, rfl⟩
            have hrd : Ext wr Wd := by rw [← hWd]; exact Ext.drew (Ext.refl _)
            have HXd := Lib.hid (Ext.trans hx hrd)
            have HWd := Lib.hid (Ext.trans HWr.out hrd)
            have HBd := Lib.hid (Ext.trans HBr.out hrd)
            have HLd := Lib.hid (HL.out.ext HWd.out)
            have HMd := Lib.hid (HM.out.ext HWd.out)
            have HSD : Hid (∀ w', Ext Wd w' → (fun w' : World => w'.cell? ⟨w.heap.size, 0, none⟩ = some (.int .i64 x.a) ∧ w'.cell? ⟨w.heap.size, 1, none⟩ = some (.int .i64 x.b) ∧ w'.cell? ⟨w.heap.size, 2, none⟩ = some (.int .i64 x.k) ∧ w'.cell? ⟨w.heap.size, 3, none⟩ = some (.slice p1 n1 c1) ∧ w'.cell? ⟨w.heap.size, 4, none⟩ = some (.slice q1 m1 d1)) w') := Lib.hid fun w' h => box5 (Ext.trans HBd.out h)
            have HSD0 : (fun w' : World => w'.cell? ⟨w.heap.size, 0, none⟩ = some (.int .i64 x.a) ∧ w'.cell? ⟨w.heap.size, 1, none⟩ = some (.int .i64 x.b) ∧ w'.cell? ⟨w.heap.size, 2, none⟩ = some (.int .i64 x.k) ∧ w'.cell? ⟨w.heap.size, 3, none⟩ = some (.slice p1 n1 c1) ∧ w'.cell? ⟨w.heap.size, 4, none⟩ = some (.slice q1 m1 d1)) wr.drew := by rw [hWd]; exact HSD.out _ (Ext.refl _)
            clear hx hrd hL
            go_wp2
            refine wp_region_held_drew (S := (fun w' : World => w'.cell? ⟨w.heap.size, 0, none⟩ = some (.int .i64 x.a) ∧ w'.cell? ⟨w.heap.size, 1, none⟩ = some (.int .i64 x.b) ∧ w'.cell? ⟨w.heap.size, 2, none⟩ = some (.int .i64 x.k) ∧ w'.cell? ⟨w.heap.size, 3, none⟩ = some (.slice p1 n1 c1) ∧ w'.cell? ⟨w.heap.size, 4, none⟩ = some (.slice q1 m1 d1))) (by kernel_rfl) HSD0 (fun _ => ?_)
            rw [hWd]
            clear hWd HSD0
            refine wpAnyH_take (i := 0) (oi := ⟨some 64, _, _, _, _, _⟩) (v := .slice p n c) rfl (by kernel_rfl) (by kernel_rfl) (by kernel_rfl) (fun _ _ _ h => h) (Or.inl ⟨by rfl, ?_⟩) (HSD.out _ (Ext.refl _)) ?_
            · rintro w' ⟨s0, s1, s2, s3, s4⟩
              go_simp
            try simp only [Act.put, List.setIfInBounds_toArray, List.set_cons_zero, List.set_cons_succ]
            refine wpAnyH_take (i := 1) (oi := ⟨some 65, _, _, _, _, _⟩) (v := .agg #[.int .i64 x.a, .int .i64 x.b, .int .i64 x.k, .slice p1 n1 c1, .slice q1 m1 d1]) rfl (by kernel_rfl) (by kernel_rfl) (by kernel_rfl) (fun _ _ _ h => h) (Or.inl ⟨by rfl, ?_⟩) (HSD.out _ (Ext.refl _)) ?_
            · rintro w' ⟨s0, s1, s2, s3, s4⟩
              go_simp
            try simp only [Act.put, List.setIfInBounds_toArray, List.set_cons_zero, List.set_cons_succ]
            refine wpAnyH_take (i := 3) (oi := ⟨some 67, _, _, _, _, _⟩) (v := .pointer (some ⟨w.heap.size, 1, none⟩)) rfl (by kernel_rfl) (by kernel_rfl) (by kernel_rfl) (fun _ _ _ h => h) (Or.inl ⟨by rfl, ?_⟩) (HSD.out _ (Ext.refl _)) ?_
            · rintro w' ⟨s0, s1, s2, s3, s4⟩
              go_simp
            try simp only [Act.put, List.setIfInBounds_toArray, List.set_cons_zero, List.set_cons_succ]
            refine wpAnyH_take (i := 4) (oi := ⟨some 68, _, _, _, _, _⟩) (v := .int .i64 x.b) rfl (by kernel_rfl) (by kernel_rfl) (by kernel_rfl) (fun _ _ _ h => h) (Or.inl ⟨by rfl, ?_⟩) (HSD.out _ (Ext.refl _)) ?_
            · rintro w' ⟨s0, s1, s2, s3, s4⟩
              go_simp
            try simp only [Act.put, List.setIfInBounds_toArray, List.set_cons_zero, List.set_cons_succ]
            refine wpAnyH_ready (rs := [2]) (by kernel_rfl) (by simp) ?_
            refine AllReadyH.cons (o := ⟨some 66, .call { callee := .value (.func 14), args := #[.tmp 64, .tmp 65, .const (.int .i64 1)], argTypes := #[22, 26, 3] }, _, _, _, _⟩) rfl (fun K hK => ?_) AllReadyH.nil
            go_simp
            refine (send_v p n c l x p1 n1 c1 q1 m1 d1 1 Wd (HLd.out.ext (Ext.refl _)) (HMd.out.ext (Ext.refl _)) HNB.out).mono ?_
            rintro e Va1 ⟨⟨v1, rfl, hs1⟩, hx1⟩
            have E1 := Lib.hid hx1
            rw [sendone HLN.out HN200.out] at hs1
            obtain ⟨p66, n66, c66, rfl, hn66⟩ := sl_form hs1
            have HN66 : Hid (n66 ≤ 1000) := Lib.hid (by rw [hn66]; simp; have := HLN.out; have := HN200.out; omega)
            have H66 := Lib.hid hs1
            clear hs1 hn66
            clear hx1
            go_wp2_with fail
            refine hK.out _ _ (HSD.out _ E1.out) (fun _ => ?_)
            clear hK K
            try simp only [Act.put, List.setIfInBounds_toArray, List.set_cons_zero, List.set_cons_succ]
            refine wpAnyH_ready (rs := [5]) (by kernel_rfl) (by simp) ?_
            refine AllReadyH.cons (o := ⟨some 69, .call { callee := .value (.func 18), args := #[.tmp 66, .tmp 68], argTypes := #[22, 3] }, _, _, _, _⟩) rfl (fun K hK => ?_) AllReadyH.nil
            go_simp
            refine (to_v p66 n66 c66 _ x.b Va1 (sl_row (H66.out.ext (Ext.refl _))) HN66.out).mono ?_
            rintro e Va2 ⟨⟨v2, rfl, hs2⟩, hx2⟩
            have E2 := Lib.hid hx2
            rw [to_more HLN.out] at hs2
            obtain ⟨p69, n69, c69, rfl, hn69⟩ := sl_form hs2
            have H69 := Lib.hid hs2
            clear hs2 hn69
            clear hx2
            go_wp2_with fail
            refine hK.out _ _ (HSD.out _ (Ext.trans E1.out E2.out)) (fun _ => ?_)
            clear hK K
            try simp only [Act.put, List.setIfInBounds_toArray, List.set_cons_zero, List.set_cons_succ]
            refine wpAnyH_take (i := 6) (oi := ⟨some 9, _, _, _, _, _⟩) (v := .slice p69 n69 c69) rfl (by kernel_rfl) (by kernel_rfl) (by kernel_rfl) (fun _ _ _ h => h) (Or.inl ⟨by rfl, ?_⟩) (HSD.out _ (Ext.trans E1.out E2.out)) ?_
            · rintro w' ⟨s0, s1, s2, s3, s4⟩
              go_simp
            try simp only [Act.put, List.setIfInBounds_toArray, List.set_cons_zero, List.set_cons_succ]
            refine wpAnyH_done (by kernel_rfl) ?_ _
            have HX9 : Hid (Ext Wd Va2) := Lib.hid (Ext.trans E1.out E2.out)
            have G69 := H69
            obtain ⟨w9, hw9⟩ : ∃ w9, Va2 = w9 := ⟨_, rfl⟩
            rw [hw9] at HX9 G69 ⊢
            clear hw9
            have HW9 := Lib.hid (Ext.trans HWd.out HX9.out)
            have G5 := Lib.hid (HS5.out.ext (Ext.trans HXd.out HX9.out))
            obtain ⟨r1, r2, r3, r4⟩ := sl_parts G5.out
            have R1 := Lib.hid r1
            have HNC5 := Lib.hid r2
            have R4 := Lib.hid r4
            have hn5n : n5 ≤ n := by have := H5N.out; have := to_len l x.b; rw [HLN.out] at this; omega
            have HO0 : Hid ((Lay.int .i64).Own (w9.alloc (.cells #[] 3)) w9.heap.size 3 (.slice (some ⟨w9.heap.size, 0, none⟩) 0 0) []) := Lib.hid (by
              have h := Lay.Own.made (E := Lay.int .i64) w9 #[] 0 w9.heap.size 3 (by simp) (by decide) rfl
              simpa using h)
            have HTL : Hid ((toL l x.b).length = n5) := Lib.hid H5N.out.symm
            have h200' : n < 200 := HN200.out
            have hb1 : n5 ≤ 1000 := by omega
            clear r1 r2 r3 r4
            have HJ : Hid ((Lit.int .i64 (n : Int)).wf = true) := Lib.hid (by simp [Lit.wf, IntKind.min, IntKind.max, IntKind.signed, IntKind.bits]; omega)
            have HX00 : Hid (Ext w9 (w9.alloc (.cells #[] 3))) := Lib.hid (Ext.alloc _ _)
            have HXA9 : ∀ w10 : World, Hid (Ext w10 (w10.alloc (.cells #[.int .i64 (n : Int)] 3))) := fun w10 => Lib.hid (Ext.alloc _ _)
            go_wp2_with (first | (at_builtin; refine Lay.wpList_append (E := Lay.int .i64) rfl (.tmp 79) (.tmp 80) 23 rfl w9.heap.size 3 i0 (.int .i64 0) 8 Try.underlying23 hi0 hzi0 hzi1 hzi2 rfl (.slice (some ⟨w9.heap.size, 0, none⟩) 0 0) [] rfl HO0.out p5 n5 c5 (toL l x.b) rfl R4.out HNC5.out (plain_i64.row (R1.out.ext (Ext.alloc _ _))) (by unfold maxLen; simp; omega) (by simp; omega) (by simp) ?_; intro v3 w10 hown3 hg3; have HX10 := Lib.hid (HO0.out.below HX00.out (by simp) hg3); have HO3 : Hid ((Lay.int .i64).Own w10 w9.heap.size 3 v3 (toL l x.b)) := Lib.hid (by simpa using hown3); have HOA3 := Lib.hid (HO3.out.ext (HXA9 w10).out); clear hown3 hg3; obtain ⟨pv3, nv3, cv3, rfl⟩ := own_form HO3.out) | (at_builtin; refine Lay.wpList_append (E := Lay.int .i64) rfl (.tmp 81) (.tmp 84) 23 rfl w9.heap.size 3 i0 (.int .i64 0) 8 Try.underlying23 hi0 hzi0 hzi1 hzi2 rfl (.slice pv3 nv3 cv3) (toL l x.b) rfl HOA3.out (some ⟨w10.heap.size, 0, none⟩) 1 1 [(n : Int)] rfl (fun _ => ⟨_, _, rfl⟩) (Nat.le_refl _) (plain_i64.lit (Ext.refl _) (Lay.All.single ⟨rfl, HJ.out⟩) rfl rfl (by decide)) (by rw [HTL.out]; unfold maxLen; omega) (by rw [HTL.out]; omega) (by have := HX10.out.size; simp; omega) ?_; intro v4 w11 hown4 hg4; have HX11 := Lib.hid (HOA3.out.below (Ext.trans HX10.out (HXA9 w10).out) (Nat.le_refl _) hg4); have HO4 := Lib.hid hown4; clear hown4 hg4; obtain ⟨pv4, nv4, cv4, rfl⟩ := own_form HO4.out))
            refine (rints_t (G69.out.ext HX11.out) HO4.out.sl rfl).mono ?_
            rintro e w12 ⟨rfl, hx12⟩
            have HX12 := Lib.hid (Ext.trans HW9.out (Ext.trans HX11.out hx12))
            clear hx12
            go_wp2
            go_ret
            exact ⟨rfl, HX12.out⟩
      · have h190 : (190 : Int) < (n : Int) := by omega
        go_wp2
        go_ret
        exact ⟨rfl, HW4.out⟩
    · clear hg2
      go_wp2
      go_ret
      exact ⟨rfl, HW4.out⟩
  · clear hg
    go_wp2
    go_ret
    exact ⟨rfl, HW2.out⟩
end Go.Proofs.Ytifbmkcfgpfefaa.Wi
