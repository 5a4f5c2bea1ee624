/- Jobs: renewed, and how many steps (the reference). -/
import Derived.Test.YtlbpgaoindkgbaaMeU
namespace Go.Proofs.Ytlbpgaoindkgbaa.Me
open Go.RowKit Go.Proofs.Ytlbpgaoindkgbaa Go.Sort
set_option linter.unusedVariables false

def RRenR (w : World) (l p : List Jb) (n : Nat) (v i : Value) (wr : World) : Prop := ∃ k : Nat, i = .int .i64 k ∧ k ≤ n ∧ Hid (LJb.Own wr w.heap.size 33 v ((p.take k).map (renewJ l))) ∧ Hid (Ext w wr)
set_option maxRecDepth 100000 in
set_option maxHeartbeats 4000000 in
theorem rrenew_v (u v : Value) (l p : List Jb) (w : World) (hu : LJb.Sl w u l) (hv : LJb.Sl w v p) (hn : p.length ≤ 1000) : Calls Try.prog 19 #[u, v] w (RetJ (renewL l p) w) := by
  obtain ⟨i0, hi0, hzi0, hzi1, hzi2⟩ := info_parts info_job
  have HU := Lib.hid hu
  obtain ⟨pl, nl, cl, rfl, hrl, _, _, _⟩ := hu
  obtain ⟨pp, n, cp, rfl, hrp, _, _, _⟩ := hv
  have HL := Lib.hid hrl
  have HP := Lib.hid hrp
  have HWFL : Hid (∀ x ∈ l, JbWf x) := Lib.hid (row_wf hrl)
  have hnl := hrl.2.1
  have hn63 := hrp.2.1
  have HN : Hid (n ≤ 1000) := Lib.hid (by rw [← hrp.1]; exact hn)
  clear hrl hrp hn
  go_enter Try.func19, Try.ntmps19
  go_wp2
  go_loopw [5, 6, 7, 8] (fun v i _ _ wr => RRenR w l p n v i wr) (fun _ i _ _ _ => n - (intOf i).toNat)
  case atStart => exact ⟨0, rfl, by omega, Lib.hid (plain_jb.own_lit w #[] _ w.heap.size 0 [] (Nat.le_refl _) rfl rfl (by decide)), Lib.hid (Ext.alloc _ _)⟩
  case round =>
    obtain ⟨k, rfl, hk, HO, HX⟩ := hrel
    by_cases hlt : k < n
    · obtain ⟨x, gx⟩ := get_of p k (by rw [HP.out.1]; exact hlt)
      obtain ⟨b, off, rfl, hw, c0, c1, c2, c3, c4, c5⟩ := jb_at (HP.out.ext HX.out) gx
      have HW := Lib.hid hw
      have GX := Lib.hid gx
      have hlt' : (k : Int) < (n : Int) := by omega
      have hlt0 : (0 : Int) ≤ (k : Int) := by omega
      have HLK : Hid (((p.take k).map (renewJ l)).length + 1 ≤ 1001) := Lib.hid (by have := HN.out; simp; omega)
      clear gx hw
      go_wp2_with fail
      refine (alike_any _ l x _ (HU.out.ext (Ext.trans HX.out (Ext.alloc _ _)))).mono ?_
      rintro e w3 ⟨rfl, hx3⟩
      have HXR := Lib.hid (Ext.trans (Ext.alloc _ _) hx3)
      have HX3 := Lib.hid (Ext.trans HX.out HXR.out)
      have HO3 := Lib.hid (HO.out.ext HXR.out)
      have HB3 := Lib.hid (heap_ext (heap_alloc_new wr (.cells #[.int .i64 x.i, .int .i64 x.v, .int .i64 x.f, .int .i64 x.t, .int .i64 x.h, .int .i64 x.l] 33)) hx3)
      have b0 : w3.cell? ⟨wr.heap.size, 0, none⟩ = some (.int .i64 x.i) := cell_of_row _ _ 0 _ _ _ HB3.out
      have b1 : w3.cell? ⟨wr.heap.size, 1, none⟩ = some (.int .i64 x.v) := cell_of_row _ _ 1 _ _ _ HB3.out
      have b2 : w3.cell? ⟨wr.heap.size, 2, none⟩ = some (.int .i64 x.f) := cell_of_row _ _ 2 _ _ _ HB3.out
      have b3 : w3.cell? ⟨wr.heap.size, 3, none⟩ = some (.int .i64 x.t) := cell_of_row _ _ 3 _ _ _ HB3.out
      have b4 : w3.cell? ⟨wr.heap.size, 4, none⟩ = some (.int .i64 x.h) := cell_of_row _ _ 4 _ _ _ HB3.out
      have b5 : w3.cell? ⟨wr.heap.size, 5, none⟩ = some (.int .i64 x.l) := cell_of_row _ _ 5 _ _ _ HB3.out
      clear hx3 c0 c1 c2 c3 c4 c5
      rcases idx_cases l x.i x.t with ⟨a, y, gy, _, _, hia⟩ | ⟨_, hin⟩
      · rw [hia]
        have HIA := Lib.hid hia
        obtain ⟨bl, ol, rfl, hwy, y0, y1, y2, y3, y4, y5⟩ := jb_at (HL.out.ext HX3.out) gy
        have GY := Lib.hid gy
        have HWY := Lib.hid hwy
        have ha : a < nl := by have := (List.getElem?_eq_some_iff.1 gy).1; have := HL.out.1; omega
        have ha0 : (0 : Int) ≤ (a : Int) := by omega
        have ha1 : (a : Int) < (nl : Int) := by omega
        have hda : decide (0 ≤ (a : Int)) = true := decide_eq_true ha0
        clear gy hwy hia
        by_cases hv : y.v = x.v
        · have ev : (y.v == x.v) = true := by simp [hv]
          have HRN : Hid (renewJ l x = setl x (min x.l y.l)) := Lib.hid (by rw [ren_at HIA.out GY.out, if_pos hv])
          have hwv : (Lit.int .i64 (min x.l y.l)).wf = true := by
            have h1 := HW.out.2.2.2.2.2
            have h2 := HWY.out.2.2.2.2.2
            rcases Int.le_total x.l y.l with h | h
            · rw [Int.min_eq_left h]; exact h1
            · rw [Int.min_eq_right h]; exact h2
          clear hv
          have HYY : Hid (∀ q, (w3.drewN q).cell? ⟨bl, ol + a * 6 + 5, none⟩ = some (.int .i64 y.l)) := Lib.hid (fun q => y5)
          go_wp2
          go_quiet (fail)
          have HX4 := Lib.hid (Ext.drewN HX3.out nq)
          have HO4 := Lib.hid (HO3.out.drewN nq)
          have HW4 := Lib.hid (Ext.drewN HXR.out nq)
          have HB4 : Hid ((w3.drewN nq).heap[wr.heap.size]? = some (.cells #[.int .i64 x.i, .int .i64 x.v, .int .i64 x.f, .int .i64 x.t, .int .i64 x.h, .int .i64 x.l] 33 (0, 0))) := Lib.hid HB3.out
          have Y6 := HYY.out nq
          generalize w3.drewN nq = w4 at HX4 HO4 HB4 HW4 Y6 ⊢
          have B0 : w4.cell? ⟨wr.heap.size, 0, none⟩ = some (.int .i64 x.i) := cell_of_row _ _ 0 _ _ _ HB4.out
          have B1 : w4.cell? ⟨wr.heap.size, 1, none⟩ = some (.int .i64 x.v) := cell_of_row _ _ 1 _ _ _ HB4.out
          have B2 : w4.cell? ⟨wr.heap.size, 2, none⟩ = some (.int .i64 x.f) := cell_of_row _ _ 2 _ _ _ HB4.out
          have B3 : w4.cell? ⟨wr.heap.size, 3, none⟩ = some (.int .i64 x.t) := cell_of_row _ _ 3 _ _ _ HB4.out
          have B4 : w4.cell? ⟨wr.heap.size, 4, none⟩ = some (.int .i64 x.h) := cell_of_row _ _ 4 _ _ _ HB4.out
          have B5 : w4.cell? ⟨wr.heap.size, 5, none⟩ = some (.int .i64 x.l) := cell_of_row _ _ 5 _ _ _ HB4.out
          clear b0 b1 b2 b3 b4 b5
          clear y0 y1 y2 y3 y4 y5
          have hfz : w4.frozen? ⟨wr.heap.size, 5, none⟩ = false := frozen_of_row w4 _ 5 _ _ HB4.out
          have HSTX : Hid (Ext wr (w4.setCell ⟨wr.heap.size, 5, none⟩ (.int .i64 (min x.l y.l)))) := Lib.hid (Below.setCell HW4.out (p := ⟨wr.heap.size, 5, none⟩) (Nat.le_refl _) (.int .i64 (min x.l y.l)))
          have HBS : Hid ((w4.setCell ⟨wr.heap.size, 5, none⟩ (.int .i64 (min x.l y.l))).drew.heap[wr.heap.size]? = some (.cells #[.int .i64 x.i, .int .i64 x.v, .int .i64 x.f, .int .i64 x.t, .int .i64 x.h, .int .i64 (min x.l y.l)] 33 (0, 0))) := Lib.hid (by
            show (w4.setCell ⟨wr.heap.size, 5, none⟩ (.int .i64 (min x.l y.l))).heap[wr.heap.size]? = _
            rw [setCell_eq_setRow w4 wr.heap.size 5 _ _ _ _ HB4.out]; exact setRow_heap _ _ _ _ _ _ HB4.out)
          have HO6 : Hid (LJb.Own (w4.setCell ⟨wr.heap.size, 5, none⟩ (.int .i64 (min x.l y.l))).drew w.heap.size 33 u5 ((p.take k).map (renewJ l))) := Lib.hid (HO.out.ext (Ext.trans HSTX.out (Ext.drew (Ext.refl _))))
          have HX6 : Hid (Ext w (w4.setCell ⟨wr.heap.size, 5, none⟩ (.int .i64 (min x.l y.l))).drew) := Lib.hid (Ext.trans HX.out (Ext.trans HSTX.out (Ext.drew (Ext.refl _))))
          go_wp2
          go_region_with (fail)
          all_goals
            generalize (w4.setCell ⟨wr.heap.size, 5, none⟩ (.int .i64 (min x.l y.l))).drew = w6 at HBS HO6 HX6 ⊢
            have C0 : w6.cell? ⟨wr.heap.size, 0, none⟩ = some (.int .i64 x.i) := cell_of_row _ _ 0 _ _ _ HBS.out
            have C1 : w6.cell? ⟨wr.heap.size, 1, none⟩ = some (.int .i64 x.v) := cell_of_row _ _ 1 _ _ _ HBS.out
            have C2 : w6.cell? ⟨wr.heap.size, 2, none⟩ = some (.int .i64 x.f) := cell_of_row _ _ 2 _ _ _ HBS.out
            have C3 : w6.cell? ⟨wr.heap.size, 3, none⟩ = some (.int .i64 x.t) := cell_of_row _ _ 3 _ _ _ HBS.out
            have C4 : w6.cell? ⟨wr.heap.size, 4, none⟩ = some (.int .i64 x.h) := cell_of_row _ _ 4 _ _ _ HBS.out
            have C5 : w6.cell? ⟨wr.heap.size, 5, none⟩ = some (.int .i64 (min x.l y.l)) := cell_of_row _ _ 5 _ _ _ HBS.out
            clear B0 B1 B2 B3 B4 B5 Y6 hfz
            have HMM : Hid ((p.take (k + 1)).map (renewJ l) = (p.take k).map (renewJ l) ++ [setl x (min x.l y.l)]) := Lib.hid (by rw [List.take_add_one, GX.out]; simp; exact HRN.out)
            go_wp2_with (at_builtin; refine Lay.wpList_append (E := LJb) rfl (.tmp 44) (.tmp 46) 22 rfl w.heap.size 33 i0 (.agg #[.int .i64 0, .int .i64 0, .int .i64 0, .int .i64 0, .int .i64 0, .int .i64 0]) 48 Try.underlying22 hi0 hzi0 hzi1 hzi2 rfl _ ((p.take k).map (renewJ l)) rfl (HO6.out.ext (Ext.alloc _ _)) (some ⟨w6.heap.size, 0, none⟩) 1 1 ([setl x (min x.l y.l)]) rfl (fun _ => ⟨_, _, rfl⟩) (Nat.le_refl _) (plain_jb.lit (Ext.refl _) (Lay.All.single ⟨rfl, wf_setl HW.out hwv⟩) rfl rfl (by decide)) (by have := HLK.out; unfold maxLen; omega) (by have := HLK.out; omega) (by have := HX6.out.size; simp; omega) ?_; intro v2 w5 hown2 hg2)
            have X5 := Lib.hid (HO6.out.below HX6.out (Nat.le_refl _) (grown_of (Ext.alloc _ _) hg2))
            have HO5 := Lib.hid hown2
            clear hown2 hg2
            go_roundw
            case rel => exact ⟨k + 1, by go_num, by omega, Lib.hid (by rw [HMM.out]; exact HO5.out), X5⟩
            case measure => simp [intOf]; omega
        · have ev : (y.v == x.v) = false := by simp [hv]
          have HRN : Hid (renewJ l x = setl x x.l) := Lib.hid (by rw [ren_at HIA.out GY.out, if_neg hv]; rfl)
          have hwv : (Lit.int .i64 x.l).wf = true := HW.out.2.2.2.2.2
          go_wp2
          go_quiet (fail)
          have HX4 := Lib.hid (Ext.drewN HX3.out nq)
          have HO4 := Lib.hid (HO3.out.drewN nq)
          have HW4 := Lib.hid (Ext.drewN HXR.out nq)
          have HB4 : Hid ((w3.drewN nq).heap[wr.heap.size]? = some (.cells #[.int .i64 x.i, .int .i64 x.v, .int .i64 x.f, .int .i64 x.t, .int .i64 x.h, .int .i64 x.l] 33 (0, 0))) := Lib.hid HB3.out
          generalize w3.drewN nq = w4 at HX4 HO4 HB4 HW4 ⊢
          have B0 : w4.cell? ⟨wr.heap.size, 0, none⟩ = some (.int .i64 x.i) := cell_of_row _ _ 0 _ _ _ HB4.out
          have B1 : w4.cell? ⟨wr.heap.size, 1, none⟩ = some (.int .i64 x.v) := cell_of_row _ _ 1 _ _ _ HB4.out
          have B2 : w4.cell? ⟨wr.heap.size, 2, none⟩ = some (.int .i64 x.f) := cell_of_row _ _ 2 _ _ _ HB4.out
          have B3 : w4.cell? ⟨wr.heap.size, 3, none⟩ = some (.int .i64 x.t) := cell_of_row _ _ 3 _ _ _ HB4.out
          have B4 : w4.cell? ⟨wr.heap.size, 4, none⟩ = some (.int .i64 x.h) := cell_of_row _ _ 4 _ _ _ HB4.out
          have B5 : w4.cell? ⟨wr.heap.size, 5, none⟩ = some (.int .i64 x.l) := cell_of_row _ _ 5 _ _ _ HB4.out
          clear b0 b1 b2 b3 b4 b5
          have HMM : Hid ((p.take (k + 1)).map (renewJ l) = (p.take k).map (renewJ l) ++ [setl x x.l]) := Lib.hid (by rw [List.take_add_one, GX.out]; simp; exact HRN.out)
          go_wp2_with (at_builtin; refine Lay.wpList_append (E := LJb) rfl (.tmp 44) (.tmp 46) 22 rfl w.heap.size 33 i0 (.agg #[.int .i64 0, .int .i64 0, .int .i64 0, .int .i64 0, .int .i64 0, .int .i64 0]) 48 Try.underlying22 hi0 hzi0 hzi1 hzi2 rfl _ ((p.take k).map (renewJ l)) rfl (HO4.out.ext (Ext.alloc _ _)) (some ⟨w4.heap.size, 0, none⟩) 1 1 ([setl x x.l]) rfl (fun _ => ⟨_, _, rfl⟩) (Nat.le_refl _) (plain_jb.lit (Ext.refl _) (Lay.All.single ⟨rfl, wf_setl HW.out hwv⟩) rfl rfl (by decide)) (by have := HLK.out; unfold maxLen; omega) (by have := HLK.out; omega) (by have := HX4.out.size; simp; omega) ?_; intro v2 w5 hown2 hg2)
          have X5 := Lib.hid (HO4.out.below HX4.out (Nat.le_refl _) (grown_of (Ext.alloc _ _) hg2))
          have HO5 := Lib.hid hown2
          clear hown2 hg2
          go_roundw
          case rel => exact ⟨k + 1, by go_num, by omega, Lib.hid (by rw [HMM.out]; exact HO5.out), X5⟩
          case measure => simp [intOf]; omega
      · rw [hin]
        have hdn : decide ((0 : Int) ≤ -1) = false := rfl
        have HRN : Hid (renewJ l x = setl x x.l) := Lib.hid (by rw [ren_none hin]; rfl)
        have hwv : (Lit.int .i64 x.l).wf = true := HW.out.2.2.2.2.2
        go_wp2
        go_quiet (fail)
        have HX4 := Lib.hid (Ext.drewN HX3.out nq)
        have HO4 := Lib.hid (HO3.out.drewN nq)
        have HW4 := Lib.hid (Ext.drewN HXR.out nq)
        have HB4 : Hid ((w3.drewN nq).heap[wr.heap.size]? = some (.cells #[.int .i64 x.i, .int .i64 x.v, .int .i64 x.f, .int .i64 x.t, .int .i64 x.h, .int .i64 x.l] 33 (0, 0))) := Lib.hid HB3.out
        generalize w3.drewN nq = w4 at HX4 HO4 HB4 HW4 ⊢
        have B0 : w4.cell? ⟨wr.heap.size, 0, none⟩ = some (.int .i64 x.i) := cell_of_row _ _ 0 _ _ _ HB4.out
        have B1 : w4.cell? ⟨wr.heap.size, 1, none⟩ = some (.int .i64 x.v) := cell_of_row _ _ 1 _ _ _ HB4.out
        have B2 : w4.cell? ⟨wr.heap.size, 2, none⟩ = some (.int .i64 x.f) := cell_of_row _ _ 2 _ _ _ HB4.out
        have B3 : w4.cell? ⟨wr.heap.size, 3, none⟩ = some (.int .i64 x.t) := cell_of_row _ _ 3 _ _ _ HB4.out
        have B4 : w4.cell? ⟨wr.heap.size, 4, none⟩ = some (.int .i64 x.h) := cell_of_row _ _ 4 _ _ _ HB4.out
        have B5 : w4.cell? ⟨wr.heap.size, 5, none⟩ = some (.int .i64 x.l) := cell_of_row _ _ 5 _ _ _ HB4.out
        clear b0 b1 b2 b3 b4 b5
        have HMM : Hid ((p.take (k + 1)).map (renewJ l) = (p.take k).map (renewJ l) ++ [setl x x.l]) := Lib.hid (by rw [List.take_add_one, GX.out]; simp; exact HRN.out)
        go_wp2_with (at_builtin; refine Lay.wpList_append (E := LJb) rfl (.tmp 44) (.tmp 46) 22 rfl w.heap.size 33 i0 (.agg #[.int .i64 0, .int .i64 0, .int .i64 0, .int .i64 0, .int .i64 0, .int .i64 0]) 48 Try.underlying22 hi0 hzi0 hzi1 hzi2 rfl _ ((p.take k).map (renewJ l)) rfl (HO4.out.ext (Ext.alloc _ _)) (some ⟨w4.heap.size, 0, none⟩) 1 1 ([setl x x.l]) rfl (fun _ => ⟨_, _, rfl⟩) (Nat.le_refl _) (plain_jb.lit (Ext.refl _) (Lay.All.single ⟨rfl, wf_setl HW.out hwv⟩) rfl rfl (by decide)) (by have := HLK.out; unfold maxLen; omega) (by have := HLK.out; omega) (by have := HX4.out.size; simp; omega) ?_; intro v2 w5 hown2 hg2)
        have X5 := Lib.hid (HO4.out.below HX4.out (Nat.le_refl _) (grown_of (Ext.alloc _ _) hg2))
        have HO5 := Lib.hid hown2
        clear hown2 hg2
        go_roundw
        case rel => exact ⟨k + 1, by go_num, by omega, Lib.hid (by rw [HMM.out]; exact HO5.out), X5⟩
        case measure => simp [intOf]; omega
    · obtain rfl : k = n := by omega
      have e : p.take k = p := List.take_of_length_le (by rw [HP.out.1]; omega)
      rw [e] at HO
      go_wp2
      go_ret
      exact ⟨⟨_, rfl, HO.out.sl⟩, HX.out⟩
end Go.Proofs.Ytlbpgaoindkgbaa.Me
