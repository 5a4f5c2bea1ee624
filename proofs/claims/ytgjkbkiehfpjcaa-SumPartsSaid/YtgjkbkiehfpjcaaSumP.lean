/- The walk of SumParts. -/
import Derived.Test.YtgjkbkiehfpjcaaSumN
import Derived.Test.YtgjkbkiehfpjcaaSumE
import Derived.Test.YtgjkbkiehfpjcaaSlM
import Derived.Deep.RegionHeld3
namespace Go.Proofs.Ytgjkbkiehfpjcaa.Sm
open Go.RowKit Go.Proofs.Ytgjkbkiehfpjcaa Go.Proofs.Ytgjkbkiehfpjcaa.Crc
set_option linter.unusedVariables false

theorem row_le_of_own {k : IntKind} {w : World} {base : Nat} {e : TypeId} {v : Value} {n : Nat} {zs : List Int} (h : w.ownsRow base e 1 v n (zs.map (Value.int k))) (hn : n ≤ 9223372036854775807) :
    ∃ p c, v = .slice p n c ∧ n ≤ c ∧ (p = none → c = 0 ∧ n = 0) ∧ RowI k w p n zs := by
  obtain ⟨p, c, rfl, hr⟩ := rowI_of_own h hn
  refine ⟨p, c, rfl, ?_, ?_, hr⟩
  · rcases h.2 with ⟨hv, h0⟩ | ⟨g, cap, cur, hv, _, _, hc, _⟩
    · omega
    · simp only [Value.slice.injEq] at hv
      obtain ⟨_, _, rfl⟩ := hv
      exact hc
  · intro hp
    rcases h.2 with ⟨hv, h0⟩ | ⟨g, cap, cur, hv, _⟩
    · simp only [Value.slice.injEq] at hv
      exact ⟨hv.2.2, h0⟩
    · simp only [Value.slice.injEq] at hv
      rw [hp] at hv; simp at hv

theorem rowI_own3 {k : IntKind} {w : World} {base g m c : Nat} {e : TypeId} {zs : List Int} (h : w.ownsRow base e 1 (.slice (some ⟨g, 0, none⟩) m c) m (zs.map (Value.int k))) (hn : m ≤ 9223372036854775807) : RowI k w (some ⟨g, 0, none⟩) m zs := by
  obtain ⟨pp, cc, hv, hr⟩ := rowI_of_own h hn
  simp only [Value.slice.injEq] at hv
  obtain ⟨rfl, _, rfl⟩ := hv
  exact hr

def PartsR (w9 : World) (mc : Nat) (i : Value) (wr : World) : Prop := ∃ j : Nat, i = .int .i64 j ∧ j ≤ mc ∧ Ext w9 wr

set_option maxRecDepth 100000 in
set_option maxHeartbeats 2000000 in
theorem parts_walk {p q : Option Addr} {n c m d : Nat} {l k : List Nat} {w : World} (hp : RowB w p n l) (hc : n ≤ c) (pl : Pl p c) (hq : RowB w q m k) (hd : m ≤ d) (ql : Pl q d) :
    Calls Try.prog 7 #[.slice p n c, .slice q m d] w fun e w' => e = .returned (.bool true) ∧ Ext w w' := by
  obtain ⟨i0, hi0, hz0, hz1, hz2⟩ := info_parts info_u8
  obtain ⟨i1, hi1, hy0, hy1, hy2⟩ := info_parts info_int
  have HP := Lib.hid hp
  have HQ := Lib.hid hq
  have hn := hp.le
  have hm := hq.le
  have HPL := Lib.hid (pl.none hc)
  have HQL := Lib.hid (ql.none hd)
  by_cases h200 : n ≤ 200
  · by_cases h201 : m ≤ 200
    · have g1 : decide ((200 : Int) < (n : Int)) = false := decide_eq_false (by omega)
      have g2 : decide ((200 : Int) < (m : Int)) = false := decide_eq_false (by omega)
      obtain ⟨N, hN⟩ : ∃ N, N = n / 16 * 16 := ⟨_, rfl⟩
      have hNi : (n : Int) / 16 * 16 = (N : Int) := by omega
      have hNn : N ≤ n := by omega
      have HN := Lib.hid hN
      have sl := run_slice_to (P := Try.prog) (t := 22) (e := 5) Try.underlying22 (by rw [hi0]; simp [hz1]) p n c N (by omega) pl
      have HA : Hid (∀ w', Ext w w' → RowB w' p N (l.take N)) := Lib.hid fun w' h => rowB_take (HP.out.ext h) N hNn
      have HPN : Hid (p = none → c = 0 ∧ N = 0) := Lib.hid fun h => by have := HPL.out h; omega
      clear hN hp hq pl ql
      go_enter Try.func7, Try.ntmps7
      go_wp2_with fail
      refine (head_any _).mono ?_
      rintro e w1 ⟨rfl, hx1⟩
      have HA1 := Lib.hid (HA.out _ (Ext.trans hx1 (Ext.alloc w1 (.cells #[] 5))))
      go_wp2_with (at_builtin; first | (refine wpList_append_src rfl (.tmp 27) (.tmp 30) 22 rfl w1.heap.size 5 i0 (.int .u8 0) 1 1 Try.underlying22 hi0 hz0 hz1 hz2 rfl (by decide) _ 0 [] rfl (World.ownsRow_made (e := 5) (size := 1) w1 #[] 0 (Nat.le_refl _) (by decide) rfl) p N c (vals (l.take N)) rfl (by rw [vals_length, HA1.out.length]; omega) HPN.out (news_rowB' HA1.out) (vals_one _) (by unfold maxLen; omega) (by omega) (by simp) ?_; intro v2 w2 hownA hgA; have X2 : Ext w1 w2 := below_grown (Ext.alloc _ _) (Nat.le_refl _) hgA (World.ownsRow_made (e := 5) (size := 1) w1 #[] 0 (Nat.le_refl _) (by decide) rfl)) | (refine wpList_append_src rfl (.tmp 31) (.tmp 32) 22 rfl w1.heap.size 5 i0 (.int .u8 0) 1 1 Try.underlying22 hi0 hz0 hz1 hz2 rfl (by decide) _ (0 + N) ([] ++ vals (l.take N)) rfl hownA q m d (vals k) rfl (by rw [vals_length, HQ.out.length]; omega) HQL.out (news_rowB' (HQ.out.ext (Ext.trans hx1 X2))) (vals_one _) (by unfold maxLen; omega) (by omega) X2.size ?_; intro v3 w3 hownB hgB))
      have X3 : Ext w1 w3 := below_grown X2 (Nat.le_refl _) hgB hownA
      obtain ⟨pa, ca, rfl, hca, _, hra⟩ := row_le_of_own (k := .u8) (zs := (l.take N ++ k).map fun x : Nat => (x : Int)) (by have := hownB; rw [List.nil_append, Nat.zero_add, ← vals_append, vals_ints] at this; exact this) (by omega)
      have HAL : Hid (RowB w3 pa (N + m) (l.take N ++ k)) := Lib.hid ⟨hra, by
        intro x hx
        rcases List.mem_append.1 hx with h | h
        · exact HP.out.2 x (List.mem_of_mem_take h)
        · exact HQ.out.2 x h⟩
      replace hx1 := Ext.trans hx1 X3
      obtain ⟨T, hT⟩ : ∃ T, N + m = T := ⟨_, rfl⟩
      rw [hT] at hca HAL ⊢
      have HTT := Lib.hid hT
      have hT4 : T ≤ 400 := by omega
      clear hT
      have HCA := Lib.hid hca
      clear hownA hgA hownB hgB X2 X3 HA1 hra hca
      refine (blocks_any _ _ _ _ _ (HA.out _ hx1) (by omega) (by omega)).mono ?_
      rintro e w4 ⟨ga, ma, rfl, hown, hx2⟩
      have hma : ma = (bsums (l.take N)).length := by simpa using hown.1.symm
      have H1 := Lib.hid (rowI_own3 (k := .i64) (zs := bsums (l.take N)) hown (by have := bsums_length (l.take N); rw [(HA.out _ hx1).length] at this; omega))
      replace hx1 := Ext.trans hx1 hx2
      have HAL4 := Lib.hid (HAL.out.ext hx2)
      have HMA := Lib.hid hma
      have hma1 : ma ≤ 20 := by have := bsums_length (l.take N); rw [(HA.out _ hx1).length] at this; omega
      clear hown hx2 hma HAL
      go_wp2_with fail
      refine (blocks_any _ _ _ _ _ (HQ.out.ext hx1) (by omega) hd).mono ?_
      rintro e w5 ⟨gb, mb, rfl, hown, hx2⟩
      have hmb : mb = (bsums k).length := by simpa using hown.1.symm
      have hmb1 : mb ≤ 20 := by have := bsums_length k; rw [HQ.out.length] at this; omega
      have H2 := Lib.hid (rowI_own3 (k := .i64) (zs := bsums k) hown (by omega))
      replace hx1 := Ext.trans hx1 hx2
      have HAL5 := Lib.hid (HAL4.out.ext hx2)
      have HMB := Lib.hid hmb
      have HX5 := Lib.hid hx2
      clear hown hx2 hmb HAL4
      go_wp2_with fail
      refine (blocks_any _ _ _ _ _ HAL5.out (by omega) HCA.out).mono ?_
      rintro e w6 ⟨gc, mc, rfl, hown, hx2⟩
      have hmc : mc = (bsums (l.take N ++ k)).length := by simpa using hown.1.symm
      have hmc1 : mc ≤ 40 := by have := bsums_length (l.take N ++ k); rw [HAL5.out.length] at this; omega
      have H3 := Lib.hid (rowI_own3 (k := .i64) (zs := bsums (l.take N ++ k)) hown (by omega))
      replace hx1 := Ext.trans hx1 hx2
      have HAL6 := Lib.hid (HAL5.out.ext hx2)
      have HMC := Lib.hid hmc
      have H1' := Lib.hid (H1.out.ext (Ext.trans HX5.out (Ext.trans hx2 (Ext.alloc w6 (.cells #[] 3)))))
      have H2' := Lib.hid (H2.out.ext hx2)
      clear hown hx2 hmc HAL5 H1 H2 HX5
      go_wp2_with (at_builtin; first | (refine wpList_append_src rfl (.tmp 43) (.tmp 44) 23 rfl w6.heap.size 3 i1 (.int .i64 0) 1 8 Try.underlying23 hi1 hy0 hy1 hy2 rfl (by decide) _ 0 [] rfl (World.ownsRow_made (e := 3) (size := 1) w6 #[] 0 (Nat.le_refl _) (by decide) rfl) (some ⟨ga, 0, none⟩) ma ma ((bsums (l.take N)).map (.int .i64)) rfl (by rw [List.length_map, ← HMA.out]; omega) (fun h => by cases h) (news_rowI H1'.out) (ints_one _ _) (by unfold maxLen; omega) (by omega) (by simp) ?_; intro v7 w7 hownA hgA; have X7 : Ext w6 w7 := below_grown (Ext.alloc _ _) (Nat.le_refl _) hgA (World.ownsRow_made (e := 3) (size := 1) w6 #[] 0 (Nat.le_refl _) (by decide) rfl)) | (go_loud (refine wpList_append_src rfl (.tmp 45) (.tmp 46) 23 rfl w6.heap.size 3 i1 (.int .i64 0) 1 8 Try.underlying23 hi1 hy0 hy1 hy2 rfl (by decide) v7 (0 + ma) ([] ++ (bsums (l.take N)).map (.int .i64)) (by rfl) hownA (some ⟨gb, 0, none⟩) mb mb ((bsums k).map (.int .i64)) rfl (by rw [List.length_map, ← HMB.out]; omega) (fun h => by cases h) (news_rowI (H2'.out.ext X7)) (ints_one _ _) (by unfold maxLen; omega) (by omega) X7.size ?_); intro v8 w8 hownB hgB))
      have X8 : Ext w6 w8 := below_grown X7 (Nat.le_refl _) hgB hownA
      obtain ⟨pz, cz, rfl, hrz⟩ := rowI_of_own (k := .i64) (zs := bsums (l.take N) ++ bsums k) (by have := hownB; rw [List.nil_append, Nat.zero_add, ← List.map_append] at this; exact this) (by omega)
      have HRZ := Lib.hid hrz
      replace hx1 := Ext.trans hx1 X8
      have HAL8 := Lib.hid (HAL6.out.ext X8)
      have H8 := Lib.hid (H3.out.ext X8)
      clear hownA hgA hownB hgB X7 X8 hrz HAL6 H3 H1' H2'
      go_wp2_with fail
      refine (rints_any _ _ _ _ _ _ _ _ _ H8.out HRZ.out).mono ?_
      rintro e w9 ⟨rfl, hx2⟩
      rw [decide_eq_true (bsums_append (l.take N) k (m := n / 16) (by have := HN.out; rw [(HA.out _ (Ext.refl _)).length]; omega))]
      replace hx1 := Ext.trans hx1 hx2
      have HAL9 := Lib.hid (HAL8.out.ext hx2)
      have H9 := Lib.hid (H8.out.ext hx2)
      clear hx2 HAL8 H8 HRZ
      go_wp2_with fail
      have hAL : (l.take N ++ k).length = T := HAL9.out.length
      have hbm := bsums_length (l.take N ++ k)
      rw [hAL, ← HMC.out] at hbm
      have HBM := Lib.hid hbm
      clear hbm HMC HMA HMB
      generalize l.take N ++ k = A at HAL9 H9 hAL
      have HAL := Lib.hid hAL
      clear hAL
      go_wp2
      go_loopw [11, 12] (fun i _ wr => PartsR w9 mc i wr) (fun i _ _ => mc - (intOf i).toNat)
      case atStart => exact ⟨0, rfl, by omega, Ext.refl _⟩
      case round =>
        obtain ⟨j, rfl, hj, hx⟩ := hrel
        by_cases hlt : j < mc
        · have hjT : 16 * j < T := by have := HBM.out; omega
          obtain ⟨b, off, rfl, _⟩ := HAL9.out.cells (by omega)
          have q1 : (j : Int) < (mc : Int) := by omega
          have q2 : decide ((T : Int) ≤ 16 * (j : Int)) = false := decide_eq_false (by omega)
          have q2n : decide (T ≤ 16 * j) = false := decide_eq_false (by omega)
          have q3 : (0 : Int) ≤ 16 * (j : Int) := by omega
          have q4 : (0 : Int) ≤ (j : Int) := by omega
          have q5 : 16 * (j : Int) < (T : Int) := by omega
          have hca := HCA.out
          have HCJ : Hid (∀ w', Ext w9 w' → w'.cell? ⟨gc, j, none⟩ = some (.int .i64 (bsum A j : Nat))) := Lib.hid fun w' h => by
            obtain ⟨b2, off2, hq, hcz⟩ := H9.out.2.2 (by omega)
            simp only [Option.some.injEq, Addr.mk.injEq] at hq
            obtain ⟨rfl, rfl, _⟩ := hq
            have := h.cell (hcz j hlt)
            rw [Nat.zero_add, at0_bsums A j (by rw [HAL.out, ← HBM.out]; exact hlt)] at this
            exact this
          have hbs : sum (List.take (min 16 (T - 16 * j)) (List.drop (16 * j) A)) = bsum A j := by unfold bsum blk; rw [HAL.out]
          have hne : (((bsum A j : Nat) : Int) != ((bsum A j : Nat) : Int)) = false := by simp
          have hxx : Ext w9 wr.drew := Ext.drew hx
          by_cases h16 : 16 * j + 16 ≤ T
          · have r1 : 16 * (j : Int) + 16 ≤ (T : Int) := by omega
            have r2 : ¬ (T : Int) < 16 * (j : Int) + 16 := by omega
            have r4 : ((T : Int) < 16 * (j : Int) + 16) = False := eq_false r2
            have r5 : (if (T : Int) < 16 * (j : Int) + 16 then (T : Int) else 16 * (j : Int) + 16) = 16 * (j : Int) + 16 := if_neg r2
            have r6 : 16 * (j : Int) ≤ 16 * (j : Int) + 16 := by omega
            have r7 : (0 : Int) ≤ 16 * (j : Int) + 16 := by omega
            have r3 : 16 * (j : Int) + 16 ≤ (ca : Int) := by omega
            have hwr : IntKind.i64.wrap (16 * (j : Int) + 16) = 16 * (j : Int) + 16 := IntWalk.i64_in _ (by omega)
            have slm : ∀ w, (Instr.slice 22 (.slice (some ⟨b, off, none⟩) T ca) (some (.int .i64 (16 * (j : Int)))) (some (.int .i64 (16 * (j : Int) + 16))) none).run Try.prog w = .ok (.slice (some ⟨b, off + 16 * j, none⟩) (16) (ca - 16 * j)) w := fun w => by
              have := run_slice_mid (P := Try.prog) (t := 22) (e := 5) Try.underlying22 (by rw [hi0]; simp [hz1]) b off T ca (16 * j) (16 * j + 16) (by omega) (by omega) (by omega) (16 * (j : Int)) (16 * (j : Int) + 16) (by omega) (by omega) w
              rwa [show 16 * j + 16 - 16 * j = 16 by omega] at this
            rw [show min 16 (T - 16 * j) = 16 by omega] at hbs
            have HS : Hid (∀ w', Ext w9 w' → RowB w' (some ⟨b, off + 16 * j, none⟩) 16 (List.take 16 (List.drop (16 * j) A))) := Lib.hid fun w' h => (HAL9.out.ext h).sub (16 * j) 16 (by omega)
            have HBS := Lib.hid hbs
            clear hbs hx
            go_wp2
            go_region_held3 (fun w' => w'.cell? ⟨gc, j, none⟩ = some (.int .i64 (bsum A j : Nat))) (exact HCJ.out _ hxx) ((go_at_call 10; refine (of_any _ _ _ _ _ (HS.out _ hxx)).mono ?_; rintro e w10 ⟨rfl, hx2⟩; rw [HBS.out]; replace hxx := Ext.trans hxx hx2; clear hx2))
            go_wp2
            go_roundw
            case rel => exact ⟨j + 1, by go_num, by omega, hxx⟩
            case measure => simp [intOf]; omega
          · have r1 : (T : Int) < 16 * (j : Int) + 16 := by omega
            have r3 : (T : Int) ≤ (ca : Int) := by omega
            have hwr : IntKind.i64.wrap (16 * (j : Int) + 16) = 16 * (j : Int) + 16 := IntWalk.i64_in _ (by omega)
            have slm : ∀ w, (Instr.slice 22 (.slice (some ⟨b, off, none⟩) T ca) (some (.int .i64 (16 * (j : Int)))) (some (.int .i64 ((T : Int)))) none).run Try.prog w = .ok (.slice (some ⟨b, off + 16 * j, none⟩) (T - 16 * j) (ca - 16 * j)) w := fun w => by
              have := run_slice_mid (P := Try.prog) (t := 22) (e := 5) Try.underlying22 (by rw [hi0]; simp [hz1]) b off T ca (16 * j) (T) (by omega) (by omega) (by omega) (16 * (j : Int)) ((T : Int)) (by omega) (by omega) w
              exact this
            rw [show min 16 (T - 16 * j) = T - 16 * j by omega] at hbs
            have HS : Hid (∀ w', Ext w9 w' → RowB w' (some ⟨b, off + 16 * j, none⟩) (T - 16 * j) (List.take (T - 16 * j) (List.drop (16 * j) A))) := Lib.hid fun w' h => (HAL9.out.ext h).sub (16 * j) (T - 16 * j) (by omega)
            have HBS := Lib.hid hbs
            clear hbs hx
            go_wp2
            go_region_held3 (fun w' => w'.cell? ⟨gc, j, none⟩ = some (.int .i64 (bsum A j : Nat))) (exact HCJ.out _ hxx) ((go_at_call 10; refine (of_any _ _ _ _ _ (HS.out _ hxx)).mono ?_; rintro e w10 ⟨rfl, hx2⟩; rw [HBS.out]; replace hxx := Ext.trans hxx hx2; clear hx2))
            go_wp2
            go_roundw
            case rel => exact ⟨j + 1, by go_num, by omega, hxx⟩
            case measure => simp [intOf]; omega
        · obtain rfl : j = mc := by omega
          go_wp2
          go_ret
          exact ⟨rfl, Ext.trans hx1 hx⟩
    · have g1 : decide ((200 : Int) < (n : Int)) = false := decide_eq_false (by omega)
      have g2 : (200 : Int) < (m : Int) := by omega
      clear hp hq pl ql
      go_enter Try.func7, Try.ntmps7
      go_wp2_with fail
      refine (head_any _).mono ?_
      rintro e w1 ⟨rfl, hx⟩
      go_wp2
      go_ret
      exact ⟨rfl, hx⟩
  · have g1 : (200 : Int) < (n : Int) := by omega
    clear hp hq pl ql
    go_enter Try.func7, Try.ntmps7
    go_wp2_with fail
    refine (head_any _).mono ?_
    rintro e w1 ⟨rfl, hx⟩
    go_wp2
    go_ret
    exact ⟨rfl, hx⟩
end Go.Proofs.Ytgjkbkiehfpjcaa.Sm
