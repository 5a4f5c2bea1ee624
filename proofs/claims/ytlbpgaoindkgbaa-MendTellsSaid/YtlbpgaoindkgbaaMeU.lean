/- Jobs: a step, and how many there are (the reference). -/
import Derived.Test.YtlbpgaoindkgbaaMeT
namespace Go.Proofs.Ytlbpgaoindkgbaa.Me
open Go.RowKit Go.Proofs.Ytlbpgaoindkgbaa Go.Sort
set_option linter.unusedVariables false

theorem tot_nonneg : ∀ {l : List Jb}, (∀ y ∈ l, 1 ≤ y.l) → 0 ≤ totI l
  | [], _ => by simp [totI]
  | x :: l, h => by
    have := tot_nonneg (l := l) fun y hy => h y (by simp [hy])
    have := h x (by simp)
    rw [tot_cons]; omega
theorem step_snoc : ∀ (M : List Jb) (x : Jb) (R : Int), (∀ y ∈ M, 1 ≤ y.l) → 1 ≤ x.l → 0 ≤ R → stepL (M ++ [x]) R = if max 0 (R - totI M) < x.l then ((stepL M R).1 ++ [setl x (x.l - max 0 (R - totI M))], (stepL M R).2) else ((stepL M R).1, (stepL M R).2 ++ [setl x 0])
  | [], x, R, _, hx, hR => by
    have e : max 0 (R - totI []) = R := by simp [totI]; omega
    rw [e]
    show (if R < x.l then _ else _) = _
    split <;> rfl
  | z :: M, x, R, hM, hx, hR => by
    have hz := hM z (by simp)
    have ht := tot_nonneg (l := M) (fun y hy => hM y (by simp [hy]))
    by_cases hc : R < z.l
    · have e1 : stepL (z :: M) R = (setl z (z.l - R) :: M, []) := by show (if R < z.l then _ else _) = _; rw [if_pos hc]
      have e2 : stepL (z :: M ++ [x]) R = (setl z (z.l - R) :: (M ++ [x]), []) := by show (if R < z.l then _ else _) = _; rw [if_pos hc]; rfl
      have e3 : max 0 (R - totI (z :: M)) = 0 := by rw [tot_cons]; omega
      rw [e1, e2, e3, if_pos (by omega), show x.l - 0 = x.l by omega, setl_self]
      rfl
    · have e1 : stepL (z :: M) R = ((stepL M (R - z.l)).1, setl z 0 :: (stepL M (R - z.l)).2) := by show (if R < z.l then _ else _) = _; rw [if_neg hc]
      have e2 : stepL (z :: M ++ [x]) R = ((stepL (M ++ [x]) (R - z.l)).1, setl z 0 :: (stepL (M ++ [x]) (R - z.l)).2) := by show (if R < z.l then _ else _) = _; rw [if_neg hc]; rfl
      have ih := step_snoc M x (R - z.l) (fun y hy => hM y (by simp [hy])) hx (by omega)
      have e3 : max 0 (R - totI (z :: M)) = max 0 (R - z.l - totI M) := by rw [tot_cons]; omega
      rw [e1, e2, e3, ih]
      split <;> rfl
def RStepR (w : World) (l : List Jb) (n : Nat) (R : Int) (v6 v7 v8 i : Value) (wr : World) : Prop := ∃ (k : Nat) (r : Int), i = .int .i64 k ∧ k ≤ n ∧ Hid (LJb.Own wr w.heap.size 33 v6 (stepL (l.take k) R).1) ∧ Hid (LJb.Own wr w.heap.size 33 v7 (stepL (l.take k) R).2) ∧ Hid (v6.ownBlock ≠ v7.ownBlock) ∧ v8 = .int .i64 r ∧ Hid (r = max 0 (R - totI (l.take k))) ∧ Ext w wr
set_option maxRecDepth 100000 in
set_option maxHeartbeats 4000000 in
theorem rstep_v (u : Value) (l : List Jb) (bud R : Int) (w : World) (hu : LJb.Sl w u l) (hs : ∀ y ∈ l, 1 ≤ y.l ∧ y.l ≤ 65) (hn : l.length ≤ 1000) (hb : (Lit.int .i64 bud).wf = true) (hR : R = max bud 0) : Calls Try.prog 13 #[u, .int .i64 bud] w (Ret2 (stepL l R) w) := by
  obtain ⟨i0, hi0, hzi0, hzi1, hzi2⟩ := info_parts info_job
  obtain ⟨p, n, c, rfl, hl, hnc, hcm, hpl⟩ := hu
  have HP := Lib.hid hl
  have HS := Lib.hid hs
  have hn63 := hl.2.1
  have HN : Hid (n ≤ 1000) := Lib.hid (by rw [← hl.1]; exact hn)
  have hb2 : -9223372036854775808 ≤ bud ∧ bud ≤ 9223372036854775807 := by
    simp [Lit.wf, IntKind.min, IntKind.max, IntKind.signed, IntKind.bits] at hb
    exact hb
  have HR : Hid (0 ≤ R ∧ R ≤ 9223372036854775807) := Lib.hid (by omega)
  clear hl hpl hs hn hb
  have hmx : max bud 0 = R := hR.symm
  clear hR
  go_enter Try.func13, Try.ntmps13
  go_wp2
  clear hmx
  go_loopw [6, 7, 8, 9, 10, 11] (fun v6 v7 v8 i _ _ wr => RStepR w l n R v6 v7 v8 i wr) (fun _ _ _ i _ _ _ => n - (intOf i).toNat)
  case atStart => exact ⟨0, R, rfl, by omega, Lib.hid ((plain_jb.own_lit w #[] _ w.heap.size 0 [] (Nat.le_refl _) rfl rfl (by decide)).ext (Ext.alloc _ _)), Lib.hid (by have := plain_jb.own_lit (w.alloc (.cells #[] 33)) #[] 33 w.heap.size 0 [] (by simp) rfl rfl (by decide); simpa [stepL] using this), Lib.hid (by simp [Value.ownBlock]), rfl, Lib.hid (by simp [totI]; have := HR.out; omega), Ext.trans (Ext.alloc _ _) (Ext.alloc _ _)⟩
  case round =>
    obtain ⟨k, r, rfl, hk, HO6, HO7, HAP, rfl, HRR, hx⟩ := hrel
    have HX := Lib.hid hx
    clear hx
    by_cases hlt : k < n
    · obtain ⟨x, gx⟩ := get_of l k (by rw [HP.out.1]; exact hlt)
      obtain ⟨b, off, rfl, hw, c0, c1, c2, c3, c4, c5⟩ := jb_at (HP.out.ext HX.out) gx
      have HW := Lib.hid hw
      have hlt' : (k : Int) < (n : Int) := by omega
      have hlt0 : (0 : Int) ≤ (k : Int) := by omega
      have hxl := HS.out x (List.mem_of_getElem? gx)
      have HTS : Hid (totI (l.take (k + 1)) = totI (l.take k) + x.l) := Lib.hid (tot_snoc l k x gx)
      have HSN : Hid (stepL (l.take (k + 1)) R = if r < x.l then ((stepL (l.take k) R).1 ++ [setl x (x.l - r)], (stepL (l.take k) R).2) else ((stepL (l.take k) R).1, (stepL (l.take k) R).2 ++ [setl x 0])) := Lib.hid (by
        rw [List.take_add_one, gx, HRR.out]
        exact step_snoc (l.take k) x R (fun y hy => (HS.out y (List.mem_of_mem_take hy)).1) hxl.1 HR.out.1)
      have HLK : Hid ((stepL (l.take k) R).1.length + 1 ≤ 1001 ∧ (stepL (l.take k) R).2.length + 1 ≤ 1001) := Lib.hid (by
        have h1 := step_len (l.take k) R
        have h2 := HN.out
        simp only [List.length_take] at h1
        omega)
      have hr := HRR.out
      have hR := HR.out
      have hr0 : 0 ≤ r := by omega
      have hr1 : r ≤ 9223372036854775807 := by
        have := tot_nonneg (l := l.take k) (fun y hy => (HS.out y (List.mem_of_mem_take hy)).1)
        omega
      obtain ⟨hxl0, hxl1⟩ := hxl
      clear gx hw hr hR
      by_cases hc : r < x.l
      · have hmn : min r x.l = r := by omega
        have hd : decide (0 < x.l - r) = true := decide_eq_true (by omega)
        have hd2 : decide (r < x.l) = true := decide_eq_true hc
        have hwv : (Lit.int .i64 (x.l - r)).wf = true := mi64 (by omega)
        have HC := Lib.hid hc
        go_wp2_with (at_builtin; refine Lay.wpList_append2 (E := LJb) rfl (.tmp 41) (.tmp 43) 22 rfl w.heap.size 33 i0 (.agg #[.int .i64 0, .int .i64 0, .int .i64 0, .int .i64 0, .int .i64 0, .int .i64 0]) 48 Try.underlying22 hi0 hzi0 hzi1 hzi2 rfl _ ((stepL (l.take k) R).1) rfl (HO6.out.ext (Ext.trans (Ext.alloc _ _) (Ext.alloc _ _))) (some ⟨wr.heap.size + 1, 0, none⟩) 1 1 ([setl x (x.l - r)]) rfl (fun _ => ⟨_, _, rfl⟩) (Nat.le_refl _) (plain_jb.lit (Ext.refl _) (Lay.All.single ⟨rfl, wf_setl HW.out hwv⟩) (by simp) rfl (by decide)) (by have := HLK.out; unfold maxLen; omega) (by have := HLK.out; omega) (by have := HX.out.size; simp; omega) ?_; intro v2 w3 hown2 hg2 hap2)
        have HG := Lib.hid (grown_of (Ext.trans (Ext.alloc _ _) (Ext.alloc _ _)) hg2)
        have X3 := Lib.hid (HO6.out.below HX.out (Nat.le_refl _) HG.out)
        have HO3 := Lib.hid hown2
        have HO4 := Lib.hid (HO7.out.kept plain_jb HG.out (fun h => HAP.out h.symm))
        have HAP2 : Hid (v2.ownBlock ≠ u7.ownBlock) := Lib.hid (fun h => by
          rcases hap2 with e | e
          · rw [e] at h; exact HAP.out h
          · rw [e] at h
            have := (HO7.out.lt _ h.symm).2
            simp at this; omega)
        clear hown2 hg2 hap2
        go_roundw
        case rel => exact ⟨k + 1, 0, by go_num, by omega, Lib.hid (by rw [HSN.out, if_pos HC.out]; exact HO3.out), Lib.hid (by rw [HSN.out, if_pos HC.out]; exact HO4.out), HAP2, by simp, Lib.hid (by rw [HTS.out]; have := HRR.out; have := HC.out; omega), X3.out⟩
        case measure => simp [intOf]; omega
      · have hmn : min r x.l = x.l := by omega
        have hd : decide (0 < x.l - x.l) = false := decide_eq_false (by omega)
        have hwv : (Lit.int .i64 0).wf = true := by decide
        have HC := Lib.hid hc
        clear hc
        go_wp2_with (at_builtin; refine Lay.wpList_append2 (E := LJb) rfl (.tmp 45) (.tmp 47) 22 rfl w.heap.size 33 i0 (.agg #[.int .i64 0, .int .i64 0, .int .i64 0, .int .i64 0, .int .i64 0, .int .i64 0]) 48 Try.underlying22 hi0 hzi0 hzi1 hzi2 rfl _ ((stepL (l.take k) R).2) rfl (HO7.out.ext (Ext.trans (Ext.alloc _ _) (Ext.alloc _ _))) (some ⟨wr.heap.size + 1, 0, none⟩) 1 1 ([setl x 0]) rfl (fun _ => ⟨_, _, rfl⟩) (Nat.le_refl _) (plain_jb.lit (Ext.refl _) (Lay.All.single ⟨rfl, wf_setl HW.out hwv⟩) (by simp) rfl (by decide)) (by have := HLK.out; unfold maxLen; omega) (by have := HLK.out; omega) (by have := HX.out.size; simp; omega) ?_; intro v2 w3 hown2 hg2 hap2)
        have HG := Lib.hid (grown_of (Ext.trans (Ext.alloc _ _) (Ext.alloc _ _)) hg2)
        have X3 := Lib.hid (HO7.out.below HX.out (Nat.le_refl _) HG.out)
        have HO3 := Lib.hid hown2
        have HO4 := Lib.hid (HO6.out.kept plain_jb HG.out HAP.out)
        have HAP2 : Hid (u6.ownBlock ≠ v2.ownBlock) := Lib.hid (fun h => by
          rcases hap2 with e | e
          · rw [e] at h; exact HAP.out h
          · rw [e] at h
            have := (HO6.out.lt _ h).2
            simp at this; omega)
        clear hown2 hg2 hap2
        go_roundw
        case rel => exact ⟨k + 1, r - x.l, by go_num, by omega, Lib.hid (by rw [HSN.out, if_neg HC.out]; exact HO4.out), Lib.hid (by rw [HSN.out, if_neg HC.out]; exact HO3.out), HAP2, rfl, Lib.hid (by rw [HTS.out]; have := HRR.out; have := HC.out; omega), X3.out⟩
        case measure => simp [intOf]; omega
    · obtain rfl : k = n := by omega
      have e : l.take k = l := List.take_of_length_le (by rw [HP.out.1]; omega)
      rw [e] at HO6 HO7
      clear e
      go_wp2
      go_ret2
      exact ⟨⟨_, _, rfl, HO6.out.sl, HO7.out.sl⟩, HX.out⟩
end Go.Proofs.Ytlbpgaoindkgbaa.Me
