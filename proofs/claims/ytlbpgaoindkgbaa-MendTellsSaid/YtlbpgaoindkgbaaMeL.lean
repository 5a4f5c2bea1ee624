/- Jobs: two steps are one of both budgets. -/
import Derived.Test.YtlbpgaoindkgbaaMeK
namespace Go.Proofs.Ytlbpgaoindkgbaa.Me
open Go.RowKit Go.Proofs.Ytlbpgaoindkgbaa Go.Sort
set_option linter.unusedVariables false

theorem setl_setl (x : Jb) (y z : Int) : setl (setl x y) z = setl x z := rfl
theorem step_comp : ∀ (l : List Jb) (a b : Int), 0 ≤ b → stepL l (a + b) = ((stepL (stepL l a).1 b).1, (stepL l a).2 ++ (stepL (stepL l a).1 b).2)
  | [], a, b, _ => rfl
  | x :: m, a, b, hb => by
    by_cases h : a < x.l
    · have e1 : stepL (x :: m) a = (setl x (x.l - a) :: m, []) := by show (if a < x.l then _ else _) = _; rw [if_pos h]
      rw [e1]
      by_cases h2 : b < x.l - a
      · have e2 : stepL (setl x (x.l - a) :: m) b = (setl (setl x (x.l - a)) (x.l - a - b) :: m, []) := by show (if b < x.l - a then _ else _) = _; rw [if_pos h2]; rfl
        have e3 : stepL (x :: m) (a + b) = (setl x (x.l - (a + b)) :: m, []) := by show (if a + b < x.l then _ else _) = _; rw [if_pos (by omega)]
        show stepL (x :: m) (a + b) = ((stepL (setl x (x.l - a) :: m) b).1, [] ++ (stepL (setl x (x.l - a) :: m) b).2)
        rw [e2, e3, setl_setl, show x.l - a - b = x.l - (a + b) by omega]
        rfl
      · have e2 : stepL (setl x (x.l - a) :: m) b = ((stepL m (b - (x.l - a))).1, setl (setl x (x.l - a)) 0 :: (stepL m (b - (x.l - a))).2) := by show (if b < x.l - a then _ else _) = _; rw [if_neg h2]; rfl
        have e3 : stepL (x :: m) (a + b) = ((stepL m (a + b - x.l)).1, setl x 0 :: (stepL m (a + b - x.l)).2) := by show (if a + b < x.l then _ else _) = _; rw [if_neg (by omega)]
        show stepL (x :: m) (a + b) = ((stepL (setl x (x.l - a) :: m) b).1, [] ++ (stepL (setl x (x.l - a) :: m) b).2)
        rw [e2, e3, setl_setl, show b - (x.l - a) = a + b - x.l by omega]
        rfl
    · have e1 : stepL (x :: m) a = ((stepL m (a - x.l)).1, setl x 0 :: (stepL m (a - x.l)).2) := by show (if a < x.l then _ else _) = _; rw [if_neg h]
      rw [e1]
      have h2 : ¬ a + b < x.l := by omega
      have ih := step_comp m (a - x.l) b hb
      have e3 : stepL (x :: m) (a + b) = ((stepL m (a + b - x.l)).1, setl x 0 :: (stepL m (a + b - x.l)).2) := by show (if a + b < x.l then _ else _) = _; rw [if_neg h2]
      rw [e3, show a + b - x.l = a - x.l + b by omega, ih]
      rfl
def QOk (L : List Jb) : Prop := AllMay L ∧ L.Pairwise (fun a b => aheadB a b = true ∧ ¬ (a.i = b.i ∧ a.t = b.t))
theorem qok_ord (l : List Jb) : QOk (ordL l) := ⟨fun a ha => pick_may l a (ord_mem.1 ha), ord_pair l⟩
theorem QOk.right {L : List Jb} (h : QOk L) : RightP L := right_of h.1 h.2
theorem may_l {x : Jb} (h : mayB x = true) : 1 ≤ x.l ∧ x.l ≤ 65 := by unfold mayB at h; rw [decide_eq_true_iff] at h; omega
theorem QOk.small {L : List Jb} (h : QOk L) : SmallL L := fun x hx => by have := may_l (h.1 x hx); omega
theorem may_setl {x : Jb} {y : Int} (h : mayB x = true) (h1 : 1 ≤ y) (h2 : y ≤ 65) : mayB (setl x y) = true := by
  unfold mayB at *
  rw [decide_eq_true_iff] at *
  show 0 ≤ x.i ∧ x.i < 200 ∧ (0 ≤ x.v ∧ x.v ≤ 1099511627776) ∧ (0 ≤ x.f ∧ x.f ≤ 1099511627776) ∧ (0 ≤ x.t ∧ x.t ≤ 1099511627776) ∧ x.f ≠ x.t ∧ 1 ≤ x.h ∧ x.h ≤ 5 ∧ 1 ≤ y ∧ y ≤ 65
  omega
theorem qok_step : ∀ {L : List Jb} {r : Int}, QOk L → 0 ≤ r → QOk (stepL L r).1
  | [], r, h, _ => h
  | x :: m, r, h, hr => by
    have hx := h.1 x (by simp)
    have hl := may_l hx
    have hp := List.pairwise_cons.1 h.2
    have hm : QOk m := ⟨fun a ha => h.1 a (by simp [ha]), hp.2⟩
    by_cases hc : r < x.l
    · have e : stepL (x :: m) r = (setl x (x.l - r) :: m, []) := by show (if r < x.l then _ else _) = _; rw [if_pos hc]
      rw [e]
      refine ⟨fun a ha => ?_, List.pairwise_cons.2 ⟨fun b hb => hp.1 b hb, hp.2⟩⟩
      rcases List.mem_cons.1 ha with rfl | ha
      · exact may_setl hx (by omega) (by omega)
      · exact hm.1 a ha
    · have e : stepL (x :: m) r = ((stepL m (r - x.l)).1, setl x 0 :: (stepL m (r - x.l)).2) := by show (if r < x.l then _ else _) = _; rw [if_neg hc]
      rw [e]
      exact qok_step hm (by omega)
theorem step_len : ∀ (L : List Jb) (r : Int), (stepL L r).1.length + (stepL L r).2.length = L.length
  | [], r => rfl
  | x :: m, r => by
    by_cases hc : r < x.l
    · have e : stepL (x :: m) r = (setl x (x.l - r) :: m, []) := by show (if r < x.l then _ else _) = _; rw [if_pos hc]
      rw [e]; rfl
    · have e : stepL (x :: m) r = ((stepL m (r - x.l)).1, setl x 0 :: (stepL m (r - x.l)).2) := by show (if r < x.l then _ else _) = _; rw [if_neg hc]
      rw [e]
      have := step_len m (r - x.l)
      simp only [List.length_cons]
      omega
theorem ord40 (l : List Jb) : (ordL (l.take 40)).length ≤ 40 := by
  have := ord_le (l.take 40)
  have h2 : (l.take 40).length ≤ 40 := by simp; omega
  omega
theorem mu16 {x : Int} (h : (Lit.int .u16 x).wf = true) : 0 ≤ x ∧ x ≤ 65535 := by
  simp [Lit.wf, IntKind.min, IntKind.max, IntKind.signed, IntKind.bits] at h
  exact h
theorem mi64 {x : Int} (h : -9223372036854775808 ≤ x ∧ x ≤ 9223372036854775807) : (Lit.int .i64 x).wf = true := by
  simp [Lit.wf, IntKind.min, IntKind.max, IntKind.signed, IntKind.bits]; exact h
set_option maxRecDepth 100000 in
set_option maxHeartbeats 4000000 in
theorem twice_walk {u : Value} {l : List Jb} {a b : Int} {w : World} (hu : LJb.Sl w u l) (ha : (Lit.int .u16 a).wf = true) (hb : (Lit.int .u16 b).wf = true) : Calls Try.prog 7 #[u, .int .u16 a, .int .u16 b] w fun e w' => e = .returned (.bool true) ∧ Ext w w' := by
  obtain ⟨i0, hi0, hzi0, hzi1, hzi2⟩ := info_parts info_job
  obtain ⟨ha0, ha1⟩ := mu16 ha
  obtain ⟨hb0, hb1⟩ := mu16 hb
  have HX := Lib.hid hu
  have hz : Ext w w := Ext.refl _
  clear hu ha hb
  go_enter Try.func7, Try.ntmps7
  go_wp2_with fail
  refine (head_v _).mono ?_
  rintro e w1 ⟨rfl, hx9⟩
  replace HX := Lib.hid (HX.out.ext hx9)
  replace hz := Ext.trans hz hx9
  clear hx9
  go_wp2_with fail
  refine (few_any _ l _ HX.out).mono ?_
  rintro e w2 ⟨⟨v1, rfl, hs⟩, hx9⟩
  replace HX := Lib.hid (HX.out.ext hx9)
  replace hz := Ext.trans hz hx9
  clear hx9
  have HF := Lib.hid hs
  clear hs
  go_wp2_with fail
  refine (rorder_v _ _ _ HF.out (by simp; omega)).mono ?_
  rintro e w3 ⟨⟨v2, rfl, hs⟩, hx9⟩
  replace HX := Lib.hid (HX.out.ext hx9)
  replace HF := Lib.hid (HF.out.ext hx9)
  replace hz := Ext.trans hz hx9
  clear hx9
  obtain ⟨L, hL⟩ : ∃ L, ordL (l.take 40) = L := ⟨_, rfl⟩
  have HQ : Hid (QOk L) := Lib.hid (by rw [← hL]; exact qok_ord _)
  have HN : Hid (L.length ≤ 40) := Lib.hid (by rw [← hL]; exact ord40 l)
  rw [hL] at hs
  have HL := Lib.hid hs
  clear hs hL
  go_wp2_with fail
  refine (step_v _ L a a _ HL.out HQ.out.small (by have := HN.out; omega) (mi64 (by omega)) (by omega)).mono ?_
  rintro e w4 ⟨⟨v3, v4, rfl, hs, hs2⟩, hx9⟩
  replace HX := Lib.hid (HX.out.ext hx9)
  replace HF := Lib.hid (HF.out.ext hx9)
  replace HL := Lib.hid (HL.out.ext hx9)
  replace hz := Ext.trans hz hx9
  clear hx9
  have HP := Lib.hid hs
  have HE := Lib.hid hs2
  clear hs hs2
  have HQ1 : Hid (QOk (stepL L a).1) := Lib.hid (qok_step HQ.out ha0)
  have HN1 : Hid ((stepL L a).1.length ≤ 40 ∧ (stepL L a).2.length ≤ 40) := Lib.hid (by have := step_len L a; have := HN.out; omega)
  go_wp2_with fail
  refine (rright_v _ _ _ HP.out (by have := HN1.out; omega)).mono ?_
  rintro e w5 ⟨⟨b1, rfl, hb1⟩, hx9⟩
  replace HX := Lib.hid (HX.out.ext hx9)
  replace HF := Lib.hid (HF.out.ext hx9)
  replace HL := Lib.hid (HL.out.ext hx9)
  replace HP := Lib.hid (HP.out.ext hx9)
  replace HE := Lib.hid (HE.out.ext hx9)
  replace hz := Ext.trans hz hx9
  clear hx9
  obtain rfl : b1 = true := hb1.2 HQ1.out.right
  clear hb1
  go_wp2_with fail
  refine (step_v _ (stepL L a).1 b b _ HP.out HQ1.out.small (by have := HN1.out; omega) (mi64 (by omega)) (by omega)).mono ?_
  rintro e w6 ⟨⟨v5, v6, rfl, hs, hs2⟩, hx9⟩
  replace HX := Lib.hid (HX.out.ext hx9)
  replace HF := Lib.hid (HF.out.ext hx9)
  replace HL := Lib.hid (HL.out.ext hx9)
  replace HP := Lib.hid (HP.out.ext hx9)
  replace HE := Lib.hid (HE.out.ext hx9)
  replace hz := Ext.trans hz hx9
  clear hx9
  have HR := Lib.hid hs
  have HS := Lib.hid hs2
  clear hs hs2
  go_wp2_with fail
  refine (step_v _ L (a + b) (a + b) _ HL.out HQ.out.small (by have := HN.out; omega) (mi64 (by omega)) (by omega)).mono ?_
  rintro e w7 ⟨⟨v7, v8, rfl, hs, hs2⟩, hx9⟩
  replace HX := Lib.hid (HX.out.ext hx9)
  replace HF := Lib.hid (HF.out.ext hx9)
  replace HL := Lib.hid (HL.out.ext hx9)
  replace HP := Lib.hid (HP.out.ext hx9)
  replace HE := Lib.hid (HE.out.ext hx9)
  replace HR := Lib.hid (HR.out.ext hx9)
  replace HS := Lib.hid (HS.out.ext hx9)
  replace hz := Ext.trans hz hx9
  clear hx9
  rw [step_comp L a b hb0] at hs hs2
  have HT := Lib.hid hs
  have HU := Lib.hid hs2
  clear hs hs2
  have HN2 : Hid ((stepL (stepL L a).1 b).2.length ≤ 40) := Lib.hid (by have := step_len (stepL L a).1 b; have := HN1.out; omega)
  have HE1 := HE
  have HS1 := HS
  obtain ⟨pe, ne, ce, rfl, hre, hnce, hcme, hple⟩ := HE1.out
  obtain ⟨ps, ns, cs, rfl, hrs, hncs, hcms, hpls⟩ := HS1.out
  have HRE := Lib.hid hre
  have HRS := Lib.hid hrs
  have HPE := Lib.hid hple
  have HPS := Lib.hid hpls
  have HNE : Hid (ne ≤ 40) := Lib.hid (by rw [← hre.1]; exact HN1.out.2)
  have HNS : Hid (ns ≤ 40) := Lib.hid (by rw [← hrs.1]; exact HN2.out)
  have HZ := Lib.hid hz
  clear hre hrs hple hpls HE1 HS1 hz
  go_wp2_with (first | (at_builtin; refine Lay.wpList_append (E := LJb) rfl (.tmp 47) (.tmp 48) 22 rfl w7.heap.size 33 i0 (.agg #[.int .i64 0, .int .i64 0, .int .i64 0, .int .i64 0, .int .i64 0, .int .i64 0]) 48 Try.underlying22 hi0 hzi0 hzi1 hzi2 rfl _ ([]) rfl ((plain_jb.own_lit w7 #[] 33 w7.heap.size 0 [] (Nat.le_refl _) rfl rfl (by decide))) pe ne ce (((stepL L a).2)) rfl HPE.out hnce (HRE.out.keep (Ext.alloc _ _) (by intro k hk; cases hk; exact Nat.le_refl _)) (by have := HNE.out; unfold maxLen; simp; omega) (by have := HNE.out; simp; omega) (by simp) ?_; intro va wa hown5 hg5; (have X5 := Lib.hid ((plain_jb.own_lit w7 #[] 33 w7.heap.size 0 [] (Nat.le_refl _) rfl rfl (by decide)).below (Ext.alloc w7 _) (Nat.le_refl _) hg5)); (have HO5 := Lib.hid hown5); clear hown5 hg5) | (at_builtin; refine Lay.wpList_append (E := LJb) rfl (.tmp 50) (.tmp 51) 22 rfl w7.heap.size 33 i0 (.agg #[.int .i64 0, .int .i64 0, .int .i64 0, .int .i64 0, .int .i64 0, .int .i64 0]) 48 Try.underlying22 hi0 hzi0 hzi1 hzi2 rfl _ ([] ++ (stepL L a).2) rfl (HO5.out) ps ns cs (((stepL (stepL L a).1 b).2)) rfl HPS.out hncs (HRS.out.keep X5.out (by intro k hk; exact (HO5.out.lt k hk).1)) (by have := HNS.out; have := HN1.out; unfold maxLen; simp; omega) (by have := HNS.out; have := HN1.out; simp; omega) (X5.out.size) ?_; intro vb wb hown6 hg6; (have X6 := Lib.hid (HO5.out.below X5.out (Nat.le_refl _) hg6)); (have HO6 := Lib.hid hown6); clear hown6 hg6))
  refine (same_v _ _ _ _ _ (HR.out.ext X6.out) (HT.out.ext X6.out)).mono ?_
  rintro e wc ⟨rfl, hxc⟩
  rw [decide_eq_true rfl]
  go_wp2_with fail
  refine (same_v _ _ _ _ _ (HO6.out.ext hxc).sl (HU.out.ext (Ext.trans X6.out hxc))).mono ?_
  rintro e wd ⟨rfl, hxd⟩
  rw [decide_eq_true (by simp)]
  go_wp2
  go_ret
  exact ⟨rfl, Ext.trans HZ.out (Ext.trans X6.out (Ext.trans hxc hxd))⟩
end Go.Proofs.Ytlbpgaoindkgbaa.Me
