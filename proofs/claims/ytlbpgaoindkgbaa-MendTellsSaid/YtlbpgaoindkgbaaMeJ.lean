/- Jobs: the live questions. -/
import Derived.Test.YtlbpgaoindkgbaaMeI
namespace Go.Proofs.Ytlbpgaoindkgbaa.Me
open Go.RowKit Go.Proofs.Ytlbpgaoindkgbaa Go.Sort
set_option linter.unusedVariables false

def J (h i t l : Int) : Jb := ⟨i, 0, 9, t, h, l⟩
theorem wf_J {h i t l : Int} (a : (Lit.int .i64 h).wf = true) (b : (Lit.int .i64 i).wf = true) (c : (Lit.int .i64 t).wf = true) (d : (Lit.int .i64 l).wf = true) : JbWf (J h i t l) := ⟨b, (by decide : (Lit.int .i64 0).wf = true), (by decide : (Lit.int .i64 9).wf = true), c, a, d⟩
theorem lit_sl (w : World) (cs : Array Value) (n : Nat) (l : List Jb) (h : cs.toList = l.flatMap encJ) (hw : ∀ x ∈ l, JbWf x) (hl : l.length = n) (hn : n ≤ 100) : LJb.Sl (w.alloc (.cells cs 33)) (.slice (some ⟨w.heap.size, 0, none⟩) n n) l := by
  have := plain_jb.own_lit w cs 33 w.heap.size n l (Nat.le_refl _) (by rw [h]; exact all_jb w hw) hl (by unfold maxLen; omega)
  exact this.sl
theorem order_sl (u : Value) (l : List Jb) (w : World) (hu : LJb.Sl w u l) (hn : l.length ≤ 1000) : Calls Try.prog 17 #[u] w (RetJ (ordL l) w) := by
  obtain ⟨p, n, c, rfl, hl, _⟩ := hu
  exact order_v p n c l w hl (by rw [← hl.1]; exact hn)
/-- what is in order is a queue -/
theorem seen_none {S : List Jb} {x : Jb} : seenB S x = false ↔ ∀ y ∈ S, ¬ (y.i = x.i ∧ y.t = x.t) := by
  unfold seenB
  rw [decide_eq_false_iff_not]
  exact ⟨fun h y hy e => h ⟨y, hy, e⟩, fun h ⟨y, hy, e⟩ => h y hy e⟩
theorem pick_pair : ∀ (l S : List Jb), S.Pairwise (fun a b => ¬ (a.i = b.i ∧ a.t = b.t)) → (l.foldl pickS S).Pairwise (fun a b => ¬ (a.i = b.i ∧ a.t = b.t))
  | [], S, h => h
  | x :: l, S, h => pick_pair l _ (by
    unfold pickS
    split
    · split
      · exact h
      · rename_i hs
        rw [List.pairwise_append]
        refine ⟨h, by simp, fun a ha b hb => ?_⟩
        simp at hb
        subst hb
        exact seen_none.1 (by simpa using hs) a ha
    · exact h)
theorem right_of {L : List Jb} (h1 : AllMay L) (h2 : L.Pairwise (fun a b => aheadB a b = true ∧ ¬ (a.i = b.i ∧ a.t = b.t))) : RightP L := by
  rw [List.pairwise_iff_getElem] at h2
  intro k x hx
  obtain ⟨hk, rfl⟩ := List.getElem?_eq_some_iff.1 hx
  refine ⟨h1 _ (List.getElem_mem hk), seen_none.2 fun y hy => ?_, fun j y hj hy => ?_⟩
  · obtain ⟨j, hj, rfl⟩ := List.getElem_of_mem hy
    have hjk : j < k := by simp at hj; omega
    have := (h2 j k (by omega) hk hjk).2
    simpa using this
  · obtain ⟨hj2, rfl⟩ := List.getElem?_eq_some_iff.1 hy
    exact (h2 j k hj2 hk (by omega)).1
theorem ord_pair (l : List Jb) : (ordL l).Pairwise (fun a b => aheadB a b = true ∧ ¬ (a.i = b.i ∧ a.t = b.t)) := by
  have h1 := ordS_sorted (pickL l)
  have h3 : (ordL l).Pairwise (fun a b => ¬ (a.i = b.i ∧ a.t = b.t)) := by
    have : (pickL l).Pairwise (fun a b => ¬ (a.i = b.i ∧ a.t = b.t)) := pick_pair l [] List.Pairwise.nil
    exact (List.Perm.pairwise_iff (fun {x y} h e => h ⟨e.1.symm, e.2.symm⟩) (ordS_perm (pickL l))).2 this
  have h1' : (ordL l).Pairwise LeJ := h1
  refine (h1'.and h3).imp fun {a b} h => ⟨?_, h.2⟩
  cases e : aheadB a b with
  | true => rfl
  | false => exact absurd (ahead_anti e h.1).2 (fun e2 => h.2 ⟨e2.1, e2.2⟩)
theorem right_ord (l : List Jb) : RightP (ordL l) := right_of (fun a ha => pick_may l a (ord_mem.1 ha)) (ord_pair l)
set_option maxRecDepth 100000 in
set_option maxHeartbeats 4000000 in
theorem head_v (w : World) : Calls Try.prog 9 #[] w fun e w' => e = .returned (.bool true) ∧ Ext w w' := by
  have E4 : Hid (ordL [J 2 1 0 5, J 1 4 3 4, J 1 4 3 2, J 0 2 2 2] = [J 1 4 3 4, J 2 1 0 5]) := Lib.hid (by decide)
  have hz : Ext w w := Ext.refl _
  have hq : Ext w w := Ext.refl _
  go_enter Try.func9, Try.ntmps9
  go_wp2_with fail
  refine (job_any _ _ _ _ _).mono ?_
  rintro e w1 ⟨rfl, hx9⟩
  replace hz := Ext.trans hz (Ext.trans hq hx9)
  clear hx9 hq
  have hq : Ext w1 w1 := Ext.refl _
  go_wp2_with fail
  refine (job_any _ _ _ _ _).mono ?_
  rintro e w2 ⟨rfl, hx9⟩
  replace hz := Ext.trans hz (Ext.trans hq hx9)
  clear hx9 hq
  have hq : Ext w2 w2 := Ext.refl _
  go_wp2_with fail
  refine (job_any _ _ _ _ _).mono ?_
  rintro e w3 ⟨rfl, hx9⟩
  replace hz := Ext.trans hz (Ext.trans hq hx9)
  clear hx9 hq
  have hq : Ext w3 w3 := Ext.refl _
  go_wp2_with fail
  refine (job_any _ _ _ _ _).mono ?_
  rintro e w4 ⟨rfl, hx9⟩
  replace hz := Ext.trans hz (Ext.trans hq hx9)
  clear hx9 hq
  have hq : Ext w4 w4 := Ext.refl _
  have HLIT := Lib.hid (lit_sl w4 #[.int .i64 1, .int .i64 0, .int .i64 9, .int .i64 0, .int .i64 2, .int .i64 5, .int .i64 4, .int .i64 0, .int .i64 9, .int .i64 3, .int .i64 1, .int .i64 4, .int .i64 4, .int .i64 0, .int .i64 9, .int .i64 3, .int .i64 1, .int .i64 2, .int .i64 2, .int .i64 0, .int .i64 9, .int .i64 2, .int .i64 0, .int .i64 2] 4 [J 2 1 0 5, J 1 4 3 4, J 1 4 3 2, J 0 2 2 2] rfl (by intro x hx; simp at hx; rcases hx with rfl | rfl | rfl | rfl <;> exact wf_J (by decide) (by decide) (by decide) (by decide)) rfl (by decide))
  have hq2 : Ext w4 (w4.alloc (.cells #[.int .i64 1, .int .i64 0, .int .i64 9, .int .i64 0, .int .i64 2, .int .i64 5, .int .i64 4, .int .i64 0, .int .i64 9, .int .i64 3, .int .i64 1, .int .i64 4, .int .i64 4, .int .i64 0, .int .i64 9, .int .i64 3, .int .i64 1, .int .i64 2, .int .i64 2, .int .i64 0, .int .i64 9, .int .i64 2, .int .i64 0, .int .i64 2] 33)) := Ext.alloc _ _
  replace hq := hq2
  clear hq2
  go_wp2_with fail
  refine (order_sl _ _ _ HLIT.out (by decide)).mono ?_
  rintro e w5 ⟨⟨v1, rfl, hs⟩, hx9⟩
  replace hz := Ext.trans hz (Ext.trans hq hx9)
  clear hx9 hq
  have hq : Ext w5 w5 := Ext.refl _
  have HL : Hid (LJb.Sl w5 v1 [J 1 4 3 4, J 2 1 0 5]) := Lib.hid (E4.out ▸ hs)
  clear hs HLIT
  go_wp2_with fail
  refine (step_v _ _ 6 6 _ HL.out (by intro x hx; simp at hx; rcases hx with rfl | rfl <;> decide) (by decide) (by decide) (by decide)).mono ?_
  rintro e w6 ⟨⟨v2, v3, rfl, hs, hs2⟩, hx9⟩
  replace HL := Lib.hid (HL.out.ext hx9)
  replace hz := Ext.trans hz (Ext.trans hq hx9)
  clear hx9 hq
  have hq : Ext w6 w6 := Ext.refl _
  have e2 : stepL [J 1 4 3 4, J 2 1 0 5] 6 = ([J 2 1 0 3], [J 1 4 3 0]) := by decide
  rw [e2] at hs hs2
  have HA := Lib.hid hs
  have HB := Lib.hid hs2
  clear hs hs2 e2
  go_wp2_with fail
  refine (job_any _ _ _ _ _).mono ?_
  rintro e w7 ⟨rfl, hx9⟩
  replace HL := Lib.hid (HL.out.ext hx9)
  replace HA := Lib.hid (HA.out.ext hx9)
  replace HB := Lib.hid (HB.out.ext hx9)
  replace hz := Ext.trans hz (Ext.trans hq hx9)
  clear hx9 hq
  have hq : Ext w7 w7 := Ext.refl _
  have HLIT := Lib.hid (lit_sl w7 #[.int .i64 4, .int .i64 0, .int .i64 9, .int .i64 3, .int .i64 1, .int .i64 2] 1 [J 1 4 3 2] rfl (by intro x hx; simp at hx; subst hx; exact wf_J (by decide) (by decide) (by decide) (by decide)) rfl (by decide))
  have hq2 : Ext w7 (w7.alloc (.cells #[.int .i64 4, .int .i64 0, .int .i64 9, .int .i64 3, .int .i64 1, .int .i64 2] 33)) := Ext.alloc _ _
  replace HL := Lib.hid (HL.out.ext hq2)
  replace HA := Lib.hid (HA.out.ext hq2)
  replace HB := Lib.hid (HB.out.ext hq2)
  replace hq := hq2
  clear hq2
  go_wp2_with fail
  refine (renew_v _ _ _ _ _ HLIT.out HL.out (by decide) (by decide)).mono ?_
  rintro e w8 ⟨⟨v4, rfl, hs⟩, hx9⟩
  replace HL := Lib.hid (HL.out.ext hx9)
  replace HA := Lib.hid (HA.out.ext hx9)
  replace HB := Lib.hid (HB.out.ext hx9)
  replace hz := Ext.trans hz (Ext.trans hq hx9)
  clear hx9 hq
  have hq : Ext w8 w8 := Ext.refl _
  have e4 : renewL [J 1 4 3 2] [J 1 4 3 4, J 2 1 0 5] = [J 1 4 3 2, J 2 1 0 5] := by decide
  rw [e4] at hs
  have HN := Lib.hid hs
  clear hs e4 HLIT
  go_wp2_with fail
  refine (job_any _ _ _ _ _).mono ?_
  rintro e w9 ⟨rfl, hx9⟩
  replace HL := Lib.hid (HL.out.ext hx9)
  replace HA := Lib.hid (HA.out.ext hx9)
  replace HB := Lib.hid (HB.out.ext hx9)
  replace HN := Lib.hid (HN.out.ext hx9)
  replace hz := Ext.trans hz (Ext.trans hq hx9)
  clear hx9 hq
  have hq : Ext w9 w9 := Ext.refl _
  go_wp2_with fail
  refine (job_any _ _ _ _ _).mono ?_
  rintro e w10 ⟨rfl, hx9⟩
  replace HL := Lib.hid (HL.out.ext hx9)
  replace HA := Lib.hid (HA.out.ext hx9)
  replace HB := Lib.hid (HB.out.ext hx9)
  replace HN := Lib.hid (HN.out.ext hx9)
  replace hz := Ext.trans hz (Ext.trans hq hx9)
  clear hx9 hq
  have hq : Ext w10 w10 := Ext.refl _
  have HLIT := Lib.hid (lit_sl w10 #[.int .i64 4, .int .i64 0, .int .i64 9, .int .i64 3, .int .i64 1, .int .i64 4, .int .i64 1, .int .i64 0, .int .i64 9, .int .i64 0, .int .i64 2, .int .i64 5] 2 [J 1 4 3 4, J 2 1 0 5] rfl (by intro x hx; simp at hx; rcases hx with rfl | rfl <;> exact wf_J (by decide) (by decide) (by decide) (by decide)) rfl (by decide))
  have hq2 : Ext w10 (w10.alloc (.cells #[.int .i64 4, .int .i64 0, .int .i64 9, .int .i64 3, .int .i64 1, .int .i64 4, .int .i64 1, .int .i64 0, .int .i64 9, .int .i64 0, .int .i64 2, .int .i64 5] 33)) := Ext.alloc _ _
  replace HL := Lib.hid (HL.out.ext hq2)
  replace HA := Lib.hid (HA.out.ext hq2)
  replace HB := Lib.hid (HB.out.ext hq2)
  replace HN := Lib.hid (HN.out.ext hq2)
  replace hq := hq2
  clear hq2
  go_wp2_with fail
  refine (same_v _ _ _ _ _ HL.out HLIT.out).mono ?_
  rintro e w11 ⟨rfl, hx9⟩
  replace HL := Lib.hid (HL.out.ext hx9)
  replace HA := Lib.hid (HA.out.ext hx9)
  replace HB := Lib.hid (HB.out.ext hx9)
  replace HN := Lib.hid (HN.out.ext hx9)
  replace hz := Ext.trans hz (Ext.trans hq hx9)
  clear hx9 hq
  have hq : Ext w11 w11 := Ext.refl _
  rw [decide_eq_true (by decide)]
  clear HLIT
  go_wp2_with fail
  refine (job_any _ _ _ _ _).mono ?_
  rintro e w12 ⟨rfl, hx9⟩
  replace HL := Lib.hid (HL.out.ext hx9)
  replace HA := Lib.hid (HA.out.ext hx9)
  replace HB := Lib.hid (HB.out.ext hx9)
  replace HN := Lib.hid (HN.out.ext hx9)
  replace hz := Ext.trans hz (Ext.trans hq hx9)
  clear hx9 hq
  have hq : Ext w12 w12 := Ext.refl _
  have HLIT := Lib.hid (lit_sl w12 #[.int .i64 1, .int .i64 0, .int .i64 9, .int .i64 0, .int .i64 2, .int .i64 3] 1 [J 2 1 0 3] rfl (by intro x hx; simp at hx; subst hx; exact wf_J (by decide) (by decide) (by decide) (by decide)) rfl (by decide))
  have hq2 : Ext w12 (w12.alloc (.cells #[.int .i64 1, .int .i64 0, .int .i64 9, .int .i64 0, .int .i64 2, .int .i64 3] 33)) := Ext.alloc _ _
  replace HL := Lib.hid (HL.out.ext hq2)
  replace HA := Lib.hid (HA.out.ext hq2)
  replace HB := Lib.hid (HB.out.ext hq2)
  replace HN := Lib.hid (HN.out.ext hq2)
  replace hq := hq2
  clear hq2
  go_wp2_with fail
  refine (same_v _ _ _ _ _ HA.out HLIT.out).mono ?_
  rintro e w13 ⟨rfl, hx9⟩
  replace HL := Lib.hid (HL.out.ext hx9)
  replace HA := Lib.hid (HA.out.ext hx9)
  replace HB := Lib.hid (HB.out.ext hx9)
  replace HN := Lib.hid (HN.out.ext hx9)
  replace hz := Ext.trans hz (Ext.trans hq hx9)
  clear hx9 hq
  have hq : Ext w13 w13 := Ext.refl _
  rw [decide_eq_true (by decide)]
  clear HLIT
  go_wp2_with fail
  refine (job_any _ _ _ _ _).mono ?_
  rintro e w14 ⟨rfl, hx9⟩
  replace HL := Lib.hid (HL.out.ext hx9)
  replace HA := Lib.hid (HA.out.ext hx9)
  replace HB := Lib.hid (HB.out.ext hx9)
  replace HN := Lib.hid (HN.out.ext hx9)
  replace hz := Ext.trans hz (Ext.trans hq hx9)
  clear hx9 hq
  have hq : Ext w14 w14 := Ext.refl _
  have HLIT := Lib.hid (lit_sl w14 #[.int .i64 4, .int .i64 0, .int .i64 9, .int .i64 3, .int .i64 1, .int .i64 0] 1 [J 1 4 3 0] rfl (by intro x hx; simp at hx; subst hx; exact wf_J (by decide) (by decide) (by decide) (by decide)) rfl (by decide))
  have hq2 : Ext w14 (w14.alloc (.cells #[.int .i64 4, .int .i64 0, .int .i64 9, .int .i64 3, .int .i64 1, .int .i64 0] 33)) := Ext.alloc _ _
  replace HL := Lib.hid (HL.out.ext hq2)
  replace HA := Lib.hid (HA.out.ext hq2)
  replace HB := Lib.hid (HB.out.ext hq2)
  replace HN := Lib.hid (HN.out.ext hq2)
  replace hq := hq2
  clear hq2
  go_wp2_with fail
  refine (same_v _ _ _ _ _ HB.out HLIT.out).mono ?_
  rintro e w15 ⟨rfl, hx9⟩
  replace HL := Lib.hid (HL.out.ext hx9)
  replace HA := Lib.hid (HA.out.ext hx9)
  replace HB := Lib.hid (HB.out.ext hx9)
  replace HN := Lib.hid (HN.out.ext hx9)
  replace hz := Ext.trans hz (Ext.trans hq hx9)
  clear hx9 hq
  have hq : Ext w15 w15 := Ext.refl _
  rw [decide_eq_true (by decide)]
  clear HLIT
  go_wp2_with fail
  refine (steps_v _ [J 1 4 3 4, J 2 1 0 5] 4 _ HL.out (by intro x hx; simp at hx; rcases hx with rfl | rfl <;> decide) (by decide) (by decide)).mono ?_
  rintro e w16 ⟨rfl, hx9⟩
  replace HL := Lib.hid (HL.out.ext hx9)
  replace HA := Lib.hid (HA.out.ext hx9)
  replace HB := Lib.hid (HB.out.ext hx9)
  replace HN := Lib.hid (HN.out.ext hx9)
  replace hz := Ext.trans hz (Ext.trans hq hx9)
  clear hx9 hq
  have hq : Ext w16 w16 := Ext.refl _
  rw [(by decide : stepsI [J 1 4 3 4, J 2 1 0 5] 4 = 3)]
  go_wp2_with fail
  refine (steps_v _ [J 1 4 3 4, J 2 1 0 5] 0 _ HL.out (by intro x hx; simp at hx; rcases hx with rfl | rfl <;> decide) (by decide) (by decide)).mono ?_
  rintro e w17 ⟨rfl, hx9⟩
  replace HL := Lib.hid (HL.out.ext hx9)
  replace HA := Lib.hid (HA.out.ext hx9)
  replace HB := Lib.hid (HB.out.ext hx9)
  replace HN := Lib.hid (HN.out.ext hx9)
  replace hz := Ext.trans hz (Ext.trans hq hx9)
  clear hx9 hq
  have hq : Ext w17 w17 := Ext.refl _
  rw [(by decide : stepsI [J 1 4 3 4, J 2 1 0 5] 0 = -1)]
  go_wp2_with fail
  refine (steps_v _ [] 0 _ (Lay.Sl.nil _ _) (by intro x hx; simp at hx) (by decide) (by decide)).mono ?_
  rintro e w18 ⟨rfl, hx9⟩
  replace HL := Lib.hid (HL.out.ext hx9)
  replace HA := Lib.hid (HA.out.ext hx9)
  replace HB := Lib.hid (HB.out.ext hx9)
  replace HN := Lib.hid (HN.out.ext hx9)
  replace hz := Ext.trans hz (Ext.trans hq hx9)
  clear hx9 hq
  have hq : Ext w18 w18 := Ext.refl _
  rw [(by decide : stepsI [] 0 = 0)]
  go_wp2_with fail
  refine (job_any _ _ _ _ _).mono ?_
  rintro e w19 ⟨rfl, hx9⟩
  replace HL := Lib.hid (HL.out.ext hx9)
  replace HA := Lib.hid (HA.out.ext hx9)
  replace HB := Lib.hid (HB.out.ext hx9)
  replace HN := Lib.hid (HN.out.ext hx9)
  replace hz := Ext.trans hz (Ext.trans hq hx9)
  clear hx9 hq
  have hq : Ext w19 w19 := Ext.refl _
  go_wp2_with fail
  refine (job_any _ _ _ _ _).mono ?_
  rintro e w20 ⟨rfl, hx9⟩
  replace HL := Lib.hid (HL.out.ext hx9)
  replace HA := Lib.hid (HA.out.ext hx9)
  replace HB := Lib.hid (HB.out.ext hx9)
  replace HN := Lib.hid (HN.out.ext hx9)
  replace hz := Ext.trans hz (Ext.trans hq hx9)
  clear hx9 hq
  have hq : Ext w20 w20 := Ext.refl _
  have HLIT := Lib.hid (lit_sl w20 #[.int .i64 4, .int .i64 0, .int .i64 9, .int .i64 3, .int .i64 1, .int .i64 2, .int .i64 1, .int .i64 0, .int .i64 9, .int .i64 0, .int .i64 2, .int .i64 5] 2 [J 1 4 3 2, J 2 1 0 5] rfl (by intro x hx; simp at hx; rcases hx with rfl | rfl <;> exact wf_J (by decide) (by decide) (by decide) (by decide)) rfl (by decide))
  have hq2 : Ext w20 (w20.alloc (.cells #[.int .i64 4, .int .i64 0, .int .i64 9, .int .i64 3, .int .i64 1, .int .i64 2, .int .i64 1, .int .i64 0, .int .i64 9, .int .i64 0, .int .i64 2, .int .i64 5] 33)) := Ext.alloc _ _
  replace HL := Lib.hid (HL.out.ext hq2)
  replace HA := Lib.hid (HA.out.ext hq2)
  replace HB := Lib.hid (HB.out.ext hq2)
  replace HN := Lib.hid (HN.out.ext hq2)
  replace hq := hq2
  clear hq2
  go_wp2_with fail
  refine (same_v _ _ _ _ _ HN.out HLIT.out).mono ?_
  rintro e w21 ⟨rfl, hx9⟩
  replace HL := Lib.hid (HL.out.ext hx9)
  replace HA := Lib.hid (HA.out.ext hx9)
  replace HB := Lib.hid (HB.out.ext hx9)
  replace HN := Lib.hid (HN.out.ext hx9)
  replace hz := Ext.trans hz (Ext.trans hq hx9)
  clear hx9 hq
  have hq : Ext w21 w21 := Ext.refl _
  rw [decide_eq_true (by decide)]
  clear HLIT
  go_wp2_with fail
  refine (right_v _ _ _ HL.out (by decide)).mono ?_
  rintro e w22 ⟨⟨b1, rfl, hb1⟩, hx9⟩
  replace HL := Lib.hid (HL.out.ext hx9)
  replace HA := Lib.hid (HA.out.ext hx9)
  replace HB := Lib.hid (HB.out.ext hx9)
  replace HN := Lib.hid (HN.out.ext hx9)
  replace hz := Ext.trans hz (Ext.trans hq hx9)
  clear hx9 hq
  have hq : Ext w22 w22 := Ext.refl _
  obtain rfl : b1 = true := hb1.2 (E4.out ▸ right_ord _)
  clear hb1
  go_wp2_with fail
  refine (job_any _ _ _ _ _).mono ?_
  rintro e w23 ⟨rfl, hx9⟩
  replace HL := Lib.hid (HL.out.ext hx9)
  replace HA := Lib.hid (HA.out.ext hx9)
  replace HB := Lib.hid (HB.out.ext hx9)
  replace HN := Lib.hid (HN.out.ext hx9)
  replace hz := Ext.trans hz (Ext.trans hq hx9)
  clear hx9 hq
  have hq : Ext w23 w23 := Ext.refl _
  go_wp2_with fail
  refine (job_any _ _ _ _ _).mono ?_
  rintro e w24 ⟨rfl, hx9⟩
  replace HL := Lib.hid (HL.out.ext hx9)
  replace HA := Lib.hid (HA.out.ext hx9)
  replace HB := Lib.hid (HB.out.ext hx9)
  replace HN := Lib.hid (HN.out.ext hx9)
  replace hz := Ext.trans hz (Ext.trans hq hx9)
  clear hx9 hq
  have hq : Ext w24 w24 := Ext.refl _
  have HLIT := Lib.hid (lit_sl w24 #[.int .i64 1, .int .i64 0, .int .i64 9, .int .i64 0, .int .i64 2, .int .i64 5, .int .i64 4, .int .i64 0, .int .i64 9, .int .i64 3, .int .i64 1, .int .i64 4] 2 [J 2 1 0 5, J 1 4 3 4] rfl (by intro x hx; simp at hx; rcases hx with rfl | rfl <;> exact wf_J (by decide) (by decide) (by decide) (by decide)) rfl (by decide))
  have hq2 : Ext w24 (w24.alloc (.cells #[.int .i64 1, .int .i64 0, .int .i64 9, .int .i64 0, .int .i64 2, .int .i64 5, .int .i64 4, .int .i64 0, .int .i64 9, .int .i64 3, .int .i64 1, .int .i64 4] 33)) := Ext.alloc _ _
  replace HL := Lib.hid (HL.out.ext hq2)
  replace HA := Lib.hid (HA.out.ext hq2)
  replace HB := Lib.hid (HB.out.ext hq2)
  replace HN := Lib.hid (HN.out.ext hq2)
  replace hq := hq2
  clear hq2
  go_wp2_with fail
  refine (right_v _ _ _ HLIT.out (by decide)).mono ?_
  rintro e w25 ⟨⟨b2, rfl, hb2⟩, hx9⟩
  replace HL := Lib.hid (HL.out.ext hx9)
  replace HA := Lib.hid (HA.out.ext hx9)
  replace HB := Lib.hid (HB.out.ext hx9)
  replace HN := Lib.hid (HN.out.ext hx9)
  replace hz := Ext.trans hz (Ext.trans hq hx9)
  clear hx9 hq
  have hq : Ext w25 w25 := Ext.refl _
  obtain rfl : b2 = false := by
    cases b2
    · rfl
    · have := (hb2.1 rfl) 1 (J 1 4 3 4) rfl
      have := this.2.2 0 (J 2 1 0 5) rfl rfl
      exact absurd this (by decide)
  go_wp2
  go_ret
  exact ⟨rfl, hz⟩
end Go.Proofs.Ytlbpgaoindkgbaa.Me
