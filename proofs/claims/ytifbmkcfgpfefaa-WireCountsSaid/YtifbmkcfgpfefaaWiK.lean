/- Messages: the code's Send. -/
import Derived.Test.YtifbmkcfgpfefaaWiG
import Derived.Test.YtifbmkcfgpfefaaWiJ
import Derived.Test.YtifbmkcfgpfefaaWiC
namespace Go.Proofs.Ytifbmkcfgpfefaa.Wi
open Go.RowKit Go.Proofs.Ytifbmkcfgpfefaa
set_option linter.unusedVariables false

/-- what is under way when a message is sent -/
def sendS (l : List Mg) (x : Mg) (f : Int) : List Mg :=
  if 200 ≤ l.length then l else if f = 1 then l ++ [x] else if f = 3 then l ++ List.replicate (min (200 - l.length) 2) x
  else if f = 4 then l.take (l.length - 1) ++ x :: l.drop (l.length - 1) else l
theorem flat2 (l m : List Mg) : [l, m].flatten = l ++ m := by simp
/-- two rows, in a row -/
theorem sls_two {w w1 : World} {u v : Value} {l m : List Mg} (t : TypeId) (hu : LMg.Sl w1 u l) (hv : LMg.Sl w1 v m) (h : Ext (w.alloc (.cells #[u, v] t)) w1) : LMg.slice.Row w1 (some ⟨w.heap.size, 0, none⟩) 2 [l, m] :=
  Lay.Row.lit h (Lay.all_sl2 hu hv) rfl rfl (by omega)
set_option maxRecDepth 100000 in
set_option maxHeartbeats 8000000 in
theorem send_v (p : Option Addr) (n c : Nat) (l : List Mg) (x : Mg) (p1 : Option Addr) (n1 c1 : Nat) (q1 : Option Addr) (m1 d1 : Nat) (f : Int) (w : World) (hl : LMg.Sl w (.slice p n c) l) (hx0 : MgC w x p1 n1 c1 q1 m1 d1) (hb : n ≤ 1000) :
    Calls Try.prog 14 #[.slice p n c, .agg #[.int .i64 x.a, .int .i64 x.b, .int .i64 x.k, .slice p1 n1 c1, .slice q1 m1 d1], .int .i64 f] w fun e w' => (∃ v, e = .returned v ∧ LMg.Sl w' v (sendS l x f)) ∧ Ext w w' := by
  have hln : l.length = n := (sl_parts hl).1.1
  have hn63 : n ≤ 9223372036854775807 := (sl_parts hl).1.2.1
  have HL := Lib.hid hl
  have HX0 := Lib.hid hx0
  have HLN := Lib.hid hln
  have HNB := Lib.hid hb
  have hxA : Ext w (w.alloc (.cells #[.int .i64 x.a, .int .i64 x.b, .int .i64 x.k, .slice p1 n1 c1, .slice q1 m1 d1] 26)) := Ext.alloc _ _
  have HXA := Lib.hid hxA
  have HXM := Lib.hid (hx0.ext hxA)
  obtain ⟨g0, g1, g2, g3, g4⟩ := box5 (Ext.refl (w.alloc (.cells #[.int .i64 x.a, .int .i64 x.b, .int .i64 x.k, .slice p1 n1 c1, .slice q1 m1 d1] 26)))
  have HBX : Hid (∀ w', Ext (w.alloc (.cells #[.int .i64 x.a, .int .i64 x.b, .int .i64 x.k, .slice p1 n1 c1, .slice q1 m1 d1] 26)) w' → w'.cell? ⟨w.heap.size, 0, none⟩ = some (.int .i64 x.a) ∧ w'.cell? ⟨w.heap.size, 1, none⟩ = some (.int .i64 x.b) ∧ w'.cell? ⟨w.heap.size, 2, none⟩ = some (.int .i64 x.k) ∧ w'.cell? ⟨w.heap.size, 3, none⟩ = some (.slice p1 n1 c1) ∧ w'.cell? ⟨w.heap.size, 4, none⟩ = some (.slice q1 m1 d1)) := Lib.hid fun w' h => box5 h
  clear hl hx0 hln g0 g1 g2 g3 g4 hb
  by_cases hful : 200 ≤ n
  · have h1 : (200 : Int) - (n : Int) ≤ 0 := by omega
    have hs : sendS l x f = l := by unfold sendS; rw [if_pos (by rw [HLN.out]; exact hful)]
    have HS := Lib.hid hs
    clear hs hxA
    go_enter Try.func14, Try.ntmps14
    go_wp2
    go_ret
    exact ⟨⟨_, rfl, by rw [HS.out]; exact HL.out.ext HXA.out⟩, HXA.out⟩
  · have h1 : ¬ (200 : Int) - (n : Int) ≤ 0 := by omega
    have h1b : ¬ (200 : Int) ≤ (n : Int) := by omega
    by_cases f1 : f = 1
    · subst f1
      have hs : sendS l x 1 = l ++ [x] := by unfold sendS; rw [if_neg (by rw [HLN.out]; exact hful), if_pos rfl]
      have HS := Lib.hid hs
      have hx2 : Ext (w.alloc (.cells #[.int .i64 x.a, .int .i64 x.b, .int .i64 x.k, .slice p1 n1 c1, .slice q1 m1 d1] 26)) ((w.alloc (.cells #[.int .i64 x.a, .int .i64 x.b, .int .i64 x.k, .slice p1 n1 c1, .slice q1 m1 d1] 26)).alloc (.cells #[.int .i64 x.a, .int .i64 x.b, .int .i64 x.k, .slice p1 n1 c1, .slice q1 m1 d1] 26)) := Ext.alloc _ _
      have hrow : LMg.Sl ((w.alloc (.cells #[.int .i64 x.a, .int .i64 x.b, .int .i64 x.k, .slice p1 n1 c1, .slice q1 m1 d1] 26)).alloc (.cells #[.int .i64 x.a, .int .i64 x.b, .int .i64 x.k, .slice p1 n1 c1, .slice q1 m1 d1] 26)) (.slice (some ⟨w.heap.size + 1, 0, none⟩) 1 1) [x] := by
        have h := Lay.Sl.mk (mg_one 26 (HXM.out.ext hx2) (Ext.refl _)) (Nat.le_refl 1) (by omega) (fun _ => ⟨_, _, rfl⟩)
        simpa using h
      have hx3 : Ext ((w.alloc (.cells #[.int .i64 x.a, .int .i64 x.b, .int .i64 x.k, .slice p1 n1 c1, .slice q1 m1 d1] 26)).alloc (.cells #[.int .i64 x.a, .int .i64 x.b, .int .i64 x.k, .slice p1 n1 c1, .slice q1 m1 d1] 26)) (((w.alloc (.cells #[.int .i64 x.a, .int .i64 x.b, .int .i64 x.k, .slice p1 n1 c1, .slice q1 m1 d1] 26)).alloc (.cells #[.int .i64 x.a, .int .i64 x.b, .int .i64 x.k, .slice p1 n1 c1, .slice q1 m1 d1] 26)).alloc (.cells #[.slice p n c, .slice (some ⟨w.heap.size + 1, 0, none⟩) 1 1] 22)) := Ext.alloc _ _
      have hx03 : Ext w (((w.alloc (.cells #[.int .i64 x.a, .int .i64 x.b, .int .i64 x.k, .slice p1 n1 c1, .slice q1 m1 d1] 26)).alloc (.cells #[.int .i64 x.a, .int .i64 x.b, .int .i64 x.k, .slice p1 n1 c1, .slice q1 m1 d1] 26)).alloc (.cells #[.slice p n c, .slice (some ⟨w.heap.size + 1, 0, none⟩) 1 1] 22)) := Ext.trans hxA (Ext.trans hx2 hx3)
      have hcat := concat_any _ 2 2 [l, [x]] _ (sls_two (w := (w.alloc (.cells #[.int .i64 x.a, .int .i64 x.b, .int .i64 x.k, .slice p1 n1 c1, .slice q1 m1 d1] 26)).alloc (.cells #[.int .i64 x.a, .int .i64 x.b, .int .i64 x.k, .slice p1 n1 c1, .slice q1 m1 d1] 26)) 22 (HL.out.ext hx03) (hrow.ext hx3) (Ext.refl _)) (by have := HLN.out; have := HNB.out; simp [lens]; omega)
      simp only [World.size_alloc, flat2] at hcat
      have HC := Lib.hid hcat
      have HX03 := Lib.hid hx03
      clear hs hcat hx2 hrow hx3 hx03 hxA
      go_enter Try.func14, Try.ntmps14
      go_wp2_with fail
      refine HC.out.mono ?_
      rintro e w5 ⟨⟨v, rfl, ho⟩, hx5⟩
      have HO := Lib.hid ho
      clear ho
      go_wp2
      go_ret
      exact ⟨⟨_, rfl, by rw [HS.out]; exact HO.out.sl⟩, Ext.trans HX03.out hx5⟩
    · have hf1 : (f == 1) = false := by simp [f1]
      by_cases f3 : f = 3
      · subst f3
        have hs : sendS l x 3 = l ++ List.replicate (min (200 - n) 2) x := by unfold sendS; rw [if_neg (by rw [HLN.out]; exact hful), if_neg (by decide), if_pos rfl, HLN.out]
        have hx2 : Ext (w.alloc (.cells #[.int .i64 x.a, .int .i64 x.b, .int .i64 x.k, .slice p1 n1 c1, .slice q1 m1 d1] 26)) ((w.alloc (.cells #[.int .i64 x.a, .int .i64 x.b, .int .i64 x.k, .slice p1 n1 c1, .slice q1 m1 d1] 26)).alloc (.cells #[.int .i64 x.a, .int .i64 x.b, .int .i64 x.k, .slice p1 n1 c1, .slice q1 m1 d1] 26)) := Ext.alloc _ _
        have hbox : ((w.alloc (.cells #[.int .i64 x.a, .int .i64 x.b, .int .i64 x.k, .slice p1 n1 c1, .slice q1 m1 d1] 26)).alloc (.cells #[.int .i64 x.a, .int .i64 x.b, .int .i64 x.k, .slice p1 n1 c1, .slice q1 m1 d1] 26)).heap[w.heap.size + 1]? = some (.cells #[.int .i64 x.a, .int .i64 x.b, .int .i64 x.k, .slice p1 n1 c1, .slice q1 m1 d1] 26 (0, 0)) := by
          have h := heap_alloc_new (w.alloc (.cells #[.int .i64 x.a, .int .i64 x.b, .int .i64 x.k, .slice p1 n1 c1, .slice q1 m1 d1] 26)) (.cells #[.int .i64 x.a, .int .i64 x.b, .int .i64 x.k, .slice p1 n1 c1, .slice q1 m1 d1] 26)
          simpa using h
        have HX02 := Lib.hid (Ext.trans hxA hx2)
        by_cases h99 : n = 199
        · subst h99
          rw [show min (200 - 199) 2 = 1 from rfl] at hs
          have HR := Lib.hid (repeat_1 x p1 n1 c1 q1 m1 d1 (w.heap.size + 1) w _ HX0.out (Ext.trans hxA hx2) hbox)
          have HS := Lib.hid hs
          clear hs hx2 hbox hxA
          go_enter Try.func14, Try.ntmps14
          go_wp2_with fail
          refine HR.out.mono ?_
          rintro e w4 ⟨⟨v4, rfl, ho4⟩, hx4⟩
          obtain ⟨p4, n4, c4, rfl⟩ := own_form ho4
          have hx04 : Ext w w4 := Ext.trans HX02.out hx4
          have hcat := concat_any _ 2 2 [l, List.replicate 1 x] _ (sls_two (w := w4) 22 (HL.out.ext (Ext.trans hx04 (Ext.alloc _ _))) (ho4.sl.ext (Ext.alloc _ _)) (Ext.refl _)) (by have := HLN.out; have := HNB.out; simp [lens]; omega)
          simp only [flat2] at hcat
          have HC := Lib.hid hcat
          have HX04 := Lib.hid (Ext.trans hx04 (Ext.alloc w4 (.cells #[.slice p 199 c, .slice p4 n4 c4] 22)))
          clear hcat hx04 ho4 hx4
          go_wp2_with fail
          refine HC.out.mono ?_
          rintro e w5 ⟨⟨v, rfl, ho⟩, hx5⟩
          have HO := Lib.hid ho
          clear ho
          go_wp2
          go_ret
          exact ⟨⟨_, rfl, by rw [HS.out]; exact HO.out.sl⟩, Ext.trans HX04.out hx5⟩
        · have hmin : min ((200 : Int) - (n : Int)) 2 = 2 := by omega
          have hmin2 : min (200 - n) 2 = 2 := by omega
          rw [hmin2] at hs
          clear hmin2
          have hmin3 : (if (2 : Int) < 200 - (n : Int) then (2 : Int) else 200 - (n : Int)) = 2 := by split <;> omega
          have HR := Lib.hid (repeat_2 x p1 n1 c1 q1 m1 d1 (w.heap.size + 1) w _ HX0.out (Ext.trans hxA hx2) hbox)
          have HS := Lib.hid hs
          clear hs hx2 hbox hxA
          go_enter Try.func14, Try.ntmps14
          go_wp2_with fail
          refine HR.out.mono ?_
          rintro e w4 ⟨⟨v4, rfl, ho4⟩, hx4⟩
          obtain ⟨p4, n4, c4, rfl⟩ := own_form ho4
          have hx04 : Ext w w4 := Ext.trans HX02.out hx4
          have hcat := concat_any _ 2 2 [l, List.replicate 2 x] _ (sls_two (w := w4) 22 (HL.out.ext (Ext.trans hx04 (Ext.alloc _ _))) (ho4.sl.ext (Ext.alloc _ _)) (Ext.refl _)) (by have := HLN.out; have := HNB.out; simp [lens]; omega)
          simp only [flat2] at hcat
          have HC := Lib.hid hcat
          have HX04 := Lib.hid (Ext.trans hx04 (Ext.alloc w4 (.cells #[.slice p n c, .slice p4 n4 c4] 22)))
          clear hcat hx04 ho4 hx4
          go_wp2_with fail
          refine HC.out.mono ?_
          rintro e w5 ⟨⟨v, rfl, ho⟩, hx5⟩
          have HO := Lib.hid ho
          clear ho
          go_wp2
          go_ret
          exact ⟨⟨_, rfl, by rw [HS.out]; exact HO.out.sl⟩, Ext.trans HX04.out hx5⟩
      · have hf3 : (f == 3) = false := by simp [f3]
        by_cases f4 : f = 4
        · subst f4
          obtain ⟨D, hD⟩ : ∃ D, n - 1 = D := ⟨_, rfl⟩
          have hDI : max ((n : Int) - 1) 0 = (D : Int) := by omega
          have hDJ : (if (n : Int) - 1 < 0 then 0 else (n : Int) - 1) = (D : Int) := by split <;> omega
          have hw1 : IntKind.i64.wrap ((n : Int) - 1) = (n : Int) - 1 := IntWalk.i64_in _ (by omega)
          have hs : sendS l x 4 = l.take D ++ x :: l.drop D := by unfold sendS; rw [if_neg (by rw [HLN.out]; exact hful), if_neg (by decide), if_neg (by decide), if_pos rfl, HLN.out, hD]
          have HS := Lib.hid hs
          have HDN : Hid (D ≤ n) := Lib.hid (by omega)
          clear hs hxA hD
          go_enter Try.func14, Try.ntmps14
          go_wp2
          refine wp_region_held_drew (S := (fun w' : World => w'.cell? ⟨w.heap.size, 0, none⟩ = some (.int .i64 x.a) ∧ w'.cell? ⟨w.heap.size, 1, none⟩ = some (.int .i64 x.b) ∧ w'.cell? ⟨w.heap.size, 2, none⟩ = some (.int .i64 x.k) ∧ w'.cell? ⟨w.heap.size, 3, none⟩ = some (.slice p1 n1 c1) ∧ w'.cell? ⟨w.heap.size, 4, none⟩ = some (.slice q1 m1 d1))) (by kernel_rfl) (HBX.out _ (Ext.drew (Ext.refl _))) (fun _ => ?_)
          obtain ⟨Wd, hWd⟩ : ∃ Wd, (w.alloc (.cells #[.int .i64 x.a, .int .i64 x.b, .int .i64 x.k, .slice p1 n1 c1, .slice q1 m1 d1] 26)).drew = Wd := ⟨_, rfl⟩
          have hxd : Ext (w.alloc (.cells #[.int .i64 x.a, .int .i64 x.b, .int .i64 x.k, .slice p1 n1 c1, .slice q1 m1 d1] 26)) Wd := by rw [← hWd]; exact Ext.drew (Ext.refl _)
          have HXD := Lib.hid hxd
          rw [hWd]
          clear hWd hxd
          refine wpAnyH_take (i := 0) (oi := ⟨some 37, _, _, _, _, _⟩) (v := .slice p n c) rfl (by kernel_rfl) (by kernel_rfl) (by kernel_rfl) (fun _ _ _ h => h) (Or.inl ⟨by rfl, ?_⟩) (HBX.out _ HXD.out) ?_
          · rintro w' ⟨t1, t2, t3, t4, t5⟩
            go_simp
          try simp only [Act.put, List.setIfInBounds_toArray, List.set_cons_zero, List.set_cons_succ]
          refine wpAnyH_take (i := 2) (oi := ⟨some 39, _, _, _, _, _⟩) (v := .slice p n c) rfl (by kernel_rfl) (by kernel_rfl) (by kernel_rfl) (fun _ _ _ h => h) (Or.inl ⟨by rfl, ?_⟩) (HBX.out _ HXD.out) ?_
          · rintro w' ⟨t1, t2, t3, t4, t5⟩
            go_simp
          try simp only [Act.put, List.setIfInBounds_toArray, List.set_cons_zero, List.set_cons_succ]
          refine wpAnyH_take (i := 3) (oi := ⟨some 40, _, _, _, _, _⟩) (v := .int .i64 (n : Int)) rfl (by kernel_rfl) (by kernel_rfl) (by kernel_rfl) (fun _ _ _ h => h) (Or.inl ⟨by rfl, ?_⟩) (HBX.out _ HXD.out) ?_
          · rintro w' ⟨t1, t2, t3, t4, t5⟩
            go_simp
          try simp only [Act.put, List.setIfInBounds_toArray, List.set_cons_zero, List.set_cons_succ]
          refine wpAnyH_take (i := 4) (oi := ⟨some 41, _, _, _, _, _⟩) (v := .int .i64 ((n : Int) - 1)) rfl (by kernel_rfl) (by kernel_rfl) (by kernel_rfl) (fun _ _ _ h => h) (Or.inl ⟨by rfl, ?_⟩) (HBX.out _ HXD.out) ?_
          · rintro w' ⟨t1, t2, t3, t4, t5⟩
            go_simp
          try simp only [Act.put, List.setIfInBounds_toArray, List.set_cons_zero, List.set_cons_succ]
          refine wpAnyH_take (i := 5) (oi := ⟨some 42, _, _, _, _, _⟩) (v := .int .i64 (D : Int)) rfl (by kernel_rfl) (by kernel_rfl) (by kernel_rfl) (fun _ _ _ h => h) (Or.inl ⟨by rfl, ?_⟩) (HBX.out _ HXD.out) ?_
          · rintro w' ⟨t1, t2, t3, t4, t5⟩
            go_simp
          try simp only [Act.put, List.setIfInBounds_toArray, List.set_cons_zero, List.set_cons_succ]
          refine wpAnyH_take (i := 6) (oi := ⟨some 43, _, _, _, _, _⟩) (v := .agg #[.int .i64 x.a, .int .i64 x.b, .int .i64 x.k, .slice p1 n1 c1, .slice q1 m1 d1]) rfl (by kernel_rfl) (by kernel_rfl) (by kernel_rfl) (fun _ _ _ h => h) (Or.inl ⟨by rfl, ?_⟩) (HBX.out _ HXD.out) ?_
          · rintro w' ⟨t1, t2, t3, t4, t5⟩
            go_simp
          try simp only [Act.put, List.setIfInBounds_toArray, List.set_cons_zero, List.set_cons_succ]
          refine wpAnyH_ready (rs := [1, 7]) (by kernel_rfl) (by simp) ?_
          refine AllReadyH.cons (o := ⟨some 38, .call { callee := .value (.func 26), args := #[.tmp 37], argTypes := #[22] }, _, _, _, _⟩) rfl (fun K hK => ?_) (AllReadyH.cons (o := ⟨some 44, .buildSlice 22 1 #[(0, .tmp 43)], _, _, _, _⟩) rfl (fun K hK => ?_) AllReadyH.nil)
          · go_simp
            refine (clone_v _ l Wd (HL.out.ext (Ext.trans HXA.out HXD.out)) (by have := HLN.out; have := HNB.out; omega)).mono ?_
            rintro e w7 ⟨⟨v7, rfl, ho7⟩, hx7⟩
            obtain ⟨p7, n7, c7, rfl⟩ := own_form ho7
            have HO7 := Lib.hid ho7
            have HX7 := Lib.hid (Ext.trans HXD.out hx7)
            have HX7s : Hid (Wd.heap.size ≤ w7.heap.size) := Lib.hid hx7.size
            clear ho7 hx7
            go_wp2_with fail
            refine hK.out _ _ (HBX.out _ HX7.out) (fun _ => ?_)
            clear hK K
            try simp only [Act.put, List.setIfInBounds_toArray, List.set_cons_zero, List.set_cons_succ]
            refine wpAnyH_ready (rs := [7]) (by kernel_rfl) (by simp) ?_
            refine AllReadyH.cons (o := ⟨some 44, .buildSlice 22 1 #[(0, .tmp 43)], _, _, _, _⟩) rfl (fun K hK => ?_) AllReadyH.nil
            go_simp
            have hx8 : Ext (w.alloc (.cells #[.int .i64 x.a, .int .i64 x.b, .int .i64 x.k, .slice p1 n1 c1, .slice q1 m1 d1] 26)) (w7.alloc (.cells #[.int .i64 x.a, .int .i64 x.b, .int .i64 x.k, .slice p1 n1 c1, .slice q1 m1 d1] 26)) := Ext.trans HX7.out (Ext.alloc _ _)
            have HX8 := Lib.hid hx8
            have WDSZ : Hid (Wd.heap.size ≤ (w7.alloc (.cells #[.int .i64 x.a, .int .i64 x.b, .int .i64 x.k, .slice p1 n1 c1, .slice q1 m1 d1] 26)).heap.size) := Lib.hid (by have := HX7s.out; simp; omega)
            have HB8 := Lib.hid (heap_alloc_new w7 (.cells #[.int .i64 x.a, .int .i64 x.b, .int .i64 x.k, .slice p1 n1 c1, .slice q1 m1 d1] 26))
            have HO8 := Lib.hid (HO7.out.ext (Ext.alloc w7 (.cells #[.int .i64 x.a, .int .i64 x.b, .int .i64 x.k, .slice p1 n1 c1, .slice q1 m1 d1] 26)))
            have HLT : Hid (∀ k, (Value.slice p7 n7 c7).ownBlock = some k → (w.alloc (.cells #[.int .i64 x.a, .int .i64 x.b, .int .i64 x.k, .slice p1 n1 c1, .slice q1 m1 d1] 26)).heap.size ≤ k) := Lib.hid (fun k hk => by have h1 := (HO7.out.lt k hk).1; have h2 := HXD.out.size; omega)
            have HNE : Hid ((Value.slice p7 n7 c7).ownBlock ≠ some w7.heap.size) := Lib.hid (fun e => by have := (HO7.out.lt _ e).2; omega)
            refine hK.out _ _ (HBX.out _ hx8) (fun _ => ?_)
            clear hK K hx8
            try simp only [Act.put, List.setIfInBounds_toArray, List.set_cons_zero, List.set_cons_succ]
            refine wpAnyH_ready (rs := [8]) (by kernel_rfl) (by simp) ?_
            refine AllReadyH.cons (o := ⟨some 45, .call { callee := .value (.func 29), args := #[.tmp 38, .tmp 42, .tmp 44], argTypes := #[22, 3, 22] }, _, _, _, _⟩) rfl (fun K hK => ?_) AllReadyH.nil
            go_simp
            refine (insert_v _ l D x p1 n1 c1 q1 m1 d1 Wd.heap.size w7.heap.size w (w7.alloc (.cells #[.int .i64 x.a, .int .i64 x.b, .int .i64 x.k, .slice p1 n1 c1, .slice q1 m1 d1] 26)) HB8.out HNE.out HX0.out (Ext.trans HXA.out HX8.out) (Ext.trans HXA.out HXD.out).size HO8.out (by rw [HLN.out]; exact HDN.out) (by rw [HLN.out]; exact HNB.out) WDSZ.out).mono ?_

            rintro e w9 ⟨⟨v9, rfl, ho9⟩, hg9⟩
            obtain ⟨p9, n9, c9, rfl⟩ := own_form ho9
            have HO9 := Lib.hid ho9
            have hx9 : Ext (w.alloc (.cells #[.int .i64 x.a, .int .i64 x.b, .int .i64 x.k, .slice p1 n1 c1, .slice q1 m1 d1] 26)) w9 := Lay.grown_old HX8.out (fun k hk => HLT.out k hk) hg9
            have HX9 := Lib.hid hx9
            clear ho9 hg9 hx9
            go_wp2_with fail
            refine hK.out _ _ (HBX.out _ HX9.out) (fun _ => ?_)
            clear hK K
            try simp only [Act.put, List.setIfInBounds_toArray, List.set_cons_zero, List.set_cons_succ]
            refine wpAnyH_take (i := 9) (oi := ⟨some 6, _, _, _, _, _⟩) (v := .slice p9 n9 c9) rfl (by kernel_rfl) (by kernel_rfl) (by kernel_rfl) (fun _ _ _ h => h) (Or.inl ⟨by rfl, ?_⟩) (HBX.out _ HX9.out) ?_
            · rintro w' ⟨t1, t2, t3, t4, t5⟩
              go_simp
            try simp only [Act.put, List.setIfInBounds_toArray, List.set_cons_zero, List.set_cons_succ]
            refine wpAnyH_done (by kernel_rfl) ?_ _
            go_wp2
            go_ret
            exact ⟨⟨_, rfl, by rw [HS.out]; exact HO9.out.sl⟩, Ext.trans HXA.out HX9.out⟩
          · go_simp
            have hx6 : Ext (w.alloc (.cells #[.int .i64 x.a, .int .i64 x.b, .int .i64 x.k, .slice p1 n1 c1, .slice q1 m1 d1] 26)) (Wd.alloc (.cells #[.int .i64 x.a, .int .i64 x.b, .int .i64 x.k, .slice p1 n1 c1, .slice q1 m1 d1] 26)) := Ext.trans HXD.out (Ext.alloc _ _)
            have HX6 := Lib.hid hx6
            have HB6 := Lib.hid (heap_alloc_new Wd (.cells #[.int .i64 x.a, .int .i64 x.b, .int .i64 x.k, .slice p1 n1 c1, .slice q1 m1 d1] 26))
            refine hK.out _ _ (HBX.out _ hx6) (fun _ => ?_)
            clear hK K hx6
            try simp only [Act.put, List.setIfInBounds_toArray, List.set_cons_zero, List.set_cons_succ]
            refine wpAnyH_ready (rs := [1]) (by kernel_rfl) (by simp) ?_
            refine AllReadyH.cons (o := ⟨some 38, .call { callee := .value (.func 26), args := #[.tmp 37], argTypes := #[22] }, _, _, _, _⟩) rfl (fun K hK => ?_) AllReadyH.nil
            go_simp
            refine (clone_v _ l (Wd.alloc (.cells #[.int .i64 x.a, .int .i64 x.b, .int .i64 x.k, .slice p1 n1 c1, .slice q1 m1 d1] 26)) (HL.out.ext (Ext.trans HXA.out HX6.out)) (by have := HLN.out; have := HNB.out; omega)).mono ?_
            rintro e w7 ⟨⟨v7, rfl, ho7⟩, hx7⟩
            obtain ⟨p7, n7, c7, rfl⟩ := own_form ho7
            have HO7 := Lib.hid ho7
            have HX7 := Lib.hid (Ext.trans HX6.out hx7)
            have HX8 := HX7
            have HB8 := Lib.hid (heap_ext HB6.out hx7)
            have HLT : Hid (∀ k, (Value.slice p7 n7 c7).ownBlock = some k → (w.alloc (.cells #[.int .i64 x.a, .int .i64 x.b, .int .i64 x.k, .slice p1 n1 c1, .slice q1 m1 d1] 26)).heap.size ≤ k) := Lib.hid (fun k hk => by have h1 := (HO7.out.lt k hk).1; have h2 := HX6.out.size; omega)
            have HNE : Hid ((Value.slice p7 n7 c7).ownBlock ≠ some Wd.heap.size) := Lib.hid (fun e => by have := (HO7.out.lt _ e).1; simp at this; omega)
            have HX7s := Lib.hid hx7.size
            clear ho7 hx7
            go_wp2_with fail
            refine hK.out _ _ (HBX.out _ HX7.out) (fun _ => ?_)
            clear hK K
            try simp only [Act.put, List.setIfInBounds_toArray, List.set_cons_zero, List.set_cons_succ]
            refine wpAnyH_ready (rs := [8]) (by kernel_rfl) (by simp) ?_
            refine AllReadyH.cons (o := ⟨some 45, .call { callee := .value (.func 29), args := #[.tmp 38, .tmp 42, .tmp 44], argTypes := #[22, 3, 22] }, _, _, _, _⟩) rfl (fun K hK => ?_) AllReadyH.nil
            go_simp
            refine (insert_v _ l D x p1 n1 c1 q1 m1 d1 (Wd.alloc (.cells #[.int .i64 x.a, .int .i64 x.b, .int .i64 x.k, .slice p1 n1 c1, .slice q1 m1 d1] 26)).heap.size Wd.heap.size w w7 HB8.out HNE.out HX0.out (Ext.trans HXA.out HX8.out) (Ext.trans HXA.out HX6.out).size HO7.out (by rw [HLN.out]; exact HDN.out) (by rw [HLN.out]; exact HNB.out) HX7s.out).mono ?_

            rintro e w9 ⟨⟨v9, rfl, ho9⟩, hg9⟩
            obtain ⟨p9, n9, c9, rfl⟩ := own_form ho9
            have HO9 := Lib.hid ho9
            have hx9 : Ext (w.alloc (.cells #[.int .i64 x.a, .int .i64 x.b, .int .i64 x.k, .slice p1 n1 c1, .slice q1 m1 d1] 26)) w9 := Lay.grown_old HX8.out (fun k hk => HLT.out k hk) hg9
            have HX9 := Lib.hid hx9
            clear ho9 hg9 hx9
            go_wp2_with fail
            refine hK.out _ _ (HBX.out _ HX9.out) (fun _ => ?_)
            clear hK K
            try simp only [Act.put, List.setIfInBounds_toArray, List.set_cons_zero, List.set_cons_succ]
            refine wpAnyH_take (i := 9) (oi := ⟨some 6, _, _, _, _, _⟩) (v := .slice p9 n9 c9) rfl (by kernel_rfl) (by kernel_rfl) (by kernel_rfl) (fun _ _ _ h => h) (Or.inl ⟨by rfl, ?_⟩) (HBX.out _ HX9.out) ?_
            · rintro w' ⟨t1, t2, t3, t4, t5⟩
              go_simp
            try simp only [Act.put, List.setIfInBounds_toArray, List.set_cons_zero, List.set_cons_succ]
            refine wpAnyH_done (by kernel_rfl) ?_ _
            go_wp2
            go_ret
            exact ⟨⟨_, rfl, by rw [HS.out]; exact HO9.out.sl⟩, Ext.trans HXA.out HX9.out⟩
        · have hf4 : (f == 4) = false := by simp [f4]
          have hs : sendS l x f = l := by unfold sendS; rw [if_neg (by rw [HLN.out]; exact hful), if_neg f1, if_neg f3, if_neg f4]
          have HS := Lib.hid hs
          clear hs f1 f3 f4 hxA
          go_enter Try.func14, Try.ntmps14
          go_wp2
          go_ret
          exact ⟨⟨_, rfl, by rw [HS.out]; exact HL.out.ext HXA.out⟩, HXA.out⟩
end Go.Proofs.Ytifbmkcfgpfefaa.Wi
