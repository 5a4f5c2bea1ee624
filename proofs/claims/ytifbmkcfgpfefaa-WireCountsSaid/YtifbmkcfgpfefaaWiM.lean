/- Messages: one taken. -/
import Derived.Test.YtifbmkcfgpfefaaWiL
import Derived.Test.YtifbmkcfgpfefaaWiF
import Derived.Deep.RegionHeld3
namespace Go.Proofs.Ytifbmkcfgpfefaa.Wi
open Go.RowKit Go.Proofs.Ytifbmkcfgpfefaa
set_option linter.unusedVariables false

theorem results_mid {P : Program} {fn : Func} {u p v : Tmp} {ty : TypeId} (h : fn.results = #[.tmp u, .cell p ty, .tmp v]) (tmps : Array Value) (w : World) (g : Nat) (t : TypeId) (cs : Array Value) (fr : Nat × Nat) (d : TypeDesc)
    (hp : tmps.getD p undef = .pointer (some ⟨g, 0, none⟩)) (hg : w.heap[g]? = some (.cells cs t fr))
    (hu : P.underlying ty = some d) (hd : (match d with | .struct _ | .array _ _ => true | _ => false) = true) (hi : (P.info? ty).map (·.size) = some cs.size) :
    (results fn tmps).run P w = .ok (.tuple #[tmps.getD u undef, .agg cs, tmps.getD v undef]) w := by
  have hp' : tmps[p]?.getD undef = .pointer (some ⟨g, 0, none⟩) := by simpa using hp
  simp [results, h, hp', asAddr, run_loadVar_row w g t ty cs fr d hg hu hd hi]
def set5W (w : World) (g : Nat) (a b c d e : Value) : World := ((((w.setCell ⟨g, 0, none⟩ a).setCell ⟨g, 1, none⟩ b).setCell ⟨g, 2, none⟩ c).setCell ⟨g, 3, none⟩ d).setCell ⟨g, 4, none⟩ e
theorem set5 {w : World} {g : Nat} {t : TypeId} {a b c d e o0 o1 o2 o3 o4 : Value} (h : w.heap[g]? = some (.cells #[o0, o1, o2, o3, o4] t (0, 0))) :
    (set5W w g a b c d e).heap[g]? = some (.cells #[a, b, c, d, e] t (0, 0)) ∧ w.grownBy (set5W w g a b c d e) (some g) := by
  have e0 : (w.setCell ⟨g, 0, none⟩ a).heap[g]? = some (.cells #[a, o1, o2, o3, o4] t (0, 0)) := by rw [setCell_eq_setRow w g 0 _ _ _ _ h]; exact setRow_heap _ _ _ _ _ _ h
  have e1 : ((w.setCell ⟨g, 0, none⟩ a).setCell ⟨g, 1, none⟩ b).heap[g]? = some (.cells #[a, b, o2, o3, o4] t (0, 0)) := by rw [setCell_eq_setRow _ g 1 _ _ _ _ e0]; exact setRow_heap _ _ _ _ _ _ e0
  have e2 : (((w.setCell ⟨g, 0, none⟩ a).setCell ⟨g, 1, none⟩ b).setCell ⟨g, 2, none⟩ c).heap[g]? = some (.cells #[a, b, c, o3, o4] t (0, 0)) := by rw [setCell_eq_setRow _ g 2 _ _ _ _ e1]; exact setRow_heap _ _ _ _ _ _ e1
  have e3 : ((((w.setCell ⟨g, 0, none⟩ a).setCell ⟨g, 1, none⟩ b).setCell ⟨g, 2, none⟩ c).setCell ⟨g, 3, none⟩ d).heap[g]? = some (.cells #[a, b, c, d, o4] t (0, 0)) := by rw [setCell_eq_setRow _ g 3 _ _ _ _ e2]; exact setRow_heap _ _ _ _ _ _ e2
  have e4 : (set5W w g a b c d e).heap[g]? = some (.cells #[a, b, c, d, e] t (0, 0)) := by unfold set5W; rw [setCell_eq_setRow _ g 4 _ _ _ _ e3]; exact setRow_heap _ _ _ _ _ _ e3
  exact ⟨e4, World.grownBy.trans (World.grownBy.trans (World.grownBy.trans (World.grownBy.trans (Lay.grown_set _ _ _ _) (Lay.grown_set _ _ _ _)) (Lay.grown_set _ _ _ _)) (Lay.grown_set _ _ _ _)) (Lay.grown_set _ _ _ _)⟩
/-- a row of messages out of its cells -/
theorem sl_mk {w : World} {base n : Nat} {v : Value} {vs : List Value} {l : List Mg} (h : w.ownsRow base 26 5 v n vs) (hn : l.length = n) (ha : LMg.All w vs l) : LMg.Sl w v l := by
  rcases h.2 with ⟨rfl, h0⟩ | ⟨g, cap, cur, rfl, hb, hg, hnc, hcm, hsz, htk⟩
  · exact ⟨_, _, _, rfl, ⟨by rw [hn, h0], by omega, vs, ha, fun h => by omega⟩, by omega, by omega, fun h => by omega⟩
  · refine ⟨_, _, _, rfl, ⟨hn, by unfold maxLen at hcm; omega, vs, ha, fun h0 => ⟨g, 0, rfl, fun j u hu => ?_⟩⟩, hnc, by unfold maxLen at hcm; omega, fun _ => ⟨g, 0, rfl⟩⟩
    have := h.cells (g := g) rfl j u hu
    rwa [add0] at this
theorem zero_c (w : World) : MgC w zeroM none 0 0 none 0 0 := ⟨by decide, by decide, by decide, Lay.Row.nil _ _ _, by omega, by omega, fun h => by omega, Lay.Row.nil _ _ _, by omega, by omega, fun h => by omega⟩
/-- what is left, what was taken, whether -/
def takeS (l : List Mg) (i : Int) : List Mg × Mg × Bool := if 0 ≤ i ∧ i < (l.length : Int) then (l.take i.toNat ++ l.drop (i.toNat + 1), l.getD i.toNat zeroM, true) else (l, zeroM, false)
def RetTake (w : World) (l : List Mg) (i : Int) (e : Ending) : Prop :=
  ∃ p n c q m d, ∃ v, e = .returned (.tuple #[v, .agg #[.int .i64 (takeS l i).2.1.a, .int .i64 (takeS l i).2.1.b, .int .i64 (takeS l i).2.1.k, .slice p n c, .slice q m d], .bool (takeS l i).2.2]) ∧ LMg.Sl w v (takeS l i).1 ∧ MgC w (takeS l i).2.1 p n c q m d
theorem take_no {l : List Mg} {i : Int} (h : ¬ (0 ≤ i ∧ i < (l.length : Int))) : takeS l i = (l, zeroM, false) := by unfold takeS; rw [if_neg h]
theorem take_yes {l : List Mg} {k : Nat} {x : Mg} (h : l[k]? = some x) : takeS l (k : Int) = (l.take k ++ l.drop (k + 1), x, true) := by
  unfold takeS
  have hk := (List.getElem?_eq_some_iff.1 h).1
  rw [if_pos ⟨by omega, by omega⟩, Int.toNat_natCast]
  have : l.getD k zeroM = x := by rw [List.getD_eq_getElem?_getD, h]; rfl
  rw [this]
set_option maxRecDepth 100000 in
set_option maxHeartbeats 8000000 in
theorem take_v (p : Option Addr) (n c : Nat) (l : List Mg) (i : Int) (w : World) (hl : LMg.Sl w (.slice p n c) l) (hb : n ≤ 1000) :
    Calls Try.prog 11 #[.slice p n c, .int .i64 i] w fun e w' => RetTake w' l i e ∧ Ext w w' := by
  have hln : l.length = n := (sl_parts hl).1.1
  have hn63 : n ≤ 9223372036854775807 := (sl_parts hl).1.2.1
  have HL := Lib.hid hl
  have HLN := Lib.hid hln
  have HNB := Lib.hid hb
  have hbx := heap_alloc_new w (.cells #[.int .i64 0, .int .i64 0, .int .i64 0, .slice none 0 0, .slice none 0 0] 26)
  have HBX := Lib.hid hbx
  have HXA : Hid (Ext w (w.alloc (.cells #[.int .i64 0, .int .i64 0, .int .i64 0, .slice none 0 0, .slice none 0 0] 26))) := Lib.hid (Ext.alloc _ _)
  by_cases hneg : i < 0
  · have ht := take_no (l := l) (i := i) (by omega)
    have HT := Lib.hid ht
    clear hl ht hbx hln
    go_enter Try.func11, Try.ntmps11
    go_wp2
    refine bodyPost_ret (results_mid rfl _ _ w.heap.size 26 #[.int .i64 0, .int .i64 0, .int .i64 0, .slice none 0 0, .slice none 0 0] (0, 0) _ rfl HBX.out Try.underlying26 rfl (by kernel_rfl)) rfl ⟨?_, HXA.out⟩
    unfold RetTake
    rw [HT.out]
    exact ⟨none, 0, 0, none, 0, 0, _, rfl, HL.out.ext HXA.out, zero_c _⟩
  · obtain ⟨k, rfl⟩ : ∃ k : Nat, i = (k : Int) := ⟨i.toNat, by omega⟩
    by_cases hbig : n ≤ k
    · have hbig' : (n : Int) ≤ (k : Int) := by omega
      have ht := take_no (l := l) (i := (k : Int)) (by omega)
      have HT := Lib.hid ht
      clear hl ht hbx hln
      go_enter Try.func11, Try.ntmps11
      go_wp2
      refine bodyPost_ret (results_mid rfl _ _ w.heap.size 26 #[.int .i64 0, .int .i64 0, .int .i64 0, .slice none 0 0, .slice none 0 0] (0, 0) _ rfl HBX.out Try.underlying26 rfl (by kernel_rfl)) rfl ⟨?_, HXA.out⟩
      unfold RetTake
      rw [HT.out]
      exact ⟨none, 0, 0, none, 0, 0, _, rfl, HL.out.ext HXA.out, zero_c _⟩
    · have hbig' : ¬ (n : Int) ≤ (k : Int) := by omega
      have hk0 : (0 : Int) ≤ (k : Int) := by omega
      have hk1 : (k : Int) < (n : Int) := by omega
      have hkn : k < n := by omega
      have HKN := Lib.hid hkn
      have hw1 : IntKind.i64.wrap ((k : Int) + 1) = (k : Int) + 1 := IntWalk.i64_in _ (by omega)
      obtain ⟨hrow, hnc, hcm, hpl⟩ := sl_parts hl
      obtain ⟨x, gx⟩ : ∃ x, l[k]? = some x := ⟨_, List.getElem?_eq_getElem (by rw [hln]; exact hkn)⟩
      obtain ⟨b, off, p1, n1, c1, q1, m1, d1, rfl, x0, x1, x2, x3, x4, tx⟩ := mg_at hrow gx
      have ht := take_yes gx
      have HT := Lib.hid ht
      have HTX := Lib.hid tx
      obtain ⟨Wd, hWd⟩ : ∃ Wd, (w.alloc (.cells #[.int .i64 0, .int .i64 0, .int .i64 0, .slice none 0 0, .slice none 0 0] 26)).drew = Wd := ⟨_, rfl⟩
      have hxd : Ext (w.alloc (.cells #[.int .i64 0, .int .i64 0, .int .i64 0, .slice none 0 0, .slice none 0 0] 26)) Wd := by rw [← hWd]; exact Ext.drew (Ext.refl _)
      have hx0 : Ext w Wd := Ext.trans HXA.out hxd
      have HXD := Lib.hid hxd
      have HX0 := Lib.hid hx0
      have HSA : Hid (∀ w', Ext w w' → (fun w' : World => w'.cell? ⟨b, off + k * 5, none⟩ = some (.int .i64 x.a) ∧ w'.cell? ⟨b, off + k * 5 + 1, none⟩ = some (.int .i64 x.b) ∧ w'.cell? ⟨b, off + k * 5 + 2, none⟩ = some (.int .i64 x.k) ∧ w'.cell? ⟨b, off + k * 5 + 3, none⟩ = some (.slice p1 n1 c1) ∧ w'.cell? ⟨b, off + k * 5 + 4, none⟩ = some (.slice q1 m1 d1)) w') := Lib.hid fun w' h => ⟨h.cell x0, h.cell x1, h.cell x2, h.cell x3, h.cell x4⟩
      have hws : (w.alloc (.cells #[.int .i64 0, .int .i64 0, .int .i64 0, .slice none 0 0, .slice none 0 0] 26)).heap.size = w.heap.size + 1 := by simp
      have hds : w.heap.size + 1 ≤ Wd.heap.size := by have := hxd.size; omega
      have HDS := Lib.hid hds
      have HROW := Lib.hid hrow
      have HPL := Lib.hid hpl
      clear hl ht hbx hln x0 x1 x2 x3 x4 tx gx hxd hx0 hws hds hrow hpl
      go_enter Try.func11, Try.ntmps11
      go_wp2
      refine wp_region_held_drew (S := (fun w' : World => w'.cell? ⟨b, off + k * 5, none⟩ = some (.int .i64 x.a) ∧ w'.cell? ⟨b, off + k * 5 + 1, none⟩ = some (.int .i64 x.b) ∧ w'.cell? ⟨b, off + k * 5 + 2, none⟩ = some (.int .i64 x.k) ∧ w'.cell? ⟨b, off + k * 5 + 3, none⟩ = some (.slice p1 n1 c1) ∧ w'.cell? ⟨b, off + k * 5 + 4, none⟩ = some (.slice q1 m1 d1))) (by kernel_rfl) (HSA.out _ (Ext.trans HXA.out (Ext.drew (Ext.refl _)))) (fun _ => ?_)
      rw [hWd]
      clear hWd
      refine wpAnyH_take (i := 0) (oi := ⟨some 17, _, _, _, _, _⟩) (v := .slice (some ⟨b, off, none⟩) n c) rfl (by kernel_rfl) (by kernel_rfl) (by kernel_rfl) (fun _ _ _ h => h) (Or.inl ⟨by rfl, ?_⟩) (HSA.out _ HX0.out) ?_
      · rintro w' ⟨t1, t2, t3, t4, t5⟩
        go_simp
      try simp only [Act.put, List.setIfInBounds_toArray, List.set_cons_zero, List.set_cons_succ]
      refine wpAnyH_take (i := 2) (oi := ⟨some 19, _, _, _, _, _⟩) (v := .int .i64 (k : Int)) rfl (by kernel_rfl) (by kernel_rfl) (by kernel_rfl) (fun _ _ _ h => h) (Or.inl ⟨by rfl, ?_⟩) (HSA.out _ HX0.out) ?_
      · rintro w' ⟨t1, t2, t3, t4, t5⟩
        go_simp
      try simp only [Act.put, List.setIfInBounds_toArray, List.set_cons_zero, List.set_cons_succ]
      refine wpAnyH_take (i := 3) (oi := ⟨some 20, _, _, _, _, _⟩) (v := .int .i64 (k : Int)) rfl (by kernel_rfl) (by kernel_rfl) (by kernel_rfl) (fun _ _ _ h => h) (Or.inl ⟨by rfl, ?_⟩) (HSA.out _ HX0.out) ?_
      · rintro w' ⟨t1, t2, t3, t4, t5⟩
        go_simp
      try simp only [Act.put, List.setIfInBounds_toArray, List.set_cons_zero, List.set_cons_succ]
      refine wpAnyH_take (i := 4) (oi := ⟨some 21, _, _, _, _, _⟩) (v := .int .i64 ((k : Int) + 1)) rfl (by kernel_rfl) (by kernel_rfl) (by kernel_rfl) (fun _ _ _ h => h) (Or.inl ⟨by rfl, ?_⟩) (HSA.out _ HX0.out) ?_
      · rintro w' ⟨t1, t2, t3, t4, t5⟩
        go_simp
      try simp only [Act.put, List.setIfInBounds_toArray, List.set_cons_zero, List.set_cons_succ]
      refine wpAnyH_take (i := 6) (oi := ⟨some 23, _, _, _, _, _⟩) (v := .slice (some ⟨b, off, none⟩) n c) rfl (by kernel_rfl) (by kernel_rfl) (by kernel_rfl) (fun _ _ _ h => h) (Or.inl ⟨by rfl, ?_⟩) (HSA.out _ HX0.out) ?_
      · rintro w' ⟨t1, t2, t3, t4, t5⟩
        go_simp
      try simp only [Act.put, List.setIfInBounds_toArray, List.set_cons_zero, List.set_cons_succ]
      refine wpAnyH_take (i := 7) (oi := ⟨some 24, _, _, _, _, _⟩) (v := .int .i64 (k : Int)) rfl (by kernel_rfl) (by kernel_rfl) (by kernel_rfl) (fun _ _ _ h => h) (Or.inl ⟨by rfl, ?_⟩) (HSA.out _ HX0.out) ?_
      · rintro w' ⟨t1, t2, t3, t4, t5⟩
        go_simp
      try simp only [Act.put, List.setIfInBounds_toArray, List.set_cons_zero, List.set_cons_succ]
      refine wpAnyH_take (i := 8) (oi := ⟨some 25, _, _, _, _, _⟩) (v := .pointer (some ⟨b, off + k * 5, none⟩)) rfl (by kernel_rfl) (by kernel_rfl) (by kernel_rfl) (fun _ _ _ h => h) (Or.inl ⟨by rfl, ?_⟩) (HSA.out _ HX0.out) ?_
      · rintro w' ⟨t1, t2, t3, t4, t5⟩
        go_simp
      try simp only [Act.put, List.setIfInBounds_toArray, List.set_cons_zero, List.set_cons_succ]
      refine wpAnyH_take (i := 9) (oi := ⟨some 26, _, _, _, _, _⟩) (v := .agg #[.int .i64 x.a, .int .i64 x.b, .int .i64 x.k, .slice p1 n1 c1, .slice q1 m1 d1]) rfl (by kernel_rfl) (by kernel_rfl) (by kernel_rfl) (fun _ _ _ h => h) (Or.inl ⟨by rfl, ?_⟩) (HSA.out _ HX0.out) ?_
      · rintro w' ⟨t1, t2, t3, t4, t5⟩
        go_simp
      try simp only [Act.put, List.setIfInBounds_toArray, List.set_cons_zero, List.set_cons_succ]
      refine wpAnyH_ready (rs := [1]) (by kernel_rfl) (by simp) ?_
      refine AllReadyH.cons (o := ⟨some 18, .call { callee := .value (.func 26), args := #[.tmp 17], argTypes := #[22] }, _, _, _, _⟩) rfl (fun K hK => ?_) AllReadyH.nil
      go_simp
      refine (clone2_v _ n c l w Wd HL.out HX0.out (by have := HLN.out; have := HNB.out; omega)).mono ?_
      rintro e w7 ⟨⟨v7, vs, rfl, ho7, hall⟩, hx7⟩
      obtain ⟨g, c7, rfl⟩ : ∃ g c7, v7 = .slice (some ⟨g, 0, none⟩) n c7 := by
        rcases ho7.2 with ⟨rfl, h⟩ | ⟨g, cap, cur, rfl, _⟩
        · have := HKN.out; omega
        · exact ⟨_, _, rfl⟩
      have HO7 := Lib.hid ho7
      have HAL := Lib.hid hall
      have HX7 := Lib.hid (Ext.trans HX0.out hx7)
      have HXD7 := Lib.hid (Ext.trans HXD.out hx7)
      have HD7 := Lib.hid hx7.size
      clear ho7 hall hx7
      go_wp2_with fail
      refine hK.out _ _ (HSA.out _ HX7.out) (fun _ => ?_)
      clear hK K
      try simp only [Act.put, List.setIfInBounds_toArray, List.set_cons_zero, List.set_cons_succ]
      refine wpAnyH_ready (rs := [5]) (by kernel_rfl) (by simp) ?_
      refine AllReadyH.cons (o := ⟨some 22, .call { callee := .value (.func 25), args := #[.tmp 18, .tmp 19, .tmp 21], argTypes := #[22, 3, 3] }, _, _, _, _⟩) rfl (fun K hK => ?_) AllReadyH.nil
      go_simp
      refine (delete_v g n c7 k Wd.heap.size vs w7 HO7.out HAL.out.one HKN.out HNB.out).mono ?_
      rintro e w9 ⟨⟨rfl, ho9⟩, hg9⟩
      have hgb := (HO7.out.lt g rfl).1
      have hx9 : Ext w w9 := Lay.grown_old HX7.out (fun k hk => by cases hk; have := HDS.out; omega) hg9
      have hb9 : w9.heap[w.heap.size]? = some (.cells #[.int .i64 0, .int .i64 0, .int .i64 0, .slice none 0 0, .slice none 0 0] 26 (0, 0)) := by
        have h7 := heap_ext HBX.out HXD7.out
        rw [hg9.block _ (Array.getElem?_eq_some_iff.1 h7).1 (fun e => by simp only [Option.some.injEq] at e; have := HDS.out; omega)]
        exact h7
      have HOW9 := Lib.hid ho9
      have HX9 := Lib.hid hx9
      have HB9 := Lib.hid hb9
      have HALL : Hid (LMg.All w (vs.take (k * 5) ++ vs.drop ((k + 1) * 5)) (l.take k ++ l.drop (k + 1))) := Lib.hid ((HAL.out.take k).append (HAL.out.drop (k + 1)))
      clear ho9 hg9 hgb hx9 hb9
      go_wp2_with fail
      refine hK.out _ _ (HSA.out _ HX9.out) (fun _ => ?_)
      clear hK K
      try simp only [Act.put, List.setIfInBounds_toArray, List.set_cons_zero, List.set_cons_succ]
      refine wpAnyH_take (i := 10) (oi := ⟨some 4, _, _, _, _, _⟩) (v := .slice (some ⟨g, 0, none⟩) (n - 1) c7) rfl (by kernel_rfl) (by kernel_rfl) (by kernel_rfl) (fun _ _ _ h => h) (Or.inl ⟨by rfl, ?_⟩) (HSA.out _ HX9.out) ?_
      · rintro w' ⟨t1, t2, t3, t4, t5⟩
        go_simp
      try simp only [Act.put, List.setIfInBounds_toArray, List.set_cons_zero, List.set_cons_succ]
      refine wpAnyH_ready (rs := [11]) (by kernel_rfl) (by simp) ?_
      refine AllReadyH.cons (o := ⟨none, .store 26 (.tmp 5) (.tmp 26), _, _, _, _⟩) rfl (fun K hK => ?_) AllReadyH.nil
      have z0 : w9.cell? ⟨w.heap.size, 0, none⟩ = some (.int .i64 0) := cell_of_row _ _ 0 _ _ _ HB9.out
      have z1 : w9.cell? ⟨w.heap.size, 1, none⟩ = some (.int .i64 0) := cell_of_row _ _ 1 _ _ _ HB9.out
      have z2 : w9.cell? ⟨w.heap.size, 2, none⟩ = some (.int .i64 0) := cell_of_row _ _ 2 _ _ _ HB9.out
      have z3 : w9.cell? ⟨w.heap.size, 3, none⟩ = some (.slice none 0 0) := cell_of_row _ _ 3 _ _ _ HB9.out
      have z4 : w9.cell? ⟨w.heap.size, 4, none⟩ = some (.slice none 0 0) := cell_of_row _ _ 4 _ _ _ HB9.out
      have y0 : w9.frozen? ⟨w.heap.size, 0, none⟩ = false := frozen_of_row _ _ _ _ _ HB9.out
      have y1 : w9.frozen? ⟨w.heap.size, 1, none⟩ = false := frozen_of_row _ _ _ _ _ HB9.out
      have y2 : w9.frozen? ⟨w.heap.size, 2, none⟩ = false := frozen_of_row _ _ _ _ _ HB9.out
      have y3 : w9.frozen? ⟨w.heap.size, 3, none⟩ = false := frozen_of_row _ _ _ _ _ HB9.out
      have y4 : w9.frozen? ⟨w.heap.size, 4, none⟩ = false := frozen_of_row _ _ _ _ _ HB9.out
      go_simp
      obtain ⟨hb10, hg10⟩ := set5 (a := .int .i64 x.a) (b := .int .i64 x.b) (c := .int .i64 x.k) (d := .slice p1 n1 c1) (e := .slice q1 m1 d1) HB9.out
      unfold set5W at hb10 hg10
      have hx10 : Ext w (((((w9.setCell ⟨w.heap.size, 0, none⟩ (.int .i64 x.a)).setCell ⟨w.heap.size, 1, none⟩ (.int .i64 x.b)).setCell ⟨w.heap.size, 2, none⟩ (.int .i64 x.k)).setCell ⟨w.heap.size, 3, none⟩ (.slice p1 n1 c1)).setCell ⟨w.heap.size, 4, none⟩ (.slice q1 m1 d1)) := Lay.grown_old HX9.out (fun k hk => by cases hk; exact Nat.le_refl _) hg10
      have HB10 := Lib.hid hb10
      have HG10 := Lib.hid hg10
      have HX10 := Lib.hid hx10
      refine hK.out _ _ (HSA.out _ hx10) (fun _ => ?_)
      clear hK K z0 z1 z2 z3 z4 y0 y1 y2 y3 y4
      obtain ⟨w10, hw10⟩ : ∃ w10, (((((w9.setCell ⟨w.heap.size, 0, none⟩ (.int .i64 x.a)).setCell ⟨w.heap.size, 1, none⟩ (.int .i64 x.b)).setCell ⟨w.heap.size, 2, none⟩ (.int .i64 x.k)).setCell ⟨w.heap.size, 3, none⟩ (.slice p1 n1 c1)).setCell ⟨w.heap.size, 4, none⟩ (.slice q1 m1 d1)) = w10 := ⟨_, rfl⟩
      rw [hw10] at HB10 HG10 HX10 ⊢
      clear hw10 hb10 hg10 hx10
      try simp only [Act.put, List.setIfInBounds_toArray, List.set_cons_zero, List.set_cons_succ]
      refine wpAnyH_take (i := 12) (oi := ⟨some 6, _, _, _, _, _⟩) (v := .bool true) rfl (by kernel_rfl) (by kernel_rfl) (by kernel_rfl) (fun _ _ _ h => h) (Or.inl ⟨by rfl, ?_⟩) (HSA.out _ HX10.out) ?_
      · rintro w' ⟨t1, t2, t3, t4, t5⟩
        go_simp
      try simp only [Act.put, List.setIfInBounds_toArray, List.set_cons_zero, List.set_cons_succ]
      refine wpAnyH_done (by kernel_rfl) ?_ _
      go_wp2
      refine bodyPost_ret (results_mid rfl _ _ w.heap.size 26 #[.int .i64 x.a, .int .i64 x.b, .int .i64 x.k, .slice p1 n1 c1, .slice q1 m1 d1] (0, 0) _ rfl HB10.out Try.underlying26 rfl (by kernel_rfl)) rfl ⟨?_, HX10.out⟩
      unfold RetTake
      rw [HT.out]
      refine ⟨p1, n1, c1, q1, m1, d1, _, rfl, ?_, HTX.out.ext HX10.out⟩
      have hne : (Value.slice (some ⟨g, 0, none⟩) (n - 1) c7).ownBlock = none ∨ (Value.slice (some ⟨g, 0, none⟩) (n - 1) c7).ownBlock ≠ some w.heap.size := by
        cases hv : (Value.slice (some ⟨g, 0, none⟩) (n - 1) c7).ownBlock with
        | none => exact .inl rfl
        | some g9 => exact .inr (fun e => by have := (HOW9.out.lt g9 hv).1; have := HDS.out; cases e; omega)
      exact sl_mk (HOW9.out.kept HG10.out hne) (by have := HLN.out; have := HKN.out; simp; omega) (HALL.out.ext HX10.out)
set_option maxRecDepth 100000 in
set_option maxHeartbeats 8000000 in
theorem rtake_v (p : Option Addr) (n c : Nat) (l : List Mg) (i : Int) (w : World) (hl : LMg.Sl w (.slice p n c) l) (hb : n ≤ 1000) :
    Calls Try.prog 12 #[.slice p n c, .int .i64 i] w fun e w' => RetTake w' l i e ∧ Ext w w' := by
  have hln : l.length = n := (sl_parts hl).1.1
  have hn63 : n ≤ 9223372036854775807 := (sl_parts hl).1.2.1
  have HL := Lib.hid hl
  have HLN := Lib.hid hln
  have HNB := Lib.hid hb
  have hbx := heap_alloc_new w (.cells #[.int .i64 0, .int .i64 0, .int .i64 0, .slice none 0 0, .slice none 0 0] 26)
  have HBX := Lib.hid hbx
  have HXA : Hid (Ext w (w.alloc (.cells #[.int .i64 0, .int .i64 0, .int .i64 0, .slice none 0 0, .slice none 0 0] 26))) := Lib.hid (Ext.alloc _ _)
  by_cases hneg : i < 0
  · have ht := take_no (l := l) (i := i) (by omega)
    have HT := Lib.hid ht
    clear hl ht hbx hln
    go_enter Try.func12, Try.ntmps12
    go_wp2
    refine bodyPost_ret (results_mid rfl _ _ w.heap.size 26 #[.int .i64 0, .int .i64 0, .int .i64 0, .slice none 0 0, .slice none 0 0] (0, 0) _ rfl HBX.out Try.underlying26 rfl (by kernel_rfl)) rfl ⟨?_, HXA.out⟩
    unfold RetTake
    rw [HT.out]
    exact ⟨none, 0, 0, none, 0, 0, _, rfl, HL.out.ext HXA.out, zero_c _⟩
  · obtain ⟨k, rfl⟩ : ∃ k : Nat, i = (k : Int) := ⟨i.toNat, by omega⟩
    by_cases hbig : n ≤ k
    · have hbig' : (n : Int) ≤ (k : Int) := by omega
      have ht := take_no (l := l) (i := (k : Int)) (by omega)
      have HT := Lib.hid ht
      clear hl ht hbx hln
      go_enter Try.func12, Try.ntmps12
      go_wp2
      refine bodyPost_ret (results_mid rfl _ _ w.heap.size 26 #[.int .i64 0, .int .i64 0, .int .i64 0, .slice none 0 0, .slice none 0 0] (0, 0) _ rfl HBX.out Try.underlying26 rfl (by kernel_rfl)) rfl ⟨?_, HXA.out⟩
      unfold RetTake
      rw [HT.out]
      exact ⟨none, 0, 0, none, 0, 0, _, rfl, HL.out.ext HXA.out, zero_c _⟩
    · have hbig' : ¬ (n : Int) ≤ (k : Int) := by omega
      have hk0 : (0 : Int) ≤ (k : Int) := by omega
      have hk1 : (k : Int) < (n : Int) := by omega
      have hkn : k < n := by omega
      have HKN := Lib.hid hkn
      have hw1 : IntKind.i64.wrap ((k : Int) + 1) = (k : Int) + 1 := IntWalk.i64_in _ (by omega)
      obtain ⟨hrow, hnc, hcm, hpl⟩ := sl_parts hl
      obtain ⟨x, gx⟩ : ∃ x, l[k]? = some x := ⟨_, List.getElem?_eq_getElem (by rw [hln]; exact hkn)⟩
      obtain ⟨b, off, p1, n1, c1, q1, m1, d1, rfl, x0, x1, x2, x3, x4, tx⟩ := mg_at hrow gx
      have ht := take_yes gx
      have HT := Lib.hid ht
      have HTX := Lib.hid tx
      obtain ⟨Wd, hWd⟩ : ∃ Wd, (w.alloc (.cells #[.int .i64 0, .int .i64 0, .int .i64 0, .slice none 0 0, .slice none 0 0] 26)).drew = Wd := ⟨_, rfl⟩
      have hxd : Ext (w.alloc (.cells #[.int .i64 0, .int .i64 0, .int .i64 0, .slice none 0 0, .slice none 0 0] 26)) Wd := by rw [← hWd]; exact Ext.drew (Ext.refl _)
      have hx0 : Ext w Wd := Ext.trans HXA.out hxd
      have HXD := Lib.hid hxd
      have HX0 := Lib.hid hx0
      have HSA : Hid (∀ w', Ext w w' → (fun w' : World => w'.cell? ⟨b, off + k * 5, none⟩ = some (.int .i64 x.a) ∧ w'.cell? ⟨b, off + k * 5 + 1, none⟩ = some (.int .i64 x.b) ∧ w'.cell? ⟨b, off + k * 5 + 2, none⟩ = some (.int .i64 x.k) ∧ w'.cell? ⟨b, off + k * 5 + 3, none⟩ = some (.slice p1 n1 c1) ∧ w'.cell? ⟨b, off + k * 5 + 4, none⟩ = some (.slice q1 m1 d1)) w') := Lib.hid fun w' h => ⟨h.cell x0, h.cell x1, h.cell x2, h.cell x3, h.cell x4⟩
      have hws : (w.alloc (.cells #[.int .i64 0, .int .i64 0, .int .i64 0, .slice none 0 0, .slice none 0 0] 26)).heap.size = w.heap.size + 1 := by simp
      have hds : w.heap.size + 1 ≤ Wd.heap.size := by have := hxd.size; omega
      have HDS := Lib.hid hds
      have HROW := Lib.hid hrow
      have HPL := Lib.hid hpl
      clear hl ht hbx hln x0 x1 x2 x3 x4 tx gx hxd hx0 hws hds hrow hpl
      obtain ⟨i0, hi0, hzi0, hzi1, hzi2⟩ := info_parts info_mg
      obtain ⟨_, _, vs, hall, hcc⟩ := HROW.out
      obtain ⟨b', off', hbo, hcells⟩ := hcc (by omega)
      cases hbo
      have HALLV := Lib.hid hall
      have HVL : Hid (vs.length = n * 5) := Lib.hid (by rw [hall.length, HLN.out]; rfl)
      have HONE : Hid (∀ u ∈ vs, u.oneCell' = true) := Lib.hid hall.one
      have HCELL : Hid (∀ W, Ext w W → ∀ j u, vs[j]? = some u → W.cell? ⟨b, off + j, none⟩ = some u) := Lib.hid fun W h j u hj => h.cell (hcells j u hj)
      obtain ⟨A, hA, hsrc⟩ : ∃ A : Addr, cutP (some ⟨b, off, none⟩) c (k + 1) 5 = some A ∧ ∀ (W : World), Ext w W → ∀ j u, (vs.drop ((k + 1) * 5))[j]? = some u → W.cell? (A.add j) = some u := by
        by_cases h : c = k + 1
        · refine ⟨⟨b, off, none⟩, by simp [cutP, h], fun W hW j u hj => ?_⟩
          have h1 : vs.drop ((k + 1) * 5) = [] := List.drop_eq_nil_of_le (by have := HVL.out; omega)
          rw [h1] at hj
          simp at hj
        · refine ⟨⟨b, off + (k + 1) * 5, none⟩, by simp [cutP, h, addN], fun W hW j u hj => ?_⟩
          rw [addN]
          rw [List.getElem?_drop] at hj
          have := HCELL.out W hW _ u hj
          rwa [← Nat.add_assoc] at this
      have HSRC := Lib.hid hsrc
      have hsl1 : ∀ W, (Instr.slice 22 (.slice (some ⟨b, off, none⟩) n c) none (some (.int .i64 (k : Int))) none).run Try.prog W = .ok (.slice (some ⟨b, off, none⟩) k c) W := fun W =>
        run_cut_to (P := Try.prog) (t := 22) (e := 26) Try.underlying22 rowsize_mg (some ⟨b, off, none⟩) n c k (k : Int) rfl (by omega) (fun _ => ⟨_, _, rfl⟩) W
      have hsl2 : ∀ W, (Instr.slice 22 (.slice (some ⟨b, off, none⟩) n c) (some (.int .i64 ((k : Int) + 1))) none none).run Try.prog W = .ok (.slice (some A) (n - (k + 1)) (c - (k + 1))) W := fun W => by
        have h := run_cut_from (P := Try.prog) (t := 22) (e := 26) Try.underlying22 rowsize_mg (some ⟨b, off, none⟩) n c (k + 1) ((k : Int) + 1) (by omega) (by omega) hnc W
        rwa [hA] at h
      clear hall hcc hcells hA hsrc
      go_enter Try.func12, Try.ntmps12
      go_wp2
      refine wp_region_held_drew (S := (fun w' : World => w'.cell? ⟨b, off + k * 5, none⟩ = some (.int .i64 x.a) ∧ w'.cell? ⟨b, off + k * 5 + 1, none⟩ = some (.int .i64 x.b) ∧ w'.cell? ⟨b, off + k * 5 + 2, none⟩ = some (.int .i64 x.k) ∧ w'.cell? ⟨b, off + k * 5 + 3, none⟩ = some (.slice p1 n1 c1) ∧ w'.cell? ⟨b, off + k * 5 + 4, none⟩ = some (.slice q1 m1 d1))) (by kernel_rfl) (HSA.out _ (Ext.trans HXA.out (Ext.drew (Ext.refl _)))) (fun _ => ?_)
      rw [hWd]
      clear hWd
      refine wpAnyH_take (i := 1) (oi := ⟨some 18, _, _, _, _, _⟩) (v := .slice (some ⟨b, off, none⟩) n c) rfl (by kernel_rfl) (by kernel_rfl) (by kernel_rfl) (fun _ _ _ h => h) (Or.inl ⟨by rfl, ?_⟩) (HSA.out _ HX0.out) ?_
      · rintro w' ⟨t1, t2, t3, t4, t5⟩
        go_simp
      try simp only [Act.put, List.setIfInBounds_toArray, List.set_cons_zero, List.set_cons_succ]
      refine wpAnyH_take (i := 2) (oi := ⟨some 19, _, _, _, _, _⟩) (v := .int .i64 (k : Int)) rfl (by kernel_rfl) (by kernel_rfl) (by kernel_rfl) (fun _ _ _ h => h) (Or.inl ⟨by rfl, ?_⟩) (HSA.out _ HX0.out) ?_
      · rintro w' ⟨t1, t2, t3, t4, t5⟩
        go_simp
      try simp only [Act.put, List.setIfInBounds_toArray, List.set_cons_zero, List.set_cons_succ]
      refine wpAnyH_take (i := 3) (oi := ⟨some 20, _, _, _, _, _⟩) (v := .slice (some ⟨b, off, none⟩) k c) rfl (by kernel_rfl) (by kernel_rfl) (by kernel_rfl) (fun _ _ _ h => h) (Or.inl ⟨by rfl, ?_⟩) (HSA.out _ HX0.out) ?_
      · rintro w' ⟨t1, t2, t3, t4, t5⟩
        go_simp
      try simp only [Act.put, List.setIfInBounds_toArray, List.set_cons_zero, List.set_cons_succ]
      refine wpAnyH_take (i := 5) (oi := ⟨some 22, _, _, _, _, _⟩) (v := .slice (some ⟨b, off, none⟩) n c) rfl (by kernel_rfl) (by kernel_rfl) (by kernel_rfl) (fun _ _ _ h => h) (Or.inl ⟨by rfl, ?_⟩) (HSA.out _ HX0.out) ?_
      · rintro w' ⟨t1, t2, t3, t4, t5⟩
        go_simp
      try simp only [Act.put, List.setIfInBounds_toArray, List.set_cons_zero, List.set_cons_succ]
      refine wpAnyH_take (i := 6) (oi := ⟨some 23, _, _, _, _, _⟩) (v := .int .i64 (k : Int)) rfl (by kernel_rfl) (by kernel_rfl) (by kernel_rfl) (fun _ _ _ h => h) (Or.inl ⟨by rfl, ?_⟩) (HSA.out _ HX0.out) ?_
      · rintro w' ⟨t1, t2, t3, t4, t5⟩
        go_simp
      try simp only [Act.put, List.setIfInBounds_toArray, List.set_cons_zero, List.set_cons_succ]
      refine wpAnyH_take (i := 7) (oi := ⟨some 24, _, _, _, _, _⟩) (v := .int .i64 ((k : Int) + 1)) rfl (by kernel_rfl) (by kernel_rfl) (by kernel_rfl) (fun _ _ _ h => h) (Or.inl ⟨by rfl, ?_⟩) (HSA.out _ HX0.out) ?_
      · rintro w' ⟨t1, t2, t3, t4, t5⟩
        go_simp
      try simp only [Act.put, List.setIfInBounds_toArray, List.set_cons_zero, List.set_cons_succ]
      refine wpAnyH_take (i := 8) (oi := ⟨some 25, _, _, _, _, _⟩) (v := .slice (some A) (n - (k + 1)) (c - (k + 1))) rfl (by kernel_rfl) (by kernel_rfl) (by kernel_rfl) (fun _ _ _ h => h) (Or.inl ⟨by rfl, ?_⟩) (HSA.out _ HX0.out) ?_
      · rintro w' ⟨t1, t2, t3, t4, t5⟩
        go_simp
      try simp only [Act.put, List.setIfInBounds_toArray, List.set_cons_zero, List.set_cons_succ]
      refine wpAnyH_take (i := 10) (oi := ⟨some 27, _, _, _, _, _⟩) (v := .slice (some ⟨b, off, none⟩) n c) rfl (by kernel_rfl) (by kernel_rfl) (by kernel_rfl) (fun _ _ _ h => h) (Or.inl ⟨by rfl, ?_⟩) (HSA.out _ HX0.out) ?_
      · rintro w' ⟨t1, t2, t3, t4, t5⟩
        go_simp
      try simp only [Act.put, List.setIfInBounds_toArray, List.set_cons_zero, List.set_cons_succ]
      refine wpAnyH_take (i := 11) (oi := ⟨some 28, _, _, _, _, _⟩) (v := .int .i64 (k : Int)) rfl (by kernel_rfl) (by kernel_rfl) (by kernel_rfl) (fun _ _ _ h => h) (Or.inl ⟨by rfl, ?_⟩) (HSA.out _ HX0.out) ?_
      · rintro w' ⟨t1, t2, t3, t4, t5⟩
        go_simp
      try simp only [Act.put, List.setIfInBounds_toArray, List.set_cons_zero, List.set_cons_succ]
      refine wpAnyH_take (i := 12) (oi := ⟨some 29, _, _, _, _, _⟩) (v := .pointer (some ⟨b, off + k * 5, none⟩)) rfl (by kernel_rfl) (by kernel_rfl) (by kernel_rfl) (fun _ _ _ h => h) (Or.inl ⟨by rfl, ?_⟩) (HSA.out _ HX0.out) ?_
      · rintro w' ⟨t1, t2, t3, t4, t5⟩
        go_simp
      try simp only [Act.put, List.setIfInBounds_toArray, List.set_cons_zero, List.set_cons_succ]
      refine wpAnyH_take (i := 13) (oi := ⟨some 30, _, _, _, _, _⟩) (v := .agg #[.int .i64 x.a, .int .i64 x.b, .int .i64 x.k, .slice p1 n1 c1, .slice q1 m1 d1]) rfl (by kernel_rfl) (by kernel_rfl) (by kernel_rfl) (fun _ _ _ h => h) (Or.inl ⟨by rfl, ?_⟩) (HSA.out _ HX0.out) ?_
      · rintro w' ⟨t1, t2, t3, t4, t5⟩
        go_simp
      try simp only [Act.put, List.setIfInBounds_toArray, List.set_cons_zero, List.set_cons_succ]
      refine wpAnyH_ready (rs := [0]) (by kernel_rfl) (by simp) ?_
      refine AllReadyH.cons (o := ⟨some 17, .buildSlice 22 0 #[], _, _, _, _⟩) rfl (fun K hK => ?_) AllReadyH.nil
      go_simp
      have HX5 : Hid (Ext w (Wd.alloc (.cells #[] 26))) := Lib.hid (Ext.trans HX0.out (Ext.alloc _ _))
      have HB5 : Hid ((Wd.alloc (.cells #[] 26)).heap[w.heap.size]? = some (.cells #[.int .i64 0, .int .i64 0, .int .i64 0, .slice none 0 0, .slice none 0 0] 26 (0, 0))) := Lib.hid (heap_ext HBX.out (Ext.trans HXD.out (Ext.alloc _ _)))
      have HOW5 : Hid ((Wd.alloc (.cells #[] 26)).ownsRow (w.heap.size + 1) 26 5 (.slice (some ⟨Wd.heap.size, 0, none⟩) 0 0) 0 []) := Lib.hid (World.ownsRow_made Wd #[] 0 HDS.out (by decide) rfl)
      have HSZ5 : Hid (Wd.heap.size ≤ (Wd.alloc (.cells #[] 26)).heap.size) := Lib.hid (by simp)
      refine hK.out _ _ (HSA.out _ HX5.out) (fun _ => ?_)
      clear hK K
      try simp only [Act.put, List.setIfInBounds_toArray, List.set_cons_zero, List.set_cons_succ]
      refine wpAnyH_ready (rs := [4]) (by kernel_rfl) (by simp) ?_
      refine AllReadyH.cons (o := ⟨some 21, .call { callee := .builtin .append, args := #[.tmp 17, .tmp 20], argTypes := #[22, 22] }, _, _, _, _⟩) rfl (fun K hK => ?_) AllReadyH.nil
      refine Lay.step_append_own rfl (.tmp 17) (.tmp 20) 22 rfl (w.heap.size + 1) 26 i0 (.agg #[.int .i64 0, .int .i64 0, .int .i64 0, .slice none 0 0, .slice none 0 0]) 5 72 Try.underlying22 hi0 hzi0 hzi1 hzi2 rfl (by decide) (.slice (some ⟨Wd.heap.size, 0, none⟩) 0 0) (0) ([]) rfl HOW5.out (⟨b, off, none⟩) (k) (c) (vs.take (k * 5)) rfl (by have := HVL.out; have := HKN.out; simp; omega) (fun j u hj => by rw [addN]; rw [List.getElem?_take] at hj; split at hj; exact HCELL.out _ HX5.out j u hj; cases hj) (fun u hu => HONE.out u (by first | exact List.mem_of_mem_take hu | exact List.mem_of_mem_drop hu)) (by have := HNB.out; have := HKN.out; unfold maxLen; omega) (by have := HNB.out; have := HKN.out; omega) (by have := HDS.out; have := HSZ5.out; omega) ?_
      intro v6 w6 hown6 hg6 _
      have hlt6 := HOW5.out.lt
      have hx6 : Ext w w6 := Lay.grown_old HX5.out (fun k hk => by have := (hlt6 k hk).1; omega) hg6
      have hb6 : w6.heap[w.heap.size]? = some (.cells #[.int .i64 0, .int .i64 0, .int .i64 0, .slice none 0 0, .slice none 0 0] 26 (0, 0)) := by
        rw [hg6.block _ (Array.getElem?_eq_some_iff.1 HB5.out).1 (fun e => by have := (hlt6 _ e.symm).1; omega)]
        exact HB5.out
      have HSZ6 : Hid (Wd.heap.size ≤ w6.heap.size) := Lib.hid (Nat.le_trans HSZ5.out hg6.size)
      have HOW6 := Lib.hid hown6
      have HX6 := Lib.hid hx6
      have HB6 := Lib.hid hb6
      clear hown6 hg6 hlt6 hx6 hb6
      refine hK.out _ _ (HSA.out _ HX6.out) (fun _ => ?_)
      clear hK K
      try simp only [Act.put, List.setIfInBounds_toArray, List.set_cons_zero, List.set_cons_succ]
      refine wpAnyH_ready (rs := [9]) (by kernel_rfl) (by simp) ?_
      refine AllReadyH.cons (o := ⟨some 26, .call { callee := .builtin .append, args := #[.tmp 21, .tmp 25], argTypes := #[22, 22] }, _, _, _, _⟩) rfl (fun K hK => ?_) AllReadyH.nil
      refine Lay.step_append_own rfl (.tmp 21) (.tmp 25) 22 rfl (w.heap.size + 1) 26 i0 (.agg #[.int .i64 0, .int .i64 0, .int .i64 0, .slice none 0 0, .slice none 0 0]) 5 72 Try.underlying22 hi0 hzi0 hzi1 hzi2 rfl (by decide) (v6) (0 + k) ([] ++ vs.take (k * 5)) rfl HOW6.out (A) (n - (k + 1)) (c - (k + 1)) (vs.drop ((k + 1) * 5)) rfl (by have := HVL.out; have := HKN.out; simp; omega) (fun j u hj => HSRC.out _ HX6.out j u hj) (fun u hu => HONE.out u (by first | exact List.mem_of_mem_take hu | exact List.mem_of_mem_drop hu)) (by have := HNB.out; have := HKN.out; unfold maxLen; omega) (by have := HNB.out; have := HKN.out; omega) (by have := HDS.out; have := HSZ6.out; omega) ?_
      intro v9 w9 hown9 hg9 _
      have hlt9 := HOW6.out.lt
      have hx9 : Ext w w9 := Lay.grown_old HX6.out (fun k hk => by have := (hlt9 k hk).1; omega) hg9
      have hb9 : w9.heap[w.heap.size]? = some (.cells #[.int .i64 0, .int .i64 0, .int .i64 0, .slice none 0 0, .slice none 0 0] 26 (0, 0)) := by
        rw [hg9.block _ (Array.getElem?_eq_some_iff.1 HB6.out).1 (fun e => by have := (hlt9 _ e.symm).1; omega)]
        exact HB6.out
      have HSZ9 : Hid (Wd.heap.size ≤ w9.heap.size) := Lib.hid (Nat.le_trans HSZ6.out hg9.size)
      have HOW9 := Lib.hid hown9
      have HX9 := Lib.hid hx9
      have HB9 := Lib.hid hb9
      clear hown9 hg9 hlt9 hx9 hb9
      refine hK.out _ _ (HSA.out _ HX9.out) (fun _ => ?_)
      clear hK K
      try simp only [Act.put, List.setIfInBounds_toArray, List.set_cons_zero, List.set_cons_succ]
      have HALL : Hid (LMg.All w (vs.take (k * 5) ++ vs.drop ((k + 1) * 5)) (l.take k ++ l.drop (k + 1))) := Lib.hid ((HALLV.out.take k).append (HALLV.out.drop (k + 1)))
      obtain ⟨pv, nv, cv, rfl⟩ : ∃ p n c, v9 = .slice p n c := by
        rcases HOW9.out.2 with ⟨rfl, _⟩ | ⟨g, cap, cur, rfl, _⟩
        · exact ⟨_, _, _, rfl⟩
        · exact ⟨_, _, _, rfl⟩
      refine wpAnyH_take (i := 14) (oi := ⟨some 4, _, _, _, _, _⟩) (v := .slice pv nv cv) rfl (by kernel_rfl) (by kernel_rfl) (by kernel_rfl) (fun _ _ _ h => h) (Or.inl ⟨by rfl, ?_⟩) (HSA.out _ HX9.out) ?_
      · rintro w' ⟨t1, t2, t3, t4, t5⟩
        go_simp
      try simp only [Act.put, List.setIfInBounds_toArray, List.set_cons_zero, List.set_cons_succ]
      refine wpAnyH_ready (rs := [15]) (by kernel_rfl) (by simp) ?_
      refine AllReadyH.cons (o := ⟨none, .store 26 (.tmp 5) (.tmp 30), _, _, _, _⟩) rfl (fun K hK => ?_) AllReadyH.nil
      have z0 : w9.cell? ⟨w.heap.size, 0, none⟩ = some (.int .i64 0) := cell_of_row _ _ 0 _ _ _ HB9.out
      have z1 : w9.cell? ⟨w.heap.size, 1, none⟩ = some (.int .i64 0) := cell_of_row _ _ 1 _ _ _ HB9.out
      have z2 : w9.cell? ⟨w.heap.size, 2, none⟩ = some (.int .i64 0) := cell_of_row _ _ 2 _ _ _ HB9.out
      have z3 : w9.cell? ⟨w.heap.size, 3, none⟩ = some (.slice none 0 0) := cell_of_row _ _ 3 _ _ _ HB9.out
      have z4 : w9.cell? ⟨w.heap.size, 4, none⟩ = some (.slice none 0 0) := cell_of_row _ _ 4 _ _ _ HB9.out
      have y0 : w9.frozen? ⟨w.heap.size, 0, none⟩ = false := frozen_of_row _ _ _ _ _ HB9.out
      have y1 : w9.frozen? ⟨w.heap.size, 1, none⟩ = false := frozen_of_row _ _ _ _ _ HB9.out
      have y2 : w9.frozen? ⟨w.heap.size, 2, none⟩ = false := frozen_of_row _ _ _ _ _ HB9.out
      have y3 : w9.frozen? ⟨w.heap.size, 3, none⟩ = false := frozen_of_row _ _ _ _ _ HB9.out
      have y4 : w9.frozen? ⟨w.heap.size, 4, none⟩ = false := frozen_of_row _ _ _ _ _ HB9.out
      go_simp
      obtain ⟨hb10, hg10⟩ := set5 (a := .int .i64 x.a) (b := .int .i64 x.b) (c := .int .i64 x.k) (d := .slice p1 n1 c1) (e := .slice q1 m1 d1) HB9.out
      unfold set5W at hb10 hg10
      have hx10 : Ext w (((((w9.setCell ⟨w.heap.size, 0, none⟩ (.int .i64 x.a)).setCell ⟨w.heap.size, 1, none⟩ (.int .i64 x.b)).setCell ⟨w.heap.size, 2, none⟩ (.int .i64 x.k)).setCell ⟨w.heap.size, 3, none⟩ (.slice p1 n1 c1)).setCell ⟨w.heap.size, 4, none⟩ (.slice q1 m1 d1)) := Lay.grown_old HX9.out (fun k hk => by cases hk; exact Nat.le_refl _) hg10
      have HB10 := Lib.hid hb10
      have HG10 := Lib.hid hg10
      have HX10 := Lib.hid hx10
      refine hK.out _ _ (HSA.out _ hx10) (fun _ => ?_)
      clear hK K z0 z1 z2 z3 z4 y0 y1 y2 y3 y4
      obtain ⟨w10, hw10⟩ : ∃ w10, (((((w9.setCell ⟨w.heap.size, 0, none⟩ (.int .i64 x.a)).setCell ⟨w.heap.size, 1, none⟩ (.int .i64 x.b)).setCell ⟨w.heap.size, 2, none⟩ (.int .i64 x.k)).setCell ⟨w.heap.size, 3, none⟩ (.slice p1 n1 c1)).setCell ⟨w.heap.size, 4, none⟩ (.slice q1 m1 d1)) = w10 := ⟨_, rfl⟩
      rw [hw10] at HB10 HG10 HX10 ⊢
      clear hw10 hb10 hg10 hx10
      try simp only [Act.put, List.setIfInBounds_toArray, List.set_cons_zero, List.set_cons_succ]
      refine wpAnyH_take (i := 16) (oi := ⟨some 6, _, _, _, _, _⟩) (v := .bool true) rfl (by kernel_rfl) (by kernel_rfl) (by kernel_rfl) (fun _ _ _ h => h) (Or.inl ⟨by rfl, ?_⟩) (HSA.out _ HX10.out) ?_
      · rintro w' ⟨t1, t2, t3, t4, t5⟩
        go_simp
      try simp only [Act.put, List.setIfInBounds_toArray, List.set_cons_zero, List.set_cons_succ]
      refine wpAnyH_done (by kernel_rfl) ?_ _
      go_wp2
      refine bodyPost_ret (results_mid rfl _ _ w.heap.size 26 #[.int .i64 x.a, .int .i64 x.b, .int .i64 x.k, .slice p1 n1 c1, .slice q1 m1 d1] (0, 0) _ rfl HB10.out Try.underlying26 rfl (by kernel_rfl)) rfl ⟨?_, HX10.out⟩
      unfold RetTake
      rw [HT.out]
      refine ⟨p1, n1, c1, q1, m1, d1, _, rfl, ?_, HTX.out.ext HX10.out⟩
      have hne : (Value.slice pv nv cv).ownBlock = none ∨ (Value.slice pv nv cv).ownBlock ≠ some w.heap.size := by
        cases hv : (Value.slice pv nv cv).ownBlock with
        | none => exact .inl rfl
        | some g9 => exact .inr (fun e => by have := (HOW9.out.lt g9 hv).1; have := HDS.out; cases e; omega)
      exact sl_mk (HOW9.out.kept HG10.out hne) (by have := HLN.out; have := HKN.out; simp; omega) (HALL.out.ext HX10.out)
end Go.Proofs.Ytifbmkcfgpfefaa.Wi
